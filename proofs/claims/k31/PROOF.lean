import PyProof.Rows.All
import Wide.All
import OpenK.AllK
import Wide.FinOn
import Lean
import PyProof.EqAt
import PyProof.EqKinds
import PyProof.TupleCall
import PySem.Challenge.RW_bandwright_k31_whole_rings_and_ladders
set_option Elab.async false
set_option linter.all false
set_option maxRecDepth 100000
abbrev bV:=@decide_eq_false
abbrev zC:=@List.getElem?_eq_none_iff
abbrev ae:=@if_pos
abbrev aa:=@if_neg
abbrev aS:=@PySem.Heap.lt_size
abbrev cT:=@Nat.lt_of_lt_of_le
abbrev dm:=@Nat.lt_irrefl
abbrev bE:=@Nat.ne_of_lt
abbrev vW:=@PySem.W.hideAll_get
abbrev bF:=@List.mem_filter
abbrev aQ:=@List.mem_range
abbrev b5:=@Nat.le_trans
abbrev ky:=@Nat.le_of_lt
abbrev vX:=@List.filterMap_cons
abbrev dB:=@List.mem_cons_self
abbrev cB:=@List.mem_cons_of_mem
abbrev b3:=@List.mem_cons
abbrev dQ:=@List.mem_append
abbrev qp:=@List.mem_append_left
abbrev b9:=@List.getElem?_eq_some_iff
abbrev vY:=@List.getElem_inj
abbrev bo:=@PySem.wpAny_mono
abbrev nz:=@PySem.wpAny_truthy_bool
abbrev ee:=@Array.length_toList
abbrev b_:=@congrArg
abbrev vZ:=@PySem.wpAny_execs_nil
abbrev av:=@PySem.wpAny_bind
abbrev jG:=@PySem.wpAny_holding
abbrev lQ:=@PySem.wpAny_standAt
abbrev bG:=@PySem.wpAny_pure
abbrev tI:=@PySem.wpAny_newObj_type
abbrev bW:=@PySem.Heap.get?_push_of_some
abbrev i7:=@PySem.wpAny_rule
abbrev nC:=@PySem.wpAny_passesOwn
abbrev cK:=@Bool.false_ne_true
abbrev v_:=@PySem.wpAny_pyIter_list
abbrev dE:=@PySem.Heap.get?_push_size
abbrev aw:=@Nat.le_refl
abbrev zD:=@PyProof.Rows.callWith_type1
abbrev dq:=@List.mem_append_right
abbrev bU:=@Nat.zero_le
abbrev nE:=@Bool.eq_iff_iff
abbrev gO:=@PySem.sizeLine_eq
abbrev gP:=@PySem.W.kia_one
abbrev qq:=@List.append_nil
abbrev tJ:=@PySem.wpAny_Call_Name_kw
abbrev eh:=@List.nodup_cons
abbrev nF:=@List.length_take
abbrev jH:=@PySem.mem_of_lookup
abbrev iq:=@List.getElem?_append_right
abbrev ir:=@List.getElem?_append_left
abbrev bt:=@List.getElem?_map
abbrev i8:=@List.mem_of_getElem?
abbrev dh:=@List.length_append
abbrev aB:=@List.length_map
abbrev cL:=@List.length_cons
abbrev tK:=@List.length_nil
abbrev cf:=@decide_eq_true
abbrev zE:=@PySem.F.slot_tuple_add
abbrev zF:=@PySem.F.entry_tuple_add
abbrev zG:=@PySem.F.args_tuple_add_2
abbrev bP:=@List.size_toArray
abbrev qr:=@List.map_nil
abbrev bM:=@List.map_cons
abbrev iu:=@Bool.and_eq_true
abbrev tL:=@List.any_cons
abbrev qt:=@List.replicate_succ
abbrev tM:=@List.flatten_cons
abbrev lR:=@Nat.le_succ
abbrev fP:=@List.append_assoc
abbrev kB:=@List.length_singleton
abbrev zH:=@Array.getElem?_toList
abbrev cR:=@PySem.W.mg_of
abbrev jI:=@Nat.lt_of_le_of_lt
abbrev wa:=@Bool.not_eq_true'
abbrev zI:=@PySem.F.typeOf_object_class
abbrev tN:=@PySem.wpAny_loadPart_at
abbrev tO:=@PySem.codeAny_builtin
abbrev gv:=@List.all_eq_true
abbrev wb:=@PySem.wpAny_comprehension_free
abbrev wc:=@PySem.wpAny_newFunctionEnv
abbrev iw:=@PySem.lookup_relabel_local
abbrev wd:=@PySem.wpAny_tests_nil
abbrev we:=@PySem.wpAny_tests_one
abbrev wg:=@PySem.codeAny_compStart_list
abbrev cE:=@Int.le_of_lt
abbrev ei:=@List.getD_eq_getElem?_getD
abbrev cg:=@List.mem_singleton
abbrev b6:=@List.length_range
abbrev eN:=@List.getElem?_range
abbrev dH:=@List.getElem_mem
abbrev qu:=@Nat.sub_self
abbrev jJ:=@List.take_length
abbrev nG:=@List.not_mem_nil
abbrev jK:=@Nat.lt_succ_of_lt
abbrev tP:=@List.ext_getElem?
abbrev lT:=@List.getElem?_eq_none
abbrev tQ:=@List.range_succ
abbrev dR:=@List.map_append
abbrev fj:=@List.map_congr_left
abbrev i9:=@List.ext_getElem
abbrev ak:=@PyProof.Rows.wpS_bind
abbrev gQ:=@PyProof.Rows.wpS_get
abbrev aj:=@PyProof.Rows.wpS_pure
abbrev eO:=@PyProof.Rows.wpS_forRange
abbrev fb:=@PyProof.Rows.wpS_mono
abbrev tR:=@List.pairwise_append
abbrev tS:=@List.perm_append_comm
abbrev qv:=@List.take_append_drop
abbrev zJ:=@List.Perm.append_left
abbrev tT:=@List.take_of_length_le
abbrev qw:=@List.getElem_of_mem
abbrev iy:=@Int.le_refl
abbrev nH:=@List.pairwise_iff_getElem
abbrev i_:=@PyProof.Rows.wpS_modify
abbrev d7:=@of_decide_eq_true
abbrev cF:=@Int.le_trans
abbrev lU:=@Array.toList_push
abbrev jL:=@Array.toList_append
abbrev qy:=@Nat.lt_or_ge
abbrev zK:=@List.pairwise_reverse
abbrev qz:=@Array.toList_reverse
abbrev lV:=@List.mem_reverse
abbrev lW:=@List.reverse_perm
abbrev dF:=@Nat.zero_add
abbrev tU:=@Nat.not_lt_zero
abbrev tV:=@Nat.add_zero
abbrev qA:=@Array.perm_iff_toList_perm
abbrev bQ:=@List.getElem?_eq_getElem
abbrev tW:=@decide_eq_decide
abbrev bR:=@List.map_map
abbrev lY:=@PyProof.Rows.get?_update_seq
abbrev tX:=@PySem.Heap.size_update
abbrev lZ:=@PySem.Heap.get?_push_ne
abbrev nI:=@PyProof.Rows.size_push'
abbrev qB:=@PySem.Heap.get?_update_ne
abbrev qC:=@PyProof.Rows.listUpdate_at
abbrev qD:=@PySem.wpAny_newList
abbrev wj:=@Bool.false_eq_true
abbrev zL:=@List.length_eq_zero_iff
abbrev dr:=@List.nodup_range
abbrev jM:=@List.getElem_map
abbrev qE:=@List.getElem_range
abbrev bS:=@List.mem_map
abbrev ja:=@Int.eq_ofNat_of_zero_le
abbrev cU:=@Int.toNat_natCast
abbrev qF:=@List.filter_append
abbrev qG:=@List.length_filter_le
abbrev iz:=@List.pairwise_map
abbrev wm:=@List.pairwise_lt_range
abbrev qH:=@List.find?_cons
abbrev tY:=@List.any_eq_true
abbrev dS:=@decide_eq_true_iff
abbrev l5:=@List.nodup_append
abbrev tZ:=@List.idxOf_lt_length_of_mem
abbrev l6:=@List.take_succ
abbrev l7:=@List.map_id
abbrev iA:=@List.nodup_iff_pairwise_ne
abbrev kC:=@List.perm_ext_iff_of_nodup
abbrev cM:=@List.sum_cons
abbrev qI:=@List.pairwise_cons
abbrev nJ:=@Int.toNat_of_nonneg
abbrev wq:=@Bool.or_eq_true
abbrev l8:=@List.filter_cons
abbrev l9:=@List.idxOf_append
abbrev zM:=@List.pairwise_singleton
abbrev nK:=@PySem.Heap.SameBut.update
abbrev wu:=@PySem.F.entry_min_loop
abbrev wx:=@PySem.Around.under_plainId
abbrev l_:=@PySem.F.plain_min_loop
abbrev t5:=@PySem.wpAny_tryCatch
abbrev nM:=@Int.zero_add
abbrev qJ:=@List.map_eq_nil_iff
abbrev zN:=@Classical.byContradiction
abbrev zO:=@List.contains_iff_mem
abbrev qK:=@Nat.add_le_add_left
abbrev gx:=@PySem.PassesOwn.never
abbrev gR:=@PySem.boot_len
abbrev jN:=@PySem.F.plainAttrs_list
abbrev ma:=@PySem.F.slot_list_append
abbrev md:=@PySem.F.type_list_append
abbrev t8:=@PyProof.Rows.boot_sorted
abbrev kD:=@Int.emod_nonneg
abbrev nN:=@Int.emod_lt_of_pos
abbrev wA:=@Int.ediv_nonneg
abbrev fQ:=@PySem.W.mg_none_of
abbrev Ts:=List (List (Int×Int))
abbrev ax:=List (Int×Int)
abbrev Tx:=Nat→Nat→Int
abbrev cN:=PySem.Str→Option PySem.Value
abbrev aE:=PySem.Value→PySem.Shared→Prop
abbrev aC:=PySem.W.Frag
abbrev aP:=List (PySem.Addr×PySem.Obj)
namespace L2
open PySem PySem.Spec PyProof.Rows
abbrev Key:=Sum Int Str
def nO:Key→Value→Bool
 | .inl k,v=>Value.isInt k v
 | .inr x,v=>Value.isStrOf x v
def IT(w:World):Key→Int
 | .inl k=>hashInt k
 | .inr x=>hashStr w x
theorem jO:∀{k:Key} {v:Value},nO k v=true→(∃i t,k=Sum.inl i∧v=Value.int i t)∨(∃x t,k=Sum.inr x∧v=Value.str x t)
 | .inl i,v,h=>by obtain ⟨t,e⟩:=Value.isInt_shape (k:=i) (v:=v) h;exact .inl ⟨i,t,rfl,e⟩
 | .inr x,v,h=>by obtain ⟨t,e⟩:=Value.isStrOf_shape (x:=x) (v:=v) h;exact .inr ⟨x,t,rfl,e⟩
theorem IU(i:Int)(t:Tok):nO (.inl i) (.int i t)=true:=by simp [nO,Value.isInt]
theorem IV(x:Str)(t:Tok):nO (.inr x) (.str x t)=true:=by simp [nO,Value.isStrOf]
theorem IW(a b:Int):decide ((Sum.inl a:Key)=Sum.inl b)=(a == b):=by
 by_cases e:a=b;·subst e;simp
 ·have h:¬(Sum.inl a:Key)=Sum.inl b:=fun q=>e (Sum.inl.inj q)
  rw [bV h];exact (beq_eq_false_iff_ne.mpr e).symm
theorem IY(a b:Str):decide ((Sum.inr a:Key)=Sum.inr b)=decide (a=b):=by
 by_cases e:a=b;·subst e;simp
 ·have h:¬(Sum.inr a:Key)=Sum.inr b:=fun q=>e (Sum.inr.inj q)
  rw [bV h,bV e]
theorem IZ(a:Int)(b:Str):decide ((Sum.inl a:Key)=Sum.inr b)=false:=bV (fun q=>nomatch q)
theorem I0(a:Str)(b:Int):decide ((Sum.inr a:Key)=Sum.inl b)=false:=bV (fun q=>nomatch q)
def fm(prog:Program)(w:World):PySem.KeyKind prog w Key where
 is:=nO
 hash:=IT w
 inj:=fun v a b ha hb=>by
  rcases jO ha with ⟨i,t,rfl,rfl⟩ | ⟨x,t,rfl,rfl⟩
  ·rcases jO hb with ⟨j,u,rfl,e⟩ | ⟨y,u,rfl,e⟩
   ·injection e with e1 _;rw [e1]
   ·exact nomatch e
  ·rcases jO hb with ⟨j,u,rfl,e⟩ | ⟨y,u,rfl,e⟩
   ·exact nomatch e
   ·injection e with e1 _;rw [e1]
 byValue:=fun k v h=>by
  rcases jO h with ⟨i,t,rfl,rfl⟩ | ⟨x,t,rfl,rfl⟩ <;> rfl
 pyHash:=fun hv h=>by
  rcases jO hv with ⟨i,t,rfl,rfl⟩ | ⟨x,t,rfl,rfl⟩
  ·exact wpAny_pyHash_int h
  ·exact wpAny_pyHash_str h
 eqBool:=fun hu hv h=>by
  rcases jO hu with ⟨i,t,rfl,rfl⟩ | ⟨x,t,rfl,rfl⟩
  ·rcases jO hv with ⟨j,u,rfl,rfl⟩ | ⟨y,u,rfl,rfl⟩
   ·rw [IW] at h;exact wpAny_eqBool_int h
   ·rw [IZ] at h;exact SeqAt.EqAt.int_str i t y u _ _ _ _ h
  ·rcases jO hv with ⟨j,u,rfl,rfl⟩ | ⟨y,u,rfl,rfl⟩
   ·rw [I0] at h;exact SeqAt.EqAt.str_int x t j u _ _ _ _ h
   ·rw [IY] at h;exact wpAny_eqBool_str h
 «strs»:=fun k x t v h=>by
  rcases jO h with ⟨i,u,rfl,e⟩ | ⟨y,u,rfl,e⟩
  ·exact nomatch e
  ·injection e with e1 _
   subst e1
   cases v <;> rfl
theorem I_(prog:Program)(w:World)(i:Int)(t:Tok):(fm prog w).is (.inl i) (.int i t)=true:=IU i t
theorem Ja(prog:Program)(w:World)(x:Str)(t:Tok):(fm prog w).is (.inr x) (.str x t)=true:=IV x t
inductive V where
 | aN | bl (b:Bool) | int (i:Int) | str (x:Str) | jb (b:Array UInt8) | qL (b:UInt64) | ref (a:Addr) | ty (n:String)
 deriving DecidableEq
def RelV:V→Value→Prop
 | .aN,u=>u=Value.none
 | .bl b,u=>u=Value.bool b
 | .int i,u=>∃t,u=Value.int i t
 | .str x,u=>∃t,u=Value.str x t
 | .jb b,u=>∃t,u=Value.bytes b t
 | .qL b,u=>∃t,u=Value.float b t
 | .ref a,u=>u=Value.ref a
 | .ty n,u=>u=Value.type n
abbrev Vals:List V→List Value→Prop:=Paired RelV
variable {xs:List V} {us:List Value}
theorem Vals.length(r:Vals xs us):xs.length=us.length:=Paired.length r
theorem Vals.get:∀{xs:List V} {us:List Value} {i:Nat} {x:V},Vals xs us→xs[i]?=some x→∃u,us[i]?=some u∧RelV x u
 | _,_,_,_,.nil,e=>by simp at e
 | _,_,0,_,.cons r _,e=>by simp at e;subst e;exact ⟨_,rfl,r⟩
 | _,_,i+1,x,.cons _ t,e=>by
  obtain ⟨u,h1,h2⟩:=Vals.get (i:=i) (x:=x) t (by simpa using e)
  exact ⟨u,by simpa using h1,h2⟩
theorem Vals.set{x:V}{u:Value}(r:RelV x u):∀{xs:List V} {us:List Value} (i:Nat),Vals xs us→Vals (xs.set i x) (us.set i u)
 | _,_,_,.nil=>.nil
 | _,_,0,.cons _ t=>.cons r t
 | _,_,i+1,.cons q t=>.cons q (Vals.set r i t)
theorem Vals.append:∀{xs ys:List V} {us ws:List Value},Vals xs us→Vals ys ws→Vals (xs++ys) (us++ws)
 | _,_,_,_,.nil,s=>s
 | _,_,_,_,.cons r t,s=>.cons r (Vals.append t s)
theorem Vals.take:∀{xs:List V} {us:List Value} (n:Nat),Vals xs us→Vals (xs.take n) (us.take n)
 | _,_,0,_=>.nil
 | _,_,_+1,.nil=>.nil
 | _,_,n+1,.cons r t=>.cons r (Vals.take n t)
theorem Vals.drop:∀{xs:List V} {us:List Value} (n:Nat),Vals xs us→Vals (xs.drop n) (us.drop n)
 | _,_,0,r=>r
 | _,_,_+1,.nil=>.nil
 | _,_,n+1,.cons _ t=>Vals.drop n t
theorem Vals.none_of:∀{xs:List V} {us:List Value} {i:Nat},Vals xs us→xs[i]?=none→us[i]?=none:=fun{xs us i} r e=>by have h1:=r.length;have h2:xs.length≤i:=zC.mp e;exact zC.mpr (by omega)
def jc:Option V→Option Value→Prop
 | some v,some u=>RelV v u
 | none,none=>True
 | _,_=>False
def KV{κ:Type}:List (κ×V)→List (κ×Value)→Prop:=Paired fun(p:κ×V) (q:κ×Value)=>p.1=q.1∧RelV p.2 q.2
def kV:Key→V
 | .inl i=>.int i
 | .inr x=>.str x
inductive HO where
 | lst (xs:List V)
 | tup (xs:List V)
 | dK (kvs:List (Key×V)) | dT (kvs:List (List Key×V))
 | set (S:Int→Bool) (n:Nat)
 | ins (C dx:Addr) (fs:List (Str×V))
 | own (x:Addr)
 | xd (fs:List (Str×V))
 | met (f x:Addr)
 | bH (lo hi:Int)
 | bx (o:Obj) (u:HO)
 | kF (ps:Array Value)
 | ext (φ:Heap→Prop)
abbrev Hp:=Addr→Option HO
def upd(H:Hp)(a:Addr)(o:HO):Hp:=fun b=>if b=a then some o else H b
variable {H:Hp} {a:Addr} {o:HO}
theorem ar:upd H a o a=some o:=by unfold upd;rw [ae rfl]
variable {b:Addr}
theorem aR(h:b≠a):upd H a o b=H b:=by unfold upd;rw [aa h]
theorem Jb{u:HO}(h:H a=some o)(h':H b=some u)(d:o≠u):a≠b:=by intro e;subst e;rw [h] at h';exact d (Option.some.inj h')
theorem jd(h:H a=some o)(h':H b=none):a≠b:=by intro e;subst e;rw [h] at h';cases h'
section
variable (P:Program) (w:World)
def bX(H:Hp)(h:Heap)(a:Addr):HO→Prop
 | .lst xs=>xs.length≤sizeLine∧∃(ah:List Value) (n:Nat),Vals xs ah∧h.get? a=some {cls:=.type "list",data:=.seq ah.toArray n}
 | .tup xs=>xs.length≤sizeLine∧∃ah:List Value,Vals xs ah∧IsTup h a ah.toArray
 | .dK kvs=>kvs.length≤sizeLine∧(a == sysModules)=false∧∃vs,KV kvs vs∧h.DictOf (fm P w) a vs
 | .dT kvs=>kvs.length≤sizeLine∧(a == sysModules)=false∧∃xs:List (List Key×Addr×Value),
   Paired (fun(p:List Key×V) (q:List Key×Addr×Value)=>p.1=q.1∧H q.2.1=some (.tup (p.1.map kV))∧RelV p.2 q.2.2) kvs xs ∧
   ∃o es ep,h.get? a=some o∧o.ExactDict∧o.data=.dict es ep∧es.toList=xs.map (entryOfKey (tupleKind (fm P w)))∧(xs.map (·.1)).Nodup
 | .set S n=>h.SetOf (intKind P w) a S n
 | .ins C dx fs=>H dx=some (.own a)∧fs.length≤1000∧dx≠a∧h.get? a=some (PySem.W.instObj C dx) ∧
   ∃mA,h.Ns1 dx mA∧(∀f,jc (fs.lookup f) (mA f))∧PySem.Within mA (fs.map (·.1))
 | .own _=>∃o,h.get? a=some o
 | .xd fs=>∃mA,h.Ns1 a mA∧∀f,jc (fs.lookup f) (mA f)
 | .bH lo hi=>∃t u v,h.get? a=some {cls:=.type "range",data:=.fields #[.int lo t,.int hi u,.int 1 v]}
 | .bx o u=>h.get? a=some o∧bX H h a u
 | .kF ps=>h.get? a=some {cls:=.none,data:=.fields ps}
 | .met f x=>h.get? a=some (PySem.W.methodObj (.ref f) (.ref x))
 | .ext φ=>φ h∧(∃o,h.get? a=some o)∧∀h1 h2:Heap,φ h1→(∀o,h1.get? a=some o→h2.get? a=some o)→φ h2
def bY(H:Hp)(h:Heap):Prop:=∀a o,H a=some o→bX P w H h a o
end
section
variable {P:Program} {w:World} {H H':Hp} {h h':Heap} {a:Addr} {o:HO}
theorem bX.lt(x:bX P w H h a o):a<h.objs.size:=by
 cases o with
 | lst xs=>obtain ⟨_,_,_,_,e⟩:=x;exact aS e
 | tup xs=>obtain ⟨_,_,_,p⟩:=x;exact p.lt
 | dK kvs=>obtain ⟨_,_,_,_,o,_,_,e,_⟩:=x;exact aS e
 | dT kvs=>obtain ⟨_,_,_,_,o,_,_,e,_⟩:=x;exact aS e
 | set S n=>obtain ⟨o,_,_,_,e,_⟩:=x;exact aS e
 | ins C dx fs=>obtain ⟨_,_,_,e,_⟩:=x;exact aS e
 | own y=>obtain ⟨_,e⟩:=x;exact aS e
 | xd fs=>obtain ⟨_,⟨_,_,_,e,_⟩,_⟩:=x;exact aS e
 | bH lo hi=>obtain ⟨_,_,_,e⟩:=x;exact aS e
 | bx ob u=>obtain ⟨e,_⟩:=x;exact aS e
 | kF ps=>exact aS (show h.get? a=some _ from x)
 | met f y=>exact aS (show h.get? a=some _ from x)
 | ext φ=>obtain ⟨_,⟨_,e⟩,_⟩:=x;exact aS e
theorem Paired.zP{α β:Type}{F G:α→β→Prop}:∀{l₁:List α} {l₂:List β},Paired F l₁ l₂→(∀a b,F a b→G a b)→Paired G l₁ l₂
 | _,_,.nil,_=>.nil
 | _,_,.cons r t,f=>.cons (f _ _ r) (Paired.zP t f)
theorem bX.iB(x:bX P w H h a o)(k:∀b u,(b=a∨H b=some (.own a))→h.get? b=some u→h'.get? b=some u)
  (ho:∀b,H b=some (.own a)→H' b=some (.own a)) (ht:∀b xs,H b=some (.tup xs)→H' b=some (.tup xs)):bX P w H' h' a o:=by
 induction o with
 | lst xs=>obtain ⟨z,ah,n,r,e⟩:=x;exact ⟨z,ah,n,r,k _ _ (.inl rfl) e⟩
 | tup xs=>obtain ⟨z,ah,r,ob,e,c⟩:=x;exact ⟨z,ah,r,ob,k _ _ (.inl rfl) e,c⟩
 | dK kvs=>obtain ⟨z,y,vs,r,ob,es,ep,e,c⟩:=x;exact ⟨z,y,vs,r,ob,es,ep,k _ _ (.inl rfl) e,c⟩
 | dT kvs=>obtain ⟨z,y,xs,r,ob,es,ep,e,c⟩:=x;exact ⟨z,y,xs,Paired.zP r fun p q z=>⟨z.1,ht _ _ z.2.1,z.2.2⟩,ob,es,ep,k _ _ (.inl rfl) e,c⟩
 | set S n=>obtain ⟨ob,es,ep,t,e,c⟩:=x;exact ⟨ob,es,ep,t,k _ _ (.inl rfl) e,c⟩
 | ins C dx fs=>obtain ⟨d,z,ne,e,mA,⟨od,es,ep,e2,c⟩,r⟩:=x;exact ⟨ho _ d,z,ne,k _ _ (.inl rfl) e,mA,⟨od,es,ep,k _ _ (.inr d) e2,c⟩,r⟩
 | own y=>obtain ⟨ob,e⟩:=x;exact ⟨ob,k _ _ (.inl rfl) e⟩
 | xd fs=>obtain ⟨mA,⟨od,es,ep,e,c⟩,r⟩:=x;exact ⟨mA,⟨od,es,ep,k _ _ (.inl rfl) e,c⟩,r⟩
 | bH lo hi=>obtain ⟨t,u,v,e⟩:=x;exact ⟨t,u,v,k _ _ (.inl rfl) e⟩
 | bx ob u ih=>obtain ⟨e,q⟩:=x;exact ⟨k _ _ (.inl rfl) e,ih q⟩
 | kF ps=>have e:h.get? a=some {cls:=.none,data:=.fields ps}:=x;show h'.get? a=some {cls:=.none,data:=.fields ps};exact k a _ (.inl rfl) e
 | met f y=>have e:h.get? a=some (PySem.W.methodObj (.ref f) (.ref y)):=x;show h'.get? a=some (PySem.W.methodObj (.ref f) (.ref y));exact k a _ (.inl rfl) e
 | ext φ=>obtain ⟨p,⟨o,e⟩,st⟩:=x;exact ⟨st _ _ p fun o q=>k _ _ (.inl rfl) q,⟨o,k _ _ (.inl rfl) e⟩,st⟩
theorem bY.lt(x:bY P w H h)(e:H a=some o):a<h.objs.size:=(x a o e).lt
theorem bY.fresh(x:bY P w H h)(e:h.objs.size≤a):H a=none:=by
 cases q:H a with
 | none=>rfl
 | some u=>exact absurd (cT (x.lt q) e) (dm _)
theorem bY.kept(x:bY P w H h)(k:∀b u,h.get? b=some u→h'.get? b=some u):bY P w H h':=fun a o e=>(x a o e).iB (fun b u _ q=>k b u q) (fun _ q=>q) fun _ _ q=>q
theorem bY.laid(x:bY P w H h)(k:∀b u,h.get? b=some u→h'.get? b=some u)(hp:h.objs.size≤a)(new:bX P w (upd H a o) h' a o):bY P w (upd H a o) h':=fun b u e=>by
 have hn:=x.fresh hp;by_cases hb:b=a;·subst hb;rw [ar] at e;cases e;exact new
 ·rw [aR hb] at e
  exact (x b u e).iB (fun c v _ q=>k c v q) (fun c q=>by rw [aR (jd q hn)];exact q) fun c xs q=>by rw [aR (jd q hn)];exact q
end
def Rd(H:Hp)(a:Addr)(u:HO):Prop:=H a=some u∨∃o,H a=some (.bx o u)
variable {P:Program} {w:World} {h:Heap}
theorem Rd.ok{u:HO}(r:Rd H a u)(x:bY P w H h):bX P w H h a u:=by
 rcases r with r | ⟨o,r⟩;·exact x a u r
 ·obtain ⟨_,q⟩:=x a _ r
  exact q
def t9:Option HO→Prop
 | some (.lst _)=>True
 | some (.dK _)=>True
 | some (.dT _)=>True
 | some (.set _ _)=>True
 | some (.ins _ _ _)=>True
 | some (.ext _)=>True
 | _=>False
section
variable {P:Program} {w:World} {H:Hp} {h h':Heap} {x e:Addr} {o':HO}
theorem bY.write(ok:bY P w H h)(mu:t9 (H x))(he:e=x∨H e=some (.own x))(k:∀b u,b≠e→h.get? b=some u→h'.get? b=some u)(qM:∃u,h'.get? e=some u)
  (new:bX P w (upd H x o') h' x o'):bY P w (upd H x o') h':=fun b u q=>by
 have C9:∀c y,H c=some (.own y)→c≠x:=fun c y r z=>by subst z;rw [r] at mu;exact mu
 have Jc:∀c xs,H c=some (.tup xs)→c≠x:=fun c xs r z=>by subst z;rw [r] at mu;exact mu
 by_cases hb:b=x;·subst hb;rw [ar] at q;cases q;exact new
 ·rw [aR hb] at q
  by_cases nQ:b=e
  ·have q':H b=some (.own x):=by
    rcases he with z | z;·exact absurd (nQ.trans z) hb
    ·rw [nQ];exact z
   rw [q] at q';cases q';obtain ⟨v,hv⟩:=qM;exact ⟨v,by rw [nQ];exact hv⟩
  ·refine (ok b u q).iB (fun c v hc r=>k c v ?_ r) (fun c r=>by rw [aR (C9 c b r)];exact r) fun c xs r=>by rw [aR (Jc c xs r)];exact r
   rcases hc with rfl | hc;·exact nQ
   ·rintro rfl
    rcases he with z | z;·exact C9 c b hc z
    ·rw [hc] at z;cases z;exact hb rfl
end
structure Un (fs ex:List Addr) (H H':Hp) (h h':Heap):Prop where
 keep:∀b o,h.get? b=some o→H b=none→b∉fs→b∉ex→h'.get? b=some o
 slot:∀b o,h.get? b=some o→H b=none→b∈fs→b∉ex→∃sl,h'.get? b=some {o with slots:=sl}
 free:∀b o,h.get? b=some o→H b=none→b∉ex→H' b=none
 there:∀b o,h.get? b=some o→b∉ex→∃o',h'.get? b=some o'
 fu:∀b xs,H b=some (.tup xs)→H' b=some (.tup xs)
 fc:∀b o u,H b=some (.bx o u)→H' b=some (.bx o u)
 fv:∀b ps,H b=some (.kF ps)→∃more,H' b=some (.kF (ps++more))
section
variable {fs zQ ex zR:List Addr} {H H1 H2:Hp} {h h1 h2 h':Heap} {a x e:Addr} {o:HO}
theorem Un.any(u:Un fs ex H H1 h h1){ob:Obj}(q:h.get? b=some ob)(n:H b=none)(hx:b∉ex):∃sl,h1.get? b=some {ob with slots:=sl}:=by
 by_cases hb:b∈fs;·exact u.slot b ob q n hb hx
 ·exact ⟨ob.slots,u.keep b ob q n hb hx⟩
theorem Un.kept(k:∀b u,h.get? b=some u→h'.get? b=some u):Un fs ex H H h h':=
 ⟨fun b ob q _ _ _=>k b ob q,fun b ob q _ _ _=>⟨ob.slots,k b ob q⟩,fun _ _ _ n _=>n,fun b ob q _=>⟨ob,k b ob q⟩,fun _ _ q=>q,fun _ _ _ q=>q,fun _ ps q=>⟨#[],by rw [q];simp⟩⟩
theorem Un.refl:Un fs ex H H h h:=Un.kept fun _ _ q=>q
theorem Un.laid(k:∀b u,h.get? b=some u→h'.get? b=some u)(hp:h.objs.size≤a)(hn:H a=none):Un fs ex H (upd H a o) h h' where
 keep:=fun b u q _ _ _=>k b u q
 slot:=fun b u q _ _ _=>⟨u.slots,k b u q⟩
 free:=fun b u q n _=>by rw [aR (bE (cT (aS q) hp))];exact n
 there:=fun b u q _=>⟨u,k b u q⟩
 fu:=fun b xs q=>by rw [aR (jd q hn)];exact q
 fc:=fun b u xs q=>by rw [aR (jd q hn)];exact q
 fv:=fun b ps q=>⟨#[],by rw [aR (jd q hn),q];simp⟩
theorem Un.write(mu:t9 (H x))(he:e=x∨H e=some (.own x))(k:∀b u,b≠e→h.get? b=some u→h'.get? b=some u)(qM:∃u,h'.get? e=some u):Un fs ex H (upd H x o) h h':=by
 have hx:∀b,H b=none→b≠x:=fun b n z=>by subst z;rw [n] at mu;exact mu
 have hb:∀b,H b=none→b≠e:=fun b n z=>by
  subst z;rcases he with r | r;·exact hx b n r
  ·rw [n] at r;cases r
 have hm:∀b u,H b=some u→¬t9 (some u)→b≠x:=fun b u q nm z=>by subst z;rw [q] at mu;exact nm mu
 refine ⟨fun b u q n _ _=>k b u (hb b n) q,fun b u q n _ _=>⟨u.slots,k b u (hb b n) q⟩,fun b u q n _=>by rw [aR (hx b n)];exact n,fun b u q _=>?_,
  fun b xs q=>by rw [aR (hm b _ q fun z=>z)];exact q,fun b u xs q=>by rw [aR (hm b _ q fun z=>z)];exact q,fun b ps q=>⟨#[],by rw [aR (hm b _ q fun z=>z),q];simp⟩⟩
 by_cases nQ:b=e;·subst nQ;exact qM
 ·exact ⟨u,k b u nQ q⟩
end
def wB(h:Heap)(H:Hp):List Addr:=(List.range h.objs.size).filter fun a=>(H a).isSome
def kG(h:Heap)(H:Hp):Heap:=PySem.W.hideAll h (wB h H)
theorem Jd(h:Heap)(H:Hp):(kG h H).objs.size=h.objs.size:=PySem.W.hideAll_size _ _
theorem Je{o:Obj}(e:h.get? b=some o)(n:H b=none):(kG h H).get? b=some o:=
 vW _ e fun hm=>by have q:(H b).isSome=true:=(bF.mp hm).2;rw [n] at q;simp at q
theorem Jf{o:Obj}(e:(kG h H).get? b=some o):h.get? b=some o∧H b=none:=by
 have e':h.get? b=some o:=PySem.W.of_hideAll (wB h H) e;refine ⟨e',?_⟩;cases q:H b with
 | none=>rfl
 | some x=>
  have hm:b∈wB h H:=bF.mpr ⟨aQ.mpr (aS e'),by simp [q]⟩
  have z:(kG h H).get? b=none:=PySem.W.hideAll_none (wB h H) hm;rw [z] at e;cases e
structure Mod (K:aC) (mg:cN) (base:Heap):Prop where
 cO:K.In base
 glob:base.Ns mainGlobals mg
 blt:∃mb,base.Ns builtinsNs mb∧∀x:Str,x ≠ "__name__"→mb x=bootBuiltins x
 nolimit:base.NoLimit
structure Cx where
 prog:Program
 w:World
 K:PySem.W.Frag
 mg:Str→Option Value
 base:Heap
 A:Around
 N:List Str
 s₀:Shared
 H₀:Hp
 env:Env
 outer:List Env
 stack:List Env
 ex:List Addr
 fn:Str→Bool
 calm:Bool
 pn:List (Addr×Obj)
 xe:Value→Shared→Prop
def cj(l:List Env):List Addr:=l.filterMap (·.frame)
abbrev Cx.fs (X:Cx):List Addr:=cj X.outer
def nR(sc:Scope)(x:Str):Prop:=sc.names.lookup x=some .local∨sc.names.lookup x=some .cell∨sc.names.lookup x=some .free
def Loc(sc:Scope)(x:Str):Prop:=sc.names.lookup x=some .local∨sc.names.lookup x=some .cell
def Look(env:Env)(h:Heap)(m:cN)(x:Str)(u:Value):Prop:=
 (env.kindOf x=some .local∧m x=some u)∨((env.kindOf x=some .cell∨env.kindOf x=some .free)∧∃c,env.cells.lookup x=some c∧h.IsCell c (some u))
structure Cx.Ok (X:Cx):Prop where
 mod:Mod X.K X.mg X.base
 kind:X.env.scope.kind=.function
 glob:X.env.globals=mainGlobals
 blt:X.env.builtins=builtinsNs
 above:X.s₀.heap.objs.size≤X.env.locals
 inj:∀x y c,X.env.cells.lookup x=some c→X.env.cells.lookup y=some c→x=y
 has:∀x,(X.env.kindOf x=some .cell∨X.env.kindOf x=some .free)→∃c,X.env.cells.lookup x=some c
 t_:∀x c,X.fn x=true→X.env.cells.lookup x=some c→X.s₀.heap.objs.size≤c
 hd:X.calm=true→X.A.handled=none
 frames:X.A.frames=some X.stack
 gT:X.stack=X.outer∨(X.stack=X.env::X.outer∧X.env.frame=some X.env.locals)
 C_:∀b∈X.ex,b≠X.env.locals∧∀x c,X.env.cells.lookup x=some c→c≠b
 bs:∀b o,X.base.get? b=some o→X.s₀.heap.get? b=some o∧X.H₀ b=none
 gy:X.base.objs.size≤X.s₀.heap.objs.size
 me:∀b o,X.base.get? b=some o→b∉X.ex
 mf:∀b∈X.ex,b∉X.fs
 je:X.s₀.heap.FunFrames X.base X.outer
 mh:∀b∈X.fs,X.H₀ b=none
structure Inv (X:Cx) (pins:aP) (σ:List (Option V)) (H:Hp) (s:Shared):Prop where
 ok:X.Ok
 os:s.os=X.s₀.os
 bare:AllBare s.gens
 base:Un X.fs X.ex X.H₀ H X.s₀.heap s.heap
 loc:∃m,s.heap.Ns X.env.locals m∧∀(i:Nat) (x:Str) (v:V),X.N[i]?=some x→σ[i]?=some (some v)→nR X.env.scope x→∃u,RelV v u∧Look X.env s.heap m x u
 cell:∀x c,X.env.cells.lookup x=some c→∃v,s.heap.IsCell c v
 free:H X.env.locals=none
 gU:∀x c,X.env.cells.lookup x=some c→H c=none
 pin:∀p∈X.pn++pins,s.heap.get? p.1=some p.2∧H p.1=none∧p.1≠X.env.locals∧p.1∉X.fs∧∀v,p.2.data≠.cell v
 au:bY X.prog X.w H s.heap
 len:σ.length=X.N.length
section
variable {X:Cx} {pins:aP} {σ:List (Option V)} {H H':Hp} {s:Shared} {h':Heap}
theorem Cx.Ok.Jg(ok:X.Ok){o:Obj}(e:X.base.get? b=some o):b∉X.fs:=fun hb=>by have:=(ok.je.mem hb).1;rw [e] at this;cases this
theorem Inv.bs(I:Inv X pins σ H s):∀b o,X.base.get? b=some o→s.heap.get? b=some o∧H b=none:=fun b o e=>⟨I.base.keep b o (I.ok.bs b o e).1 (I.ok.bs b o e).2 (I.ok.Jg e) (I.ok.me b o e),I.base.free b o (I.ok.bs b o e).1 (I.ok.bs b o e).2 (I.ok.me b o e)⟩
theorem Inv.bk(I:Inv X pins σ H s):∀b o,X.base.get? b=some o→s.heap.get? b=some o:=fun b o e=>(I.bs b o e).1
theorem Inv.mod(I:Inv X pins σ H s):Mod X.K X.mg X.base:=I.ok.mod
theorem Inv.en(I:Inv X pins σ H s):X.K.In s.heap:=I.ok.mod.cO.keeps I.bk
theorem Inv.lt(I:Inv X pins σ H s):X.env.locals<s.heap.objs.size:=let ⟨_,hn,_⟩:=I.loc;hn.lt
theorem Inv.sz(I:Inv X pins σ H s):X.s₀.heap.objs.size≤s.heap.objs.size:=b5 I.ok.above (ky I.lt)
theorem Inv.Jh(I:Inv X pins σ H s)(h:s.heap.objs.size≤a):a∉X.fs:=fun hb=>by obtain ⟨_,o,ho,_⟩:=I.ok.je.mem hb;exact absurd (cT (aS ho) (b5 I.sz h)) (dm _)
theorem Inv.nS(I:Inv X pins σ H s):∀x c,X.env.cells.lookup x=some c→c≠X.env.locals:=fun x c e z=>by obtain ⟨v,o,ho,hd⟩:=I.cell x c e;obtain ⟨m,⟨o',es,ep,mj,Ji,_⟩,_⟩:=I.loc;rw [z,mj] at ho;cases ho;rw [Ji] at hd;cases hd
theorem Inv.je(I:Inv X pins σ H s):s.heap.FunFrames X.base X.outer:=by
 have all:∀(l:List Env),(∀b∈cj l,b∈X.fs)→X.s₀.heap.FunFrames X.base l→s.heap.FunFrames X.base l:=by
  intro l
  induction l with
  | nil=>intro _ _;trivial
  | cons env r ih=>
   intro hs hl;obtain ⟨hk,⟨L,o,hf,hn,ho,hd⟩,hr⟩:=hl;have hL:L∈X.fs:=hs L (by unfold cj;rw [vX,hf];exact dB)
   obtain ⟨sl,e⟩:=I.base.slot L o ho (I.ok.mh L hL) hL fun z=>I.ok.mf L z hL;exact ⟨hk,⟨L,_,hf,hn,e,hd⟩,ih (fun b hb=>hs b (by unfold cj;rw [vX,hf];exact cB _ hb)) hr⟩
 exact all X.outer (fun _ hb=>hb) I.ok.je
theorem Inv.stack(I:Inv X pins σ H s):s.heap.FunFrames X.base X.stack:=by
 rcases I.ok.gT with e | ⟨e,hf⟩;·rw [e];exact I.je
 ·rw [e]
  obtain ⟨m,hn,_⟩:=I.loc;refine .cons (by rw [I.ok.kind];decide) hf hn ?_ I.je
  exact Heap.get?_none_of_le (b5 I.ok.gy I.ok.above)
theorem Inv.qN(I:Inv X pins σ H s):∀b∈cj X.stack,b∈X.env.locals::X.fs:=fun b hb=>by
 rcases I.ok.gT with e | ⟨e,hf⟩;·rw [e] at hb;exact cB _ hb
 ·rw [e] at hb
  unfold cj at hb;rw [vX,hf] at hb;exact hb
theorem Inv.qO(I:Inv X pins σ H s):∀b∈cj X.stack,H b=none:=fun b hb=>by
 rcases b3.mp (I.qN b hb) with e | hb;·rw [e];exact I.free
 ·obtain ⟨_,o,ho,_⟩:=I.ok.je.mem hb
  exact I.base.free b o ho (I.ok.mh b hb) fun z=>I.ok.mf b z hb
theorem Inv.step{g':Array GenState}{t':Nat}{d':Drawn}{ch:List Addr}(I:Inv X pins σ H s)
  (jP:∀b∈ch,(b∈X.ex∨X.s₀.heap.objs.size≤b)∧b≠X.env.locals∧(∀x c,X.env.cells.lookup x=some c→c≠b)∧∀p∈X.pn++pins,p.1≠b)
  (keep:∀b o,b≠X.env.locals→b∉X.fs→b∉ch→s.heap.get? b=some o→H b=none→h'.get? b=some o)
  (slot:∀b o,b≠X.env.locals→b∈X.fs→b∉ch→s.heap.get? b=some o→H b=none→∃sl,h'.get? b=some {o with slots:=sl}) (free:∀b o,b∉ch→s.heap.get? b=some o→H b=none→H' b=none)
  (there:∀b o,b∉ch→s.heap.get? b=some o→∃o',h'.get? b=some o')
  (fu:∀b xs,H b=some (.tup xs)→H' b=some (.tup xs)) (fc:∀b o u,H b=some (.bx o u)→H' b=some (.bx o u)) (fv:∀b ps,H b=some (.kF ps)→∃more,H' b=some (.kF (ps++more)))
  (ns:∀m,s.heap.Ns X.env.locals m→h'.Ns X.env.locals m) (au:bY X.prog X.w H' h') (hg:AllBare g') :
  Inv X pins σ H' {s with heap:=h',gens:=g',drawn:=d',toks:=t'}:=by
 have De:∀b o,X.s₀.heap.get? b=some o→b≠X.env.locals:=fun b o e=>bE (cT (aS e) I.ok.above);have wC:∀b o,X.s₀.heap.get? b=some o→b∉X.ex→b∉ch:=fun b o e hx hb=>by
  rcases (jP b hb).1 with z | z;·exact hx z
  ·exact absurd (cT (aS e) z) (dm _)
 have cellK:∀x c,X.env.cells.lookup x=some c→∀v,s.heap.IsCell c v→h'.IsCell c v:=fun x c e v ⟨o,ho,hd⟩=>by
  have ua:c∉ch:=fun z=>(jP c z).2.2.1 x c e rfl;by_cases hc:c∈X.fs
  ·obtain ⟨sl,q⟩:=slot c o (I.nS x c e) hc ua ho (I.gU x c e)
   exact ⟨_,q,hd⟩
  ·exact ⟨o,keep c o (I.nS x c e) hc ua ho (I.gU x c e),hd⟩
 refine ⟨I.ok,I.os,hg,⟨fun b o e n hb hx=>?_,fun b o e n hb hx=>?_,fun b o e n hx=>?_,fun b o e hx=>?_,fun b xs e=>fu b xs (I.base.fu b xs e),fun b o xs e=>fc b o xs (I.base.fc b o xs e),fun b ps e=>?_⟩,?_,fun x c e=>?_,?_,fun x c e=>?_,fun p hp=>?_,au,I.len⟩;·exact keep b o (De b o e) hb (wC b o e hx) (I.base.keep b o e n hb hx) (I.base.free b o e n hx)
 ·obtain ⟨sl,e1⟩:=I.base.slot b o e n hb hx
  obtain ⟨Jj,e2⟩:=slot b _ (De b o e) hb (wC b o e hx) e1 (I.base.free b o e n hx);exact ⟨Jj,e2⟩
 ·obtain ⟨o',e1⟩:=I.base.there b o e hx
  exact free b o' (wC b o e hx) e1 (I.base.free b o e n hx)
 ·obtain ⟨o',e1⟩:=I.base.there b o e hx
  exact there b o' (wC b o e hx) e1
 ·obtain ⟨m1,e1⟩:=I.base.fv b ps e
  obtain ⟨m2,e2⟩:=fv b _ e1;exact ⟨m1++m2,by rw [e2,Array.append_assoc]⟩
 ·obtain ⟨m,hn,hl⟩:=I.loc
  refine ⟨m,ns m hn,fun i x v e1 e2 e3=>?_⟩;obtain ⟨u,r,l⟩:=hl i x v e1 e2 e3;refine ⟨u,r,?_⟩;rcases l with l | ⟨k,c,e,z⟩;·exact .inl l
  ·exact .inr ⟨k,c,e,cellK x c e _ z⟩
 ·obtain ⟨v,z⟩:=I.cell x c e
  exact ⟨v,cellK x c e v z⟩
 ·obtain ⟨m,⟨o,_,_,ho,_⟩,_⟩:=I.loc
  exact free _ o (fun z=>(jP _ z).2.1 rfl) ho I.free
 ·obtain ⟨v,o,ho,hd⟩:=I.cell x c e
  exact free c o (fun z=>(jP c z).2.2.1 x c e rfl) ho (I.gU x c e)
 ·obtain ⟨e,n,ne,nf,d⟩:=I.pin p hp
  have ua:p.1∉ch:=fun z=>(jP p.1 z).2.2.2 p hp rfl;exact ⟨keep p.1 p.2 ne nf ua e n,free p.1 p.2 ua e n,ne,nf,d⟩
variable {t':Nat}
theorem Inv.un(I:Inv X pins σ H s)(u:Un X.fs [] H H' s.heap h')(au:bY X.prog X.w H' h'):Inv X pins σ H' {s with heap:=h',toks:=t'}:=by
 obtain ⟨m,⟨o,es,ep,ho,r⟩,_⟩:=id I.loc;obtain ⟨sl,hL⟩:=u.any ho I.free (by simp)
 exact I.step (g':=s.gens) (d':=s.drawn) (ch:=[]) (fun _ z=>nomatch z) (fun b o _ hb _ e n=>u.keep b o e n hb (by simp)) (fun b o _ hb _ e n=>u.slot b o e n hb (by simp)) (fun b o _ e n=>u.free b o e n (by simp)) (fun b o _ e=>u.there b o e (by simp)) u.fu u.fc u.fv (fun m' hm=>by obtain ⟨o',zT,zU,mj,r'⟩:=hm;rw [ho] at mj;cases mj;exact ⟨_,zT,zU,hL,r'⟩) au I.bare
variable {ch:List Addr}
theorem Inv.call{g':Array GenState}{d':Drawn}(I:Inv X pins σ H s)(u:Un (cj X.stack) ch H H' s.heap h')(au:bY X.prog X.w H' h')(hg:AllBare g')
  (jP:∀b∈ch,(b∈X.ex∨X.s₀.heap.objs.size≤b)∧b≠X.env.locals∧(∀x c,X.env.cells.lookup x=some c→c≠b)∧∀p∈X.pn++pins,p.1≠b) :
  Inv X pins σ H' {s with heap:=h',gens:=g',drawn:=d',toks:=t'}:=by
 obtain ⟨m,⟨o,es,ep,ho,r⟩,_⟩:=id I.loc;obtain ⟨sl,hL⟩:=u.any ho I.free fun z=>(jP _ z).2.1 rfl;exact I.step (ch:=ch) jP (fun b o hL hb hc e n=>u.keep b o e n (fun z=>(b3.mp (I.qN b z)).elim hL hb) hc) (fun b o _ _ hc e n=>u.any e n hc) (fun b o hc e n=>u.free b o e n hc) (fun b o hc e=>u.there b o e hc) u.fu u.fc u.fv (fun m' hm=>by obtain ⟨o',zT,zU,mj,r'⟩:=hm;rw [ho] at mj;cases mj;exact ⟨_,zT,zU,hL,r'⟩) au hg
theorem Inv.turned{it:Addr}(I:Inv X pins σ H s)(k:∀b o,b≠it→s.heap.get? b=some o→h'.get? b=some o)(hn:H it=none)(hL:it≠X.env.locals)
  (h1:it∈X.ex∨X.s₀.heap.objs.size≤it) (h2:∀x c,X.env.cells.lookup x=some c→c≠it) (h3:∀p∈X.pn++pins,p.1≠it):Inv X pins σ H {s with heap:=h',toks:=t'}:=by
 have Df:∀b u,H b=some u→b≠it:=fun b u e z=>by rw [z,hn] at e;cases e
 refine I.step (g':=s.gens) (d':=s.drawn) (ch:=[it]) (fun b hb=>?_) (fun b o _ _ hc e _=>k b o (fun z=>hc (by simp [z])) e) (fun b o _ _ hc e _=>⟨o.slots,k b o (fun z=>hc (by simp [z])) e⟩) (fun _ _ _ _ n=>n)
  (fun b o hc e=>⟨o,k b o (fun z=>hc (by simp [z])) e⟩) (fun _ _ e=>e) (fun _ _ _ e=>e) (fun b ps e=>⟨#[],by rw [e];simp⟩) (fun m hm=>?_) (fun b u e=>?_) I.bare
 ·have e:b=it:=by simpa using hb
  subst e;exact ⟨h1,hL,h2,h3⟩
 ·obtain ⟨o,es,ep,ho,r⟩:=hm
  exact ⟨o,es,ep,k _ o (Ne.symm hL) ho,r⟩
 ·refine (I.au b u e).iB (fun c v hc q=>k c v ?_ q) (fun _ q=>q) fun _ _ q=>q
  rcases hc with z | z;·rw [z];exact Df b u e
  ·exact Df c _ z
theorem Inv.tok(I:Inv X pins σ H s)(t:Nat):Inv X pins σ H {s with toks:=t}:=I.un (h':=s.heap) (t':=t) Un.refl I.au
theorem Inv.kept(I:Inv X pins σ H s)(k:∀b u,s.heap.get? b=some u→h'.get? b=some u):Inv X pins σ H {s with heap:=h',toks:=t'}:=I.un (Un.kept k) (I.au.kept k)
theorem Inv.laid(I:Inv X pins σ H s)(k:∀b u,s.heap.get? b=some u→h'.get? b=some u)(hp:s.heap.objs.size≤a)(new:bX X.prog X.w (upd H a o) h' a o) :
  Inv X pins σ (upd H a o) {s with heap:=h',toks:=t'}:=I.un (Un.laid k hp (I.au.fresh hp)) (I.au.laid k hp new)
theorem Inv.write{x e:Addr}(I:Inv X pins σ H s)(mu:t9 (H x))(he:e=x∨H e=some (.own x))(k:∀b u,b≠e→s.heap.get? b=some u→h'.get? b=some u)(qM:∃u,h'.get? e=some u)
  (new:bX X.prog X.w (upd H x o) h' x o):Inv X pins σ (upd H x o) {s with heap:=h',toks:=t'}:=I.un (Un.write mu he k qM) (I.au.write mu he k qM new)
theorem Inv.Dg{Dh:aP}(I:Inv X pins σ H s)(h:∀p∈Dh,s.heap.get? p.1=some p.2∧H p.1=none∧p.1≠X.env.locals∧p.1∉X.fs∧∀v,p.2.data≠.cell v):Inv X Dh σ H s:=
 ⟨I.ok,I.os,I.bare,I.base,I.loc,I.cell,I.free,I.gU,fun p hp=>(dQ.mp hp).elim (fun z=>I.pin p (qp _ z)) (h p),I.au,I.len⟩
variable {i:Nat} {x:Str}
theorem Di{N:List Str}(hN:N.Nodup){j:Nat}(a:N[i]?=some x)(b:N[j]?=some x):i=j:=by obtain ⟨h1,e1⟩:=b9.mp a;obtain ⟨h2,e2⟩:=b9.mp b;exact (vY hN).mp (e1.trans e2.symm)
variable {M:Model} {A:Around} {E:aE} {u:Value} {Q:Unit→Shared→Prop}
theorem zV{v:V}(I:Inv X pins σ H s)(hN:X.N.Nodup)(hi:X.N[i]?=some x)(hx:Loc X.env.scope x)(r:RelV v u)
  (h:∀s',Inv X pins (σ.set i (some v)) H s'→(∃a,Heap.SameBut a s.heap s'.heap∧(a=X.env.locals∨X.env.cells.lookup x=some a))→Q () s') (hf:X.fn x=true∨X.env.scope.names.lookup x=some .local:=by first | exact .inl rfl | exact .inr rfl | assumption):wpAny M A (storeName X.env x u) Q E s:=by
 obtain ⟨m,hn,hl⟩:=id I.loc;have Jk:(X.env.scope.kind == .class || (X.env.scope.kind == .module && X.env.locals != X.env.globals))=false:=by rw [I.ok.kind];rfl
 have Dj:i<σ.length:=by rw [I.len];exact (b9.mp hi).1
 have nS:=I.nS;have tracked:∀{a:Addr} {h':Heap},(∃o,s.heap.get? a=some o∧H a=none)→Heap.SameBut a s.heap h'→bY X.prog X.w H h':=fun{a h'} ha hs b ob e=>by
  obtain ⟨_,_,Dk⟩:=ha;refine (I.au b ob e).iB (fun c w' hc q=>(hs.2 c ?_).trans q) (fun _ q=>q) fun _ _ q=>q;rintro rfl;rcases hc with rfl | hc;·rw [Dk] at e;cases e
  ·rw [Dk] at hc;cases hc
 rcases hx with hk | hk
 ·refine wpAny_storeName_local hk hn (fun h' Jl hs=>?_) Jk
  obtain ⟨oL,_,_,Jm,_⟩:=id hn;refine h _ ⟨I.ok,I.os,I.bare,⟨fun b o e n hb hx=>?_,fun b o e n hb hx=>?_,I.base.free,fun b o e hx=>?_,I.base.fu,I.base.fc,I.base.fv⟩,⟨_,Jl,fun j y v' e1 e2 e3=>?_⟩,fun y c e=>?_,I.free,I.gU,fun p hp=>?_,tracked ⟨oL,Jm,I.free⟩ hs,by simpa using I.len⟩ ⟨_,hs,.inl rfl⟩
  ·exact (hs.2 b (bE (cT (aS e) I.ok.above))).trans (I.base.keep b o e n hb hx)
  ·obtain ⟨sl,e1⟩:=I.base.slot b o e n hb hx
   exact ⟨sl,(hs.2 b (bE (cT (aS e) I.ok.above))).trans e1⟩
  ·obtain ⟨o',e1⟩:=I.base.there b o e hx
   exact ⟨o',(hs.2 b (bE (cT (aS e) I.ok.above))).trans e1⟩
  ·by_cases hj:j=i
   ·subst hj
    rw [hi] at e1;cases e1;rw [List.getElem?_set_self Dj] at e2;cases e2;exact ⟨u,r,.inl ⟨hk,by simp⟩⟩
   ·rw [List.getElem?_set_ne (Ne.symm hj)] at e2
    obtain ⟨u',r',q⟩:=hl j y v' e1 e2 e3;refine ⟨u',r',?_⟩;rcases q with ⟨k,e⟩ | ⟨k,c,e,z⟩
    ·refine .inl ⟨k,?_⟩
     have:y≠x:=fun e=>hj (Di hN e1 (e▸hi));simp [this,e]
    ·exact .inr ⟨k,c,e,z.sameBut hs (nS y c e)⟩
  ·obtain ⟨w',z⟩:=I.cell y c e
   exact ⟨w',z.sameBut hs (nS y c e)⟩
  ·obtain ⟨e,n,ne,nf,d⟩:=I.pin p hp
   exact ⟨(hs.2 p.1 ne).trans e,n,ne,nf,d⟩
 ·have zW:X.fn x=true:=by
   rcases hf with z | z;·exact z
   ·rw [z] at hk;cases hk
  obtain ⟨c,hc⟩:=I.ok.has x (.inl hk);obtain ⟨w',z⟩:=I.cell x c hc;refine wpAny_storeName_cell I.ok.kind hk hc z (fun h' iC hs=>?_);obtain ⟨oc,Dl,Jn⟩:=id z;refine h {s with heap:=h'} ⟨I.ok,I.os,I.bare,⟨fun b o e n hb hx=>?_,fun b o e n hb hx=>?_,I.base.free,fun b o e hx=>?_,I.base.fu,I.base.fc,I.base.fv⟩,⟨m,hn.sameBut hs (Ne.symm (nS x c hc)),fun j y v' e1 e2 e3=>?_⟩,fun y c' e=>?_,I.free,I.gU,fun p hp=>?_,tracked ⟨oc,Dl,I.gU x c hc⟩ hs,by simpa using I.len⟩ ⟨c,hs,.inr hc⟩
  ·exact (hs.2 b (bE (cT (aS e) (I.ok.t_ x c zW hc)))).trans (I.base.keep b o e n hb hx)
  ·obtain ⟨sl,e1⟩:=I.base.slot b o e n hb hx
   exact ⟨sl,(hs.2 b (bE (cT (aS e) (I.ok.t_ x c zW hc)))).trans e1⟩
  ·obtain ⟨o',e1⟩:=I.base.there b o e hx
   exact ⟨o',(hs.2 b (bE (cT (aS e) (I.ok.t_ x c zW hc)))).trans e1⟩
  ·by_cases hj:j=i
   ·subst hj
    rw [hi] at e1;cases e1;rw [List.getElem?_set_self Dj] at e2;cases e2;exact ⟨u,r,.inr ⟨.inl hk,c,hc,iC⟩⟩
   ·rw [List.getElem?_set_ne (Ne.symm hj)] at e2
    obtain ⟨u',r',q⟩:=hl j y v' e1 e2 e3;refine ⟨u',r',?_⟩;rcases q with q | ⟨k,c',e,z'⟩;·exact .inl q
    ·refine .inr ⟨k,c',e,z'.sameBut hs ?_⟩
     rintro rfl;exact hj (Di hN e1 (I.ok.inj _ _ _ e hc▸hi))
  ·by_cases Dm:c'=c
   ·subst Dm;exact ⟨_,iC⟩
   ·obtain ⟨w2,z2⟩:=I.cell y c' e
    exact ⟨w2,z2.sameBut hs Dm⟩
  ·obtain ⟨e,n,ne,nf,d⟩:=I.pin p hp
   refine ⟨(hs.2 p.1 ?_).trans e,n,ne,nf,d⟩;intro q;rw [q,Dl] at e;have q':oc=p.2:=Option.some.inj e;exact d w' (by rw [←q'];exact Jn)
theorem wG{v:V}(I:Inv X pins σ H s)(hN:X.N.Nodup)(hi:X.N[i]?=some x)(hx:Loc X.env.scope x)(r:RelV v u)
  (h:∀s',Inv X pins (σ.set i (some v)) H s'→Q () s') (hf:X.fn x=true∨X.env.scope.names.lookup x=some .local:=by first | exact .inl rfl | exact .inr rfl | assumption):wpAny M A (storeName X.env x u) Q E s:=
 zV I hN hi hx r (fun s' I' _=>h s' I') hf
theorem Inv.mq{s':Shared}(I:Inv X pins σ H s)(ho:s'.os=s.os)(u:Un (cj X.stack) ch H H' s.heap s'.heap)(au:bY X.prog X.w H' s'.heap)(hg:AllBare s'.gens)
  (jP:∀b∈ch,(b∈X.ex∨X.s₀.heap.objs.size≤b)∧b≠X.env.locals∧(∀x c,X.env.cells.lookup x=some c→c≠b)∧∀p∈X.pn++pins,p.1≠b):Inv X pins σ H' s':=by
 obtain ⟨h',g',d',t',o'⟩:=s';have e:o'=s.os:=ho;subst e;exact I.call (g':=g') (t':=t') (d':=d') u au hg jP
end
abbrev XK:=Value→Option Addr→Hp→Prop
abbrev St:=List (Option V)
abbrev VK:=V→Hp→Prop
abbrev TE:=St→Hp→VK→Prop
abbrev TT:=St→Hp→(Bool→Hp→Prop)→Prop
abbrev TA:=St→Hp→(List V→Hp→Prop)→Prop
structure Ends where
 nx:St→Hp→Prop
 rt:VK
 bk:St→Hp→Prop:=fun _ _=>False
 ct:St→Hp→Prop:=fun _ _=>False
abbrev TS:=Ends→St→Hp→Prop
def EP(X:Cx)(pins:aP)(σ:St)(Q:VK)(u:Value)(s':Shared):Prop:=∃v H',Inv X pins σ H' s'∧RelV v u∧Q v H'
def TP(X:Cx)(pins:aP)(σ:St)(Q:Bool→Hp→Prop)(b:Bool)(s':Shared):Prop:=∃H',Inv X pins σ H' s'∧Q b H'
def AP(X:Cx)(pins:aP)(σ:St)(Q:List V→Hp→Prop)(us:List Value)(s':Shared):Prop:=∃vs H',Inv X pins σ H' s'∧Vals vs us∧Q vs H'
def SP(X:Cx)(pins:aP)(D:Ends)(f:Flow)(s':Shared):Prop:=
 match f with
 | .next=>∃σ' H',Inv X pins σ' H' s'∧D.nx σ' H'
 | .brk=>∃σ' H',Inv X pins σ' H' s'∧D.bk σ' H'
 | .cont=>∃σ' H',Inv X pins σ' H' s'∧D.ct σ' H'
 | .ret u=>∃v σ' H',Inv X pins σ' H' s'∧RelV v u∧D.rt v H'
def PE(X:Cx)(e:Expr)(t:TE):Prop:=
 ∀(pins:aP) (s:Shared) (σ:St) (H:Hp) (Q:VK),Inv X pins σ H s→t σ H Q→wpAny (model X.prog X.w) X.A (eval e X.env) (EP X pins σ Q) X.xe s
def PT(X:Cx)(e:Expr)(t:TT):Prop:=
 ∀(pins:aP) (s:Shared) (σ:St) (H:Hp) (Q:Bool→Hp→Prop),Inv X pins σ H s→t σ H Q→wpAny (model X.prog X.w) X.A (isTrue e X.env (eval e X.env)) (TP X pins σ Q) X.xe s
def PW(X:Cx)(e:Expr)(t:TT):Prop:=
 ∀(whole:Sem Value) (pins:aP) (s:Shared) (σ:St) (H:Hp) (Q:Bool→Hp→Prop),Inv X pins σ H s→t σ H Q→wpAny (model X.prog X.w) X.A (isTrue e X.env whole) (TP X pins σ Q) X.xe s
variable {X:Cx}
theorem PW.pt{e:Expr}{t:TT}(h:PW X e t):PT X e t:=h _
def PA(X:Cx)(es:List Expr)(t:TA):Prop:=
 ∀(pos:Pos) (pins:aP) (s:Shared) (σ:St) (H:Hp) (Q:List V→Hp→Prop),Inv X pins σ H s→t σ H Q→wpAny (model X.prog X.w) X.A (spliced (backTo pos (starEach es X.env))) (AP X pins σ Q) X.xe s
def PS(X:Cx)(st:Stmt)(t:TS):Prop:=
 ∀(pins:aP) (s:Shared) (σ:St) (H:Hp) (D:Ends),Inv X pins σ H s→t D σ H→wpAny (model X.prog X.w) X.A (exec st X.env) (SP X pins D) X.xe s
def eQ(X:Cx)(st:List Stmt)(t:TS):Prop:=
 ∀(pins:aP) (s:Shared) (σ:St) (H:Hp) (D:Ends),Inv X pins σ H s→t D σ H→wpAny (model X.prog X.w) X.A (execs st X.env) (SP X pins D) X.xe s
variable {M:Model} {A:Around} {E:aE} {s:Shared}
theorem aF{α:Type}{t:Sem α}{Q Q':α→Shared→Prop}(h:wpAny M A t Q E s)(hQ:∀a s,Q a s→Q' a s):wpAny M A t Q' E s:=bo h hQ fun _ _ x=>x
section
variable {X:Cx}
variable {pins:aP} {σ:St}
theorem bin{a b:Expr}{ta tb:TE}(ha:PE X a ta)(hb:PE X b tb){R:V→V→Hp→Prop}(I:Inv X pins σ H s)(h:ta σ H fun x H1=>tb σ H1 fun y H2=>R x y H2)
  {α:Type} {Q:α→Shared→Prop} {f:Value→Value→Sem α}
  (hf:∀v u s2 x y H2,Inv X pins σ H2 s2→RelV x v→RelV y u→R x y H2→wpAny (model X.prog X.w) X.A (f v u) Q X.xe s2) :
  wpAny (model X.prog X.w) X.A (eval a X.env) (fun v s₁=>wpAny (model X.prog X.w) X.A (eval b X.env) (fun u s₂=>wpAny (model X.prog X.w) X.A (f v u) Q X.xe s₂) X.xe s₁) X.xe s:=by
 refine aF (ha pins s σ H _ I h) fun v s1 ⟨x,H1,I1,r1,q1⟩=>?_;refine aF (hb pins s1 σ H1 _ I1 q1) fun u s2 ⟨y,H2,I2,r2,q2⟩=>?_;exact hf v u s2 x y H2 I2 r1 r2 q2
def Dn(i:Nat):TE:=fun σ H Q=>∃v,σ[i]?=some (some v)∧Q v H
def tC(v:V):TE:=fun _ H Q=>Q v H
variable {x:Str} {pos:Pos}
theorem Jo{i:Nat}(hN:X.N[i]?=some x)(hv:nR X.env.scope x)(hd:(x == ("__debug__":Str))=false:=by decide)(gz:(x == ("__classdict__":Str))=false:=by decide):PE X (.Name x pos) (Dn i):=by
 intro pins s σ H Q I h;obtain ⟨v,e,h⟩:=h;obtain ⟨m,hn,hl⟩:=I.loc;obtain ⟨u,r,l⟩:=hl i x v hN e hv;have fin:EP X pins σ Q u s:=⟨v,H,I,r,h⟩;rcases l with ⟨hk,hm⟩ | ⟨hk,c,hc,Dp⟩;·exact wpAny_Name (wpAny_loadName_local I.ok.kind hk hn hm fin) hd
 ·rcases hk with hk | hk
  ·exact wpAny_Name (wpAny_loadName_cell I.ok.kind hk hc Dp fin) hd
  ·exact wpAny_Name (wpAny_loadName_free I.ok.kind hk hc Dp fin gz) hd
theorem ay{i j pos}:PE X (.Constant (.int i) j pos) (tC (.int i)):=fun _ _ _ H _ I h=>wpAny_Constant_int ⟨.int i,H,I.tok _,⟨_,rfl⟩,h⟩
theorem jf{b j pos}:PE X (.Constant (.bool b) j pos) (tC (.bl b)):=fun _ _ _ H _ I h=>Constant_bool ⟨.bl b,H,I,rfl,h⟩
theorem Dq{x j pos}:PE X (.Constant (.str x) j pos) (tC (.str x)):=fun _ _ _ H _ I h=>Calls.Constant_str ⟨.str x,H,I.tok _,⟨_,rfl⟩,h⟩
def Gl(X:Cx)(x:Str):Prop:=X.env.kindOf x=some .globalImplicit
variable {u:Value} {Q:aE}
theorem zX(I:Inv X pins σ H s)(hg:Gl X x)(hm:X.mg x=some u)(h:Q u s)
  (hd:(x == ("__debug__":Str))=false:=by decide):wpAny (model X.prog X.w) X.A (eval (.Name x pos) X.env) Q E s:=
 Calls.Name_function_global I.ok.kind hg (Calls.loadGlobal_global (by rw [I.ok.glob];exact I.mod.glob.keeps I.bk) hm h) hd
theorem mw(I:Inv X pins σ H s)(hg:Gl X x)(hm:X.mg x=none)(hv:bootBuiltins x=some u)(h:Q u s)
  (hn:x ≠ "__name__":=by decide) (hd:(x == ("__debug__":Str))=false:=by decide):wpAny (model X.prog X.w) X.A (eval (.Name x pos) X.env) Q E s:=by
 obtain ⟨mb,h1,h2⟩:=I.mod.blt;exact Calls.Name_function_global I.ok.kind hg (Calls.loadGlobal_builtin (by rw [I.ok.glob];exact I.mod.glob.keeps I.bk) hm (by rw [I.ok.blt];exact h1.keeps I.bk) ((h2 x hn).trans hv) h) hd
theorem Jp{v:V}(hg:Gl X x)(hm:X.mg x=some u)(r:RelV v u)(hd:(x == ("__debug__":Str))=false:=by decide):PE X (.Name x pos) (tC v):=
 fun _ _ _ H _ I h=>zX I hg hm ⟨v,H,I,r,h⟩ hd
theorem zY{v:V}(hg:Gl X x)(hm:X.mg x=none)(hv:bootBuiltins x=some u)(r:RelV v u)(hn:x ≠ "__name__":=by decide)(hd:(x == ("__debug__":Str))=false:=by decide):PE X (.Name x pos) (tC v):=
 fun _ _ _ H _ I h=>mw I hg hm hv ⟨v,H,I,r,h⟩ hn hd
variable {a b:Expr} {ta tb:TE} {pos:Pos}
def PC(X:Cx)(op:CmpOp)(a b:Expr)(t:TE):Prop:=
 ∀(pins:aP) (s:Shared) (σ:St) (H:Hp) (Q:VK),Inv X pins σ H s→t σ H Q→
  wpAny (model X.prog X.w) X.A (eval a X.env) (fun v s₁=>wpAny (model X.prog X.w) X.A (eval b X.env) (fun u s₂=>wpAny (model X.prog X.w) X.A (compareOp op v u) (EP X pins σ Q) X.xe s₂) X.xe s₁) X.xe s
def tB(t:TE):TT:=fun σ H Q=>t σ H fun x H1=>∃c,x=.bl c∧Q c H1
theorem Jq{op:CmpOp}{t:TE}(h:PC X op a b t)(h1:behindInMarks op b=false:=by first | exact TB _ (by decide) (by decide) | rfl):PT X (.Compare a [op] [b] pos) (tB t):=by intro pins s σ H Q I hw;refine wpAny_isTrue_Compare1 (aF (h pins s σ H _ I hw) fun v s1 h1=>aF h1 fun u s2 h2=>aF h2 fun c s3 ⟨x,H1,I1,r1,q1⟩=>?_) h1;obtain ⟨d,rfl,q⟩:=q1;cases r1;exact nz ⟨H1,I1,q⟩
theorem zZ{e:Expr}{t:TE}(h:PE X e t)(he:∀whole,isTrue e X.env whole=(do let v ←whole;standAt e.pos;holding [v] (truthy v)):=by intro _;rfl):PT X e (tB t):=by
 intro pins s σ H Q I hw
 refine isTrue_plain (aF (h pins s σ H _ I hw) fun v s1 ⟨x,H1,I1,r1,q1⟩=>?_) (he _)
 obtain ⟨d,rfl,q⟩:=q1
 cases r1
 exact nz ⟨H1,I1,q⟩
variable {tA ub:TT} {rest:List Expr}
def Jr(t u:TT):TT:=fun σ H Q=>t σ H fun c H1=>if c=true then u σ H1 Q else Q false H1
def Js(t u:TT):TT:=fun σ H Q=>t σ H fun c H1=>if c=true then Q true H1 else u σ H1 Q
def Dr(t:TT):TT:=fun σ H Q=>t σ H fun c H1=>Q (!c) H1
theorem pw_and1(ha:PT X a tA):PW X (.BoolOp .And [a] pos) tA:=by
 intro wh pins s σ H Q I h;refine isTrue_and (aF (ha pins s σ H Q I h) fun c s1 e=>?_);cases c with
 | true=>exact isTrue_and_nil e
 | false=>exact e
theorem pw_or1(ha:PT X a tA):PW X (.BoolOp .Or [a] pos) tA:=by
 intro wh pins s σ H Q I h;refine isTrue_or (aF (ha pins s σ H Q I h) fun c s1 e=>?_);cases c with
 | false=>exact isTrue_or_nil e
 | true=>exact e
theorem pw_and(ha:PT X a tA)(hb:PW X (.BoolOp .And (b::rest) pos) ub):PW X (.BoolOp .And (a::b::rest) pos) (Jr tA ub):=by
 intro wh pins s σ H Q I h;refine isTrue_and (aF (ha pins s σ H _ I h) fun c s1 ⟨H1,I1,q1⟩=>?_);cases c with
 | true=>exact hb wh pins s1 σ H1 Q I1 q1
 | false=>exact ⟨H1,I1,q1⟩
theorem pw_or(ha:PT X a tA)(hb:PW X (.BoolOp .Or (b::rest) pos) ub):PW X (.BoolOp .Or (a::b::rest) pos) (Js tA ub):=by
 intro wh pins s σ H Q I h;refine isTrue_or (aF (ha pins s σ H _ I h) fun c s1 ⟨H1,I1,q1⟩=>?_);cases c with
 | true=>exact ⟨H1,I1,q1⟩
 | false=>exact hb wh pins s1 σ H1 Q I1 q1
theorem z5(ha:PT X a tA):PT X (.UnaryOp .Not a pos) (Dr tA):=by intro pins s σ H Q I h;exact isTrue_not (ha pins s σ H (fun c H1=>Q (!c) H1) I h)
def Jt(ta tb:TE):TE:=fun σ H Q=>ta σ H fun x H1=>∃c,x=.bl c∧if c=true then tb σ H1 Q else Q (.bl false) H1
def Ju(ta:TE):TE:=fun σ H Q=>ta σ H fun x H1=>∃c,x=.bl c∧Q (.bl (!c)) H1
theorem Ds{op}{t:TE}(h:PE X a t):PE X (.BoolOp op [a] pos) t:=fun pins s σ H Q I hw=>BoolOp_one (h pins s σ H Q I hw)
theorem Dt(ha:PE X a ta)(hb:PE X (.BoolOp .And (b::rest) pos) tb):PE X (.BoolOp .And (a::b::rest) pos) (Jt ta tb):=by
 intro pins s σ H Q I h;refine BoolOp_and (aF (ha pins s σ H _ I h) fun v s1 ⟨x,H1,I1,r1,q1⟩=>?_);obtain ⟨c,rfl,q1⟩:=q1;cases r1;refine nz ?_;cases c with
 | true=>exact hb pins s1 σ H1 Q I1 q1
 | false=>exact ⟨.bl false,H1,I1,rfl,q1⟩
theorem Jv(ha:PE X a ta):PE X (.UnaryOp .Not a pos) (Ju ta):=by intro pins s σ H Q I h;refine UnaryOp_ (aF (ha pins s σ H _ I h) fun v s1 ⟨x,H1,I1,r1,q1⟩=>?_);obtain ⟨c,rfl,q1⟩:=q1;cases r1;exact not_of (nz ⟨.bl (!c),H1,I1,rfl,q1⟩)
end
def bC(K:aC)(H:Hp)(a:Addr)(xs:List V):Prop:=
 Rd H a (.lst xs) ∨
  ∃(o:Obj) (ah:Array Value) (n:Nat),K.lookup a=some o∧o.cls=.type "list"∧o.dict=none∧o.data=.seq ah n∧ah.size≤sizeLine∧Vals xs ah.toList
def dt(K:aC)(H:Hp)(a:Addr)(xs:List V):Prop:=
 Rd H a (.tup xs) ∨
  ∃(o:Obj) (ah:Array Value) (n:Nat),K.lookup a=some o∧o.cls=.type "tuple"∧o.data=.seq ah n∧ah.size≤sizeLine∧Vals xs ah.toList
def Jw:Value→Option V
 | .none=>some .aN
 | .bool b=>some (.bl b)
 | .int i _=>some (.int i)
 | .str x _=>some (.str x)
 | .bytes b _=>some (.jb b)
 | .float b _=>some (.qL b)
 | .ref a=>some (.ref a)
 | .type n=>some (.ty n)
 | _=>none
variable {x:V} {u:Value}
theorem RelV.abs(r:RelV x u):Jw u=some x:=by
 cases x with
 | aN=>cases r;rfl
 | bl _=>cases r;rfl
 | int _=>obtain ⟨t,rfl⟩:=r;rfl
 | str _=>obtain ⟨t,rfl⟩:=r;rfl
 | jb _=>obtain ⟨t,rfl⟩:=r;rfl
 | qL _=>obtain ⟨t,rfl⟩:=r;rfl
 | ref _=>cases r;rfl
 | ty _=>cases r;rfl
theorem RelV.inj{y:V}(r:RelV x u)(q:RelV y u):x=y:=Option.some.inj (r.abs.symm.trans q.abs)
theorem Vals.inj:∀{xs ys:List V} {us:List Value},Vals xs us→Vals ys us→xs=ys
 | _,_,_,.nil,.nil=>rfl
 | _,_,_,.cons r t,.cons r' t'=>by rw [r.inj r',Vals.inj t t']
section
variable {X:Cx} {pins:aP} {σ:St} {H:Hp} {s:Shared} {a:Addr} {xs ys:List V}
variable {K:aC}
theorem bC.of(h:H a=some (.lst xs)):bC K H a xs:=.inl (.inl h)
theorem dt.of(h:H a=some (.tup xs)):dt K H a xs:=.inl (.inl h)
theorem Inv.list(I:Inv X pins σ H s)(h:bC X.K H a xs):∃ah:List Value,Vals xs ah∧PlainL s.heap a ah.toArray∧xs.length≤sizeLine:=by
 rcases h with h | ⟨o,ah,n,hk,hc,hd,hs,hz,r⟩
 ·obtain ⟨z,ah,n,r,e⟩:=h.ok I.au
  exact ⟨ah,r,⟨_,n,e,rfl,rfl,rfl⟩,z⟩
 ·refine ⟨ah.toList,r,⟨o,n,I.en a o hk,hc,hd,by simpa using hs⟩,?_⟩
  have e:=r.length;simp only [ee] at e;omega
theorem Inv.tuple(I:Inv X pins σ H s)(h:dt X.K H a xs):∃ah:List Value,Vals xs ah∧IsTup s.heap a ah.toArray∧xs.length≤sizeLine:=by
 rcases h with h | ⟨o,ah,n,hk,hc,hs,hz,r⟩
 ·obtain ⟨z,ah,r,p⟩:=h.ok I.au
  exact ⟨ah,r,p,z⟩
 ·refine ⟨ah.toList,r,⟨o,I.en a o hk,hc,n,by simpa using hs⟩,?_⟩
  have e:=r.length;simp only [ee] at e;omega
theorem Inv.Du(I:Inv X pins σ H s)(h:bC X.K H a xs)(h':bC X.K H a ys):xs=ys:=by
 obtain ⟨ah,r,⟨o,n,e,_,_,d⟩,_⟩:=I.list h;obtain ⟨its',r',⟨o',n',e',_,_,d'⟩,_⟩:=I.list h';rw [e] at e';cases e';rw [d] at d';injection d' with d1 _;have:ah=its':=by simpa using b_ Array.toList d1
 subst this;exact r.inj r'
theorem Inv.Jx(I:Inv X pins σ H s)(h:dt X.K H a xs)(h':dt X.K H a ys):xs=ys:=by
 obtain ⟨ah,r,⟨o,e,_,n,d⟩,_⟩:=I.tuple h;obtain ⟨its',r',⟨o',e',_,n',d'⟩,_⟩:=I.tuple h';rw [e] at e';cases e';rw [d] at d';injection d' with d1 _;have:ah=its':=by simpa using b_ Array.toList d1
 subst this;exact r.inj r'
end
abbrev Cx.jQ (X:Cx) (E:aE):Cx:={X with xe:=E}
abbrev Cx.nU (X:Cx):Cx:=X.jQ fun _ _=>False
theorem Cx.Ok.jQ(ok:X.Ok)(E:aE):(X.jQ E).Ok:=
 ⟨ok.mod,ok.kind,ok.glob,ok.blt,ok.above,ok.inj,ok.has,ok.t_,ok.hd,ok.frames,ok.gT,ok.C_,ok.bs,ok.gy,ok.me,ok.mf,ok.je,ok.mh⟩
theorem Cx.Ok.my(ok:(X.jQ E).Ok):X.Ok:=
 ⟨ok.mod,ok.kind,ok.glob,ok.blt,ok.above,ok.inj,ok.has,ok.t_,ok.hd,ok.frames,ok.gT,ok.C_,ok.bs,ok.gy,ok.me,ok.mf,ok.je,ok.mh⟩
section
variable {X:Cx} {pins:aP} {σ:St} {H:Hp} {s:Shared} {E:aE}
theorem Inv.jQ(I:Inv X pins σ H s)(E:aE):Inv (X.jQ E) pins σ H s:=⟨I.ok.jQ E,I.os,I.bare,I.base,I.loc,I.cell,I.free,I.gU,I.pin,I.au,I.len⟩
theorem Inv.my(I:Inv (X.jQ E) pins σ H s):Inv X pins σ H s:=⟨I.ok.my,I.os,I.bare,I.base,I.loc,I.cell,I.free,I.gU,I.pin,I.au,I.len⟩
theorem SP.my{D:Ends}{f:Flow}{s':Shared}(h:SP (X.jQ E) pins D f s'):SP X pins D f s':=by
 cases f with
 | next=>obtain ⟨σ',H',I,q⟩:=h;exact ⟨σ',H',I.my,q⟩
 | brk=>obtain ⟨σ',H',I,q⟩:=h;exact ⟨σ',H',I.my,q⟩
 | cont=>obtain ⟨σ',H',I,q⟩:=h;exact ⟨σ',H',I.my,q⟩
 | ret u=>obtain ⟨v,σ',H',I,r,q⟩:=h;exact ⟨v,σ',H',I.my,r,q⟩
theorem eQ.nU{st:List Stmt}{t:TS}(h:eQ X.nU st t):eQ X st t:=fun pins s σ H D I hw=>bo (h pins s σ H D (I.jQ _) hw) (fun _ _ q=>q.my) fun _ _ z=>False.elim z
end
section
variable {X:Cx} {st:Stmt} {rest:List Stmt} {t u:TS} {e:Expr} {te:TE} {pos:Pos}
def qP:TS:=fun D σ H=>D.nx σ H
def Dv(t u:TS):TS:=fun D σ H=>t {D with nx:=u D} σ H
theorem fz:eQ X [] qP:=fun _ _ σ H _ I h=>vZ ⟨σ,H,I,h⟩
theorem aI(h1:PS X st t)(h2:eQ X rest u):eQ X (st::rest) (Dv t u):=by
 intro pins s σ H D I h;refine wpAny_execs_cons (aF (h1 pins s σ H {D with nx:=u D} I h) fun f s1 q=>?_);cases f with
 | next=>obtain ⟨σ',H',I',q⟩:=q;exact h2 pins s1 σ' H' D I' q
 | ret v=>exact q
 | brk=>exact q
 | cont=>exact q
theorem a8(h1:PS X st t):eQ X [st] t:=by
 intro pins s σ H D I h;refine wpAny_execs_cons (aF (h1 pins s σ H D I h) fun f s1 q=>?_);cases f with
 | next=>exact vZ q
 | ret v=>exact q
 | brk=>exact q
 | cont=>exact q
theorem Inv.quiet{pins:aP}{σ:St}(I:Inv X pins σ H s):interactive X.env=false:=by simp [interactive,I.ok.kind]
def Jy(te:TE):TS:=fun D σ H=>te σ H fun _ H1=>D.nx σ H1
theorem iD(he:PE X e te)(hs:swapsWith e none pos.line X.env=pure false:=by rfl):PS X (.Expr e pos) (Jy te):=by intro pins s σ H D I h;exact wpAny_Expr_any (aF (he pins s σ H _ I h) fun v s1 ⟨x,H1,I1,r1,q1⟩=>⟨σ,H1,I1,q1⟩) I.quiet hs
def Dw(te:TE):TS:=fun D σ H=>te σ H D.rt
theorem cP(he:PE X e te):PS X (.Return (some e) pos) (Dw te):=by intro pins s σ H D I h;exact wpAny_Return_some (aF (he pins s σ H _ I h) fun v s1 ⟨x,H1,I1,r1,q1⟩=>⟨x,σ,H1,I1,r1,q1⟩)
def Jz(c:TT)(t u:TS):TS:=fun D σ H=>c σ H fun b H1=>if b=true then t D σ H1 else u D σ H1
theorem fA{c:Expr}{a b:List Stmt}{tc:TT}(hc:PT X c tc)(ha:eQ X a t)(hb:eQ X b u):PS X (.If c a b pos) (Jz tc t u):=by
 intro pins s σ H D I h;refine wpAny_If (aF (hc pins s σ H _ I h) fun d s1 ⟨H1,I1,q1⟩=>?_);cases d with
 | true=>exact ha pins s1 σ H1 D I1 q1
 | false=>exact hb pins s1 σ H1 D I1 q1
end
abbrev TG:=V→St→Hp→(St→Hp→Prop)→Prop
abbrev nV:=List V→St→Hp→(St→Hp→Prop)→Prop
def PG(X:Cx)(target:Expr)(t:TG):Prop:=
 ∀(pins:aP) (s:Shared) (σ:St) (H:Hp) (v:V) (u:Value) (Q:St→Hp→Prop),Inv X pins σ H s→RelV v u→t v σ H Q→
  wpAny (model X.prog X.w) X.A (assign target X.env u) (fun _ s'=>∃σ' H',Inv X pins σ' H' s'∧Q σ' H') X.xe s
def wH(X:Cx)(ts:List Expr)(t:nV):Prop:=
 ∀(pins:aP) (s:Shared) (σ:St) (H:Hp) (vs:List V) (us:List Value) (Q:St→Hp→Prop),Inv X pins σ H s→Vals vs us→t vs σ H Q→
  wpAny (model X.prog X.w) X.A (assignInOrder ((assignEach ts X.env).map (·.2)) us) (fun _ s'=>∃σ' H',Inv X pins σ' H' s'∧Q σ' H') X.xe s
abbrev z6:=V→V→V→Hp→(Hp→Prop)→Prop
def Dy(X:Cx)(t:z6):Prop:=
 ∀(pins:aP) (s:Shared) (σ:St) (H:Hp) (o i v:V) (ov iv u:Value) (Q:Hp→Prop),Inv X pins σ H s→RelV o ov→RelV i iv→RelV v u→t o i v H Q→
  wpAny (model X.prog X.w) X.A (setItem ov iv u) (fun _ s'=>∃H',Inv X pins σ H' s'∧Q H') X.xe s
section
variable {X:Cx} {pos:Pos}
def aY(i:Nat):TG:=fun v σ H Q=>Q (σ.set i (some v)) H
variable {i:Nat}
theorem dI{x:Str}(hN:X.N.Nodup)(hi:X.N[i]?=some x)(hx:Loc X.env.scope x)(hf:X.fn x=true∨X.env.scope.names.lookup x=some .local:=by first | exact .inl rfl | exact .inr rfl | assumption):PG X (.Name x pos) (aY i):=by intro pins s σ H v u Q I r h;exact wpAny_assign_Name (wG I hN hi hx r (fun s' I'=>⟨_,H,I',h⟩) hf)
def z7:nV:=fun vs σ H Q=>vs=[]∧Q σ H
def uc(t:TG)(u:nV):nV:=fun vs σ H Q=>∃v r,vs=v::r∧t v σ H fun σ' H'=>u r σ' H' Q
theorem ud:wH X [] z7:=by intro pins s σ H vs us Q I r h;obtain ⟨e,h⟩:=h;subst e;cases r;exact assignInOrder_nil ⟨σ,H,I,h⟩
variable {e:Expr} {es:List Expr}
theorem jR{t:TG}{u:nV}(h1:PG X e t)(h2:wH X es u)
  (hs:(assignEach (e::es) X.env).map (·.2)=assign e X.env::(assignEach es X.env).map (·.2):=by rfl):wH X (e::es) (uc t u):=by
 intro pins s σ H vs us Q I r h;obtain ⟨v,vr,e1,h⟩:=h;subst e1;cases r with
 | cons r rr=>rw [hs];refine assignInOrder_cons (aF (h1 pins s σ H _ _ _ I r h) fun _ s1 ⟨σ1,H1,I1,q1⟩=>?_);exact h2 pins s1 σ1 H1 _ _ Q I1 rr q1
def z8(K:aC)(n:Nat)(t:nV):TG:=fun v σ H Q=>∃a xs,v=.ref a∧dt K H a xs∧xs.length=n∧t xs σ H Q
theorem ue{k:Nat}{t:nV}{n:Nat}(hc:X.calm=true)(h:wH X es t)
  (hn:(assignEach es X.env).length=n:=by rfl) (JA:(assignEach es X.env).findIdx? (·.1)=none:=by rfl):PG X (.Tuple es k pos) (z8 X.K n t):=by
 intro pins s σ H v u Q I r hw;obtain ⟨a,xs,e1,hq,hl,hw⟩:=hw;subst e1;cases r;obtain ⟨ah,rv,ht,hz⟩:=I.tuple hq;refine assign_Tuple_tuple (I.ok.hd hc) ht (by simp [hn,←hl,rv.length]) JA fun h' hx=>?_
 have I1:Inv X pins σ H {s with heap:=h'}:=I.kept (t':=s.toks) fun b o e=>hx b o (bE (aS e)) e;exact h pins _ σ H xs _ Q I1 (by simpa using rv) hw
def JB(to ti:TE)(t:z6):TG:=fun v σ H Q=>to σ H fun o H1=>ti σ H1 fun i H2=>t o i v H2 fun H3=>Q σ H3
theorem uf{o i:Expr}{to ti:TE}{t:z6}(ho:PE X o to)(hi:PE X i ti)(hs:Dy X t)
  (ha:∀v,assign (.Subscript o i pos) X.env v=(do
   let ov ←holding [v] (eval o X.env)
   let iv ←holding [v,ov] (eval i X.env)
   standAt pos
   holding [v,ov,iv] (setItem ov iv v)
   release [v,ov,iv] []):=by intro _;rfl):PG X (.Subscript o i pos) (JB to ti t):=by
 intro pins s σ H v u Q I r h
 rw [ha]
 refine av (jG (aF (ho pins s σ H _ I h) fun ov s1 ⟨x,H1,I1,r1,q1⟩=>?_))
 refine av (jG (aF (hi pins s1 σ H1 _ I1 q1) fun iv s2 ⟨y,H2,I2,r2,q2⟩=>?_))
 refine av (lQ (av (jG (aF (hs pins s2 σ H2 x y v ov iv u _ I2 r1 r2 r q2) fun _ s3 ⟨H3,I3,q3⟩=>?_))))
 exact wpAny_release ⟨σ,H3,I3,q3⟩
def mB(te:TE)(g:TG):TS:=fun D σ H=>te σ H fun x H1=>g x σ H1 D.nx
theorem ug{tg e:Expr}{te:TE}{g:TG}(he:PE X e te)(hg:PG X tg g)(hs:swapsWithSole [tg] e pos.line X.env=pure false:=by rfl)(hw:swappedStores [tg] e X.env=pure none:=by rfl)
  (h1:(assignEach [tg] X.env).map (·.2)=[assign tg X.env]:=by rfl):PS X (.Assign [tg] e pos) (mB te g):=by
 intro pins s σ H D I h;refine wpAny_Assign_stores (aF (he pins s σ H _ I h) fun v s1 ⟨x,H1,I1,r1,q1⟩=>?_) hs hw;rw [h1];exact aF (hg pins s1 σ H1 x v _ I1 r1 q1) fun _ s2 q=>q
theorem JD{x:Str}{te:TE}{pos':Pos}(hN:X.N.Nodup)(hi:X.N[i]?=some x)(hx:Loc X.env.scope x)(he:PE X e te)(hs:swapsWith e (some (.Name x pos')) pos.line X.env=pure false:=by rfl)(hf:X.fn x=true∨X.env.scope.names.lookup x=some .local:=by first | exact .inl rfl | exact .inr rfl | assumption) :
  PS X (.Assign [.Name x pos'] e pos) (mB te (aY i)):=by
 intro pins s σ H D I h;refine wpAny_Assign_Name (aF (he pins s σ H _ I h) fun v s1 ⟨y,H1,I1,r1,q1⟩=>?_) hs;exact wG I1 hN hi hx r1 (fun s2 I2=>⟨_,H1,I2,q1⟩) hf
def JE(i j:Nat)(ta:TA):TS:=fun D σ H=>ta σ H fun vs H1=>∃v w,vs=[v,w]∧D.nx ((σ.set i (some v)).set j (some w)) H1
theorem JF{j:Nat}{x y:Str}{a b:Expr}{ta:TA}{px py pt:Pos}{kt k2 z9}(hc:X.calm=true)(hN:X.N.Nodup)(hi:X.N[i]?=some x)(hj:X.N[j]?=some y)(qQ:i≠j)
  (hx:X.env.scope.names.lookup x=some .local) (hy:X.env.scope.names.lookup y=some .local) (ha:PA X [a,b] ta)
  (hw:swappedStores [.Tuple [.Name x px,.Name y py] kt pt] (.Tuple [a,b] k2 z9) X.env=pure (some [x,y]))
  (hs:swapsWithSole [.Tuple [.Name x px,.Name y py] kt pt] (.Tuple [a,b] k2 z9) pos.line X.env=pure false:=by rfl) :
  PS X (.Assign [.Tuple [.Name x px,.Name y py] kt pt] (.Tuple [a,b] k2 z9) pos) (JE i j ta):=by
 intro pins s σ H D I h
 rw [exec_Assign_arm]
 refine av (lQ ?_)
 rw [hs]
 refine av (bG ?_)
 rw [aa (by decide)]
 refine av (Tuple_ (aF (ha _ pins s σ H _ I h) fun us s1 ⟨vs,H1,I1,r1,q1⟩=>?_))
 obtain ⟨v,w,e1,q1⟩:=q1
 subst e1
 obtain ⟨u1,u2,rfl,rv,gW⟩:∃u1 u2,us=[u1,u2]∧RelV v u1∧RelV w u2:=by
  cases r1 with
  | cons p q=>
   cases q with
   | cons p' q'=>
    cases q'
    exact ⟨_,_,rfl,p,p'⟩
 refine tI ?_ (by show 2≤sizeLine;decide)
 have I2:Inv X pins σ H1 {s1 with heap:=s1.heap.push {cls:=.type "tuple",data:=.seq [u1,u2].toArray}}:=I1.kept (t':=s1.toks) fun b o e=>bW _ e
 rw [hw]
 refine av (bG ?_)
 show wpAny (model X.prog X.w) X.A (do rule "assign.swapped-stores";let items ←unpackItems (.ref s1.heap.objs.size) 2 none;assignInOrder [fun v=>bindName X.env y v,fun v=>bindName X.env x v] items.reverse;pure Flow.next) _ _ _
 refine av (i7 (av (unpackItems_tuple (items:=#[u1,u2]) (I.ok.hd hc) (IsTup.new s1.heap _) fun h' JG=>?_)))
 have I3:=I2.kept (h':=h') (t':=s1.toks) fun b o e=>JG b o (bE (aS e)) e
 show wpAny _ _ (assignInOrder [fun v=>bindName X.env y v,fun v=>bindName X.env x v] [u2,u1] >>= fun _=>pure Flow.next) _ _ _
 refine av (assignInOrder_cons (wpAny_bindName (wG I3 hN hj (.inl hy) gW (fun s2 I4=>?_) (.inr hy))))
 refine assignInOrder_cons (wpAny_bindName (wG I4 hN hi (.inl hx) rv (fun s3 I5=>assignInOrder_nil (bG ?_)) (.inr hx)))
 rw [List.set_comm _ _ (Ne.symm qQ)] at I5
 exact ⟨_,H1,I5,q1⟩
end
section
variable {X:Cx} {pos:Pos}
def JH(c:TT)(tb:TS):TS:=fun D σ H=>∃W:Nat→St→Hp→Prop,(∃m,W m σ H)∧∀m σ H,W m σ H→
 c σ H fun b H1=>if b=true then ∃N:St→Hp→Prop,(∀σ' H',N σ' H'→∃m',m'<m∧W m' σ' H')∧tb {D with nx:=N,ct:=N,bk:=D.nx} σ H1 else D.nx σ H1
theorem z_{c:Expr}{body:List Stmt}{tc:TT}{tb:TS}(hp:PassesOwn (model X.prog X.w) X.A X.env X.xe)(hc:PT X c tc)(hb:eQ X body tb):PS X (.While c body [] pos) (JH tc tb):=by
 intro pins s σ H D I h;obtain ⟨W,⟨m0,w0⟩,turn⟩:=h;refine wpAny_While (codeAny_whileLoop (fun n s'=>∃σ' H',Inv X pins σ' H' s'∧W n σ' H') ?_ m0 ⟨σ,H,I,w0⟩);rintro n s1 ⟨σ1,H1,I1,w1⟩;refine nC hp (aF (hc pins s1 σ1 H1 _ I1 (turn n σ1 H1 w1)) fun b s2 ⟨H2,I2,q2⟩=>?_);cases b with
 | true=>
  obtain ⟨N,hN,q2⟩:=q2;rw [ae rfl];refine nC hp (aF (hb pins s2 σ1 H2 _ I2 q2) fun f s3 q3=>?_);cases f with
  | next=>obtain ⟨σ3,H3,I3,n3⟩:=q3;obtain ⟨m',hm,w3⟩:=hN σ3 H3 n3;exact ⟨m',hm,σ3,H3,I3,w3⟩
  | cont=>obtain ⟨σ3,H3,I3,n3⟩:=q3;obtain ⟨m',hm,w3⟩:=hN σ3 H3 n3;exact ⟨m',hm,σ3,H3,I3,w3⟩
  | brk=>exact q3
  | ret v=>exact q3
 | false=>rw [aa cK];exact vZ ⟨σ1,H2,I2,q2⟩
end
structure It where
 go:Nat→Hp→Prop
 cV:Nat→Hp→V→Hp→Prop
 stop:Nat→Hp→Prop
def jS(X:Cx)(pins:aP)(H:Hp)(b:Addr):Prop:=
 H b=none∧b≠X.env.locals∧b∉X.fs∧(b∈X.ex∨X.s₀.heap.objs.size≤b)∧(∀x c,X.env.cells.lookup x=some c→c≠b)∧∀p∈X.pn++pins,p.1≠b
variable {σ:St}
theorem Inv.uh{pins:aP}{H':Hp}(I:Inv X pins σ H s)(hb:s.heap.objs.size≤b)(hn:H' b=none):jS X pins H' b:=by
 refine ⟨hn,Nat.ne_of_gt (cT I.lt hb),I.Jh hb,.inr (b5 I.sz hb),fun x c e z=>?_,fun p hp z=>?_⟩
 ·obtain ⟨v,q⟩:=I.cell x c e
  exact absurd (cT q.lt (by rw [z];exact hb)) (dm _)
 ·exact absurd (cT (aS (I.pin p hp).1) (by rw [z];exact hb)) (dm _)
structure Turn (P:Program) (w:World) (K:aC) (tg:Expr) (J:It) (fp:List Addr) (it:Addr) (tn:Nat→Heap→Prop):Prop where
 mem:it∈fp
 obj:∀i h,tn i h→∀b∈fp,∃o,h.get? b=some o∧∀v,o.data≠.cell v
 keep:∀i h h',tn i h→(∀b∈fp,∀o,h.get? b=some o→h'.get? b=some o)→tn i h'
 item:∀(X:Cx),X.prog=P→X.w=w→X.K=K→X.calm=true→∀(i:Nat) (pins:aP) (s:Shared) (σ:St) (H:Hp) (E:aE),Inv X pins σ H s→(∀b∈fp,jS X pins H b)→tn i s.heap→J.go i H→
  wpAny (model P w) X.A (pyNext (.ref it)) (fun r s1=>∃u,r=some u ∧
   wpAny (model P w) X.A (letOwnedTupleGo tg (.ref it) u) (fun _ s2=>∃x H',Inv X pins σ H' s2∧RelV x u∧J.cV i H x H'∧tn (i+1) s2.heap∧∀b∈fp,H' b=none) E s1) E s
 done:∀(X:Cx),X.prog=P→X.w=w→X.K=K→X.calm=true→∀(i:Nat) (pins:aP) (s:Shared) (σ:St) (H:Hp) (E:aE),Inv X pins σ H s→(∀b∈fp,jS X pins H b)→tn i s.heap→J.stop i H→
  wpAny (model P w) X.A (pyNext (.ref it)) (fun r s1=>r=none∧Inv X pins σ H s1) E s
 self:∀(A:Around) (i:Nat) (s:Shared) (Q:aE) (E:aE),tn i s.heap→Q (.ref it) s→wpAny (model P w) A (pyIter (.ref it)) Q E s
abbrev TI:=St→Hp→(It→Hp→Prop)→Prop
def Aa(X:Cx)(pins:aP)(σ:St)(tg:Expr)(R:It→Hp→Prop)(qR:Value)(s2:Shared):Prop:=
 ∃(it:Addr) (fp:List Addr) (tn:Nat→Heap→Prop) (J:It) (H':Hp),qR=.ref it∧Inv X pins σ H' s2∧Turn X.prog X.w X.K tg J fp it tn∧tn 0 s2.heap∧(∀b∈fp,jS X pins H' b)∧R J H'
def PI(X:Cx)(tg iter:Expr)(wi:TI):Prop:=
 ∀(pins:aP) (s:Shared) (σ:St) (H:Hp) (R:It→Hp→Prop),Inv X pins σ H s→wi σ H R→
  wpAny (model X.prog X.w) X.A (eval iter X.env) (fun v s1=>wpAny (model X.prog X.w) X.A (pyIter v) (Aa X pins σ tg R) X.xe s1) X.xe s
variable {tg:Expr}
theorem wI{it:Addr}{o:Obj}{n:String}{vs:Array Value}{Q:Unit→Shared→Prop}(ho:s.heap.get? it=some o)(hc:o.cls=.type n)(hd:o.data=.fields vs)
    (hn:["enumerate","zip","dict_itemiterator","dict_reverseitemiterator","odict_iterator","itertools.zip_longest","itertools.pairwise"].contains n=false) (hQ:Q () s):wpAny M A (letOwnedTupleGo tg (.ref it) u) Q E s:=by
  unfold letOwnedTupleGo
  cases tg <;> first
    | exact bG hQ
    | (cases u <;> first
        | exact bG hQ
        | (refine av (wpAny_load ho ?_)
           rw [hc,hd];show wpAny M A (if (["enumerate","zip","dict_itemiterator","dict_reverseitemiterator","odict_iterator","itertools.zip_longest","itertools.pairwise"].contains n && vs[0]? == some (rawInt _))=true then _ else _) Q E s
           rw [aa (by intro h;rw [hn,Bool.false_and] at h;cases h)]
           exact bG hQ))
def mC(K:aC)(a:Addr):It:=
 ⟨fun i H=>∃xs x,bC K H a xs∧xs[i]?=some x,fun i H x H'=>H'=H∧∀xs,bC K H a xs→xs[i]?=some x,fun i H=>∃xs,bC K H a xs∧xs.length≤i⟩
def uj(K:aC)(a:Addr):It:=
 ⟨fun i H=>∃xs x,dt K H a xs∧xs[i]?=some x,fun i H x H'=>H'=H∧∀xs,dt K H a xs→xs[i]?=some x,fun i H=>∃xs,dt K H a xs∧xs.length≤i⟩
def nW(lo:Int)(n:Nat):It:=⟨fun i _=>i<n,fun i H x H'=>H'=H∧x=.int (lo+i),fun i _=>n≤i⟩
variable {K:aC}
theorem JI(a it:Addr):Turn P w K tg (mC K a) [it] it (fun i h=>h.IsListIter it a i) where
 mem:=by simp
 obj:=fun i h st b hb=>by
  have e:b=it:=by simpa using hb
  subst e;obtain ⟨o,e,c,d⟩:=st;exact ⟨o,e,fun v z=>by rw [d] at z;cases z⟩
 keep:=fun i h h' st k=>st.at fun o e=>k it (by simp) o e
 item:=by
  intro X hP hw hK hc i pins s σ H E I hf st hg;subst hP hw hK;obtain ⟨xs,x,hq,hx⟩:=hg;obtain ⟨ah,rv,p,hz⟩:=I.list hq;obtain ⟨u,hu,ru⟩:=rv.get hx;obtain ⟨f0,f1,f2,f3,f4,f5⟩:=hf it (by simp)
  refine wpAny_pyNext_list_item st p.isList (x:=u) (by simpa using hu) fun h' aq sb=>?_
  have I1:Inv X pins σ H {s with heap:=h'}:=I.turned (t':=s.toks) (fun b o hb e=>(sb.2 b hb).trans e) f0 f1 f3 f4 f5;obtain ⟨o,e,c,d⟩:=id aq;exact ⟨u,rfl,wI (s:={s with heap:=h'}) e c d (by decide) ⟨x,H,I1,ru,⟨rfl,fun ys hy=>by rw [I.Du hy hq];exact hx⟩,aq,fun b hb=>(hf b hb).1⟩⟩
 done:=by
  intro X hP hw hK hc i pins s σ H E I hf st hg;subst hP hw hK;obtain ⟨xs,hq,hx⟩:=hg;obtain ⟨ah,rv,p,hz⟩:=I.list hq;obtain ⟨f0,f1,f2,f3,f4,f5⟩:=hf it (by simp)
  have hl:=rv.length;exact wpAny_pyNext_list_end (I.ok.hd hc) st p.isList (by simp;omega) fun h' eb=>⟨rfl,I.turned (t':=s.toks) (fun b o hb e=>eb b o hb e) f0 f1 f3 f4 f5⟩
 self:=fun _ _ _ _ _ st h=>wpAny_pyIter_listiter st h
theorem JJ(a it:Addr):Turn P w K tg (uj K a) [it] it (fun i h=>h.IsTupleIter it a i) where
 mem:=by simp
 obj:=fun i h st b hb=>by
  have e:b=it:=by simpa using hb
  subst e;obtain ⟨o,e,c,d⟩:=st;exact ⟨o,e,fun v z=>by rw [d] at z;cases z⟩
 keep:=fun i h h' st k=>st.at fun o e=>k it (by simp) o e
 item:=by
  intro X hP hw hK hc i pins s σ H E I hf st hg;subst hP hw hK;obtain ⟨xs,x,hq,hx⟩:=hg;obtain ⟨ah,rv,p,hz⟩:=I.tuple hq;obtain ⟨u,hu,ru⟩:=rv.get hx;obtain ⟨f0,f1,f2,f3,f4,f5⟩:=hf it (by simp)
  refine wpAny_pyNext_tuple_item st (show s.heap.IsTuple a ah.toArray from p) (x:=u) (by simpa using hu) fun h' aq sb=>?_
  have I1:Inv X pins σ H {s with heap:=h'}:=I.turned (t':=s.toks) (fun b o hb e=>(sb.2 b hb).trans e) f0 f1 f3 f4 f5;obtain ⟨o,e,c,d⟩:=id aq;exact ⟨u,rfl,wI (s:={s with heap:=h'}) e c d (by decide) ⟨x,H,I1,ru,⟨rfl,fun ys hy=>by rw [I.Jx hy hq];exact hx⟩,aq,fun b hb=>(hf b hb).1⟩⟩
 done:=by
  intro X hP hw hK hc i pins s σ H E I hf st hg;subst hP hw hK;obtain ⟨xs,hq,hx⟩:=hg;obtain ⟨ah,rv,p,hz⟩:=I.tuple hq;obtain ⟨f0,f1,f2,f3,f4,f5⟩:=hf it (by simp)
  have hl:=rv.length;exact wpAny_pyNext_tuple_end (I.ok.hd hc) st (show s.heap.IsTuple a ah.toArray from p) (by simp;omega) fun h' eb=>⟨rfl,I.turned (t':=s.toks) (fun b o hb e=>eb b o hb e) f0 f1 f3 f4 f5⟩
 self:=fun _ _ _ _ _ st h=>wpAny_pyIter_tupleiter st h
theorem JK(it:Addr)(lo:Int)(n:Nat):Turn P w K tg (nW lo n) [it] it (fun i h=>IsRangeIter h it (lo+(i:Nat)*1) ((n:Int)-(i:Nat)) 1) where
 mem:=by simp
 obj:=fun i h st b hb=>by
  have e:b=it:=by simpa using hb
  subst e;exact ⟨_,st,fun v z=>by have z':Data.fields _=Data.cell v:=z;cases z'⟩
 keep:=fun i h h' st k=>k it (by simp) _ st
 item:=by
  intro X hP hw hK hc i pins s σ H E I hf st hg;subst hP hw hK;obtain ⟨f0,f1,f2,f3,f4,f5⟩:=hf it (by simp)
  have W:=Walks.range (prog:=X.prog) (w:=X.w) (I.ok.hd hc) it lo 1 n;refine W.item i s _ _ hg st fun v h' tk hv aq kk=>?_;obtain ⟨t,rfl⟩:=hv;have I1:Inv X pins σ H {s with heap:=h',toks:=tk}:=I.turned (fun b o hb e=>kk b o (by simpa using hb) e) f0 f1 f3 f4 f5
  refine ⟨_,rfl,wI (s:={s with heap:=h',toks:=tk}) (n:="range_iterator") aq rfl rfl (by decide) ⟨.int (lo+i),H,I1,⟨t,?_⟩,⟨rfl,rfl⟩,aq,fun b hb=>(hf b hb).1⟩⟩
  rw [Int.mul_one]
 done:=by
  intro X hP hw hK hc i pins s σ H E I hf st hg;subst hP hw hK;obtain ⟨f0,f1,f2,f3,f4,f5⟩:=hf it (by simp)
  exact wpAny_pyNext_range_end (I.ok.hd hc) st (by have:n≤i:=hg;omega) fun h' eb=>⟨rfl,I.turned (t':=s.toks) (fun b o hb e=>eb b o hb e) f0 f1 f3 f4 f5⟩
 self:=fun _ _ _ _ _ st h=>wpAny_pyIter_rangeiter st h
section
variable {X:Cx} {tg:Expr}
def JL(K:aC)(tl:TE):TI:=fun σ H R=>tl σ H fun x H1=>∃a,x=.ref a∧(∃xs,bC K H1 a xs)∧R (mC K a) H1
def JM(K:aC)(tl:TE):TI:=fun σ H R=>tl σ H fun x H1=>∃a,x=.ref a∧(∃xs,dt K H1 a xs)∧R (uj K a) H1
variable {l:Expr} {tl:TE}
theorem gX(hl:PE X l tl):PI X tg l (JL X.K tl):=by
 intro pins s σ H R I h;refine aF (hl pins s σ H _ I h) fun v s1 ⟨x,H1,I1,r1,q1⟩=>?_;obtain ⟨a,e,⟨xs,hq⟩,q⟩:=q1;subst e;cases r1;obtain ⟨ah,rv,p,hz⟩:=I1.list hq;refine v_ p.isList ?_;refine ⟨s1.heap.objs.size,[s1.heap.objs.size],_,_,H1,rfl,I1.kept (t':=s1.toks) fun b o e=>bW _ e,JI a _,⟨_,dE _ rfl,rfl,rfl⟩,fun b hb=>?_,q⟩;have e:b=s1.heap.objs.size:=by simpa using hb
 subst e;exact I1.uh (aw _) (I1.au.fresh (aw _))
theorem JN(hl:PE X l tl):PI X tg l (JM X.K tl):=by
 intro pins s σ H R I h;refine aF (hl pins s σ H _ I h) fun v s1 ⟨x,H1,I1,r1,q1⟩=>?_;obtain ⟨a,e,⟨xs,hq⟩,q⟩:=q1;subst e;cases r1;obtain ⟨ah,rv,p,hz⟩:=I1.tuple hq;refine wpAny_pyIter_tuple (show s1.heap.IsTuple a ah.toArray from p) ?_;refine ⟨s1.heap.objs.size,[s1.heap.objs.size],_,_,H1,rfl,I1.kept (t':=s1.toks) fun b o e=>bW _ e,JJ a _,⟨_,dE _ rfl,rfl,rfl⟩,fun b hb=>?_,q⟩;have e:b=s1.heap.objs.size:=by simpa using hb
 subst e;exact I1.uh (aw _) (I1.au.fresh (aw _))
variable {pins:aP}
theorem JO{R:It→Hp→Prop}{lo hi:Int}{t u v:Tok}{tk:Nat}(I:Inv X pins σ H s)(h1:-(2 ^ 62)≤lo)(h2:lo<2 ^ 62)(h3:-(2 ^ 62)≤hi)(h4:hi<2 ^ 62)
  (q:R (nW lo (hi-lo).toNat) H):wpAny (model X.prog X.w) X.A (pyIter (.ref s.heap.objs.size)) (Aa X pins σ tg R) E {s with heap:=s.heap.push {cls:=.type "range",data:=.fields #[.int lo t,.int hi u,.int 1 v]},toks:=tk}:=by
 refine wpAny_pyIter_range (IsRange.new ..) (small_one h1 h2 h3 h4) ?_;have I1:Inv X pins σ H {s with heap:=s.heap.push {cls:=.type "range",data:=.fields #[.int lo t,.int hi u,.int 1 v]},toks:=tk}:=I.kept fun b o e=>bW _ e
 refine ⟨(s.heap.push {cls:=.type "range",data:=.fields #[.int lo t,.int hi u,.int 1 v]}).objs.size,[(s.heap.push {cls:=.type "range",data:=.fields #[.int lo t,.int hi u,.int 1 v]}).objs.size],_,_,H,rfl,
  I1.kept (t':=tk) fun b o e=>bW _ e,JK _ lo (hi-lo).toNat,?_,fun b hb=>?_,q⟩
 ·have e1:lo+((0:Nat):Int)*1=lo:=by simp
  have e2:(((hi-lo).toNat:Nat):Int)-((0:Nat):Int)=Builtin.Range.rangeSize lo hi 1:=by rw [rangeSize_one];split <;> omega
  show IsRangeIter _ _ (lo+((0:Nat):Int)*1) ((((hi-lo).toNat:Nat):Int)-((0:Nat):Int)) 1;rw [e1,e2];exact dE _ rfl
 ·have e:b=(s.heap.push {cls:=.type "range",data:=.fields #[.int lo t,.int hi u,.int 1 v]}).objs.size:=by simpa using hb
  subst e;exact I1.uh (aw _) (I1.au.fresh (aw _))
def JP(ta:TA):TI:=fun σ H R=>ta σ H fun vs H1=>∃j:Int,vs=[.int j]∧-(2 ^ 62)≤j∧j<2 ^ 62∧R (nW 0 j.toNat) H1
variable {pos:Pos}
theorem mE{a:Expr}{ta:TA}{p:Pos}(hg:Gl X "range")(hm:X.mg "range"=none)(ha:PA X [a] ta)(hs:starEach [a] X.env=[(false,eval a X.env)]:=by rfl):PI X tg (.Call (.Name "range" p) [a] [] pos) (JP ta):=by
 intro pins s σ H R I h;refine Call_ (mw I hg hm boot_range (zD (aF (ha pos pins s σ H _ I h) fun us s1 ⟨vs,H1,I1,r1,q1⟩=>?_) hs rfl));obtain ⟨j,e,q1,q2,q⟩:=q1;subst e;cases r1 with
 | cons r rr=>cases rr;obtain ⟨t,rfl⟩:=r;exact call_range_1 (JO I1 (by omega) (by omega) q1 q2 (by simpa using q))
def JQ(wi:TI)(g:TG)(tb:TS):TS:=fun D σ H=>wi σ H fun J H1=>∃W:Nat→Nat→St→Hp→Prop,(∃m,W 0 m σ H1)∧∀i m σ H,W i m σ H→
 (J.stop i H∧D.nx σ H)∨(J.go i H∧∃N:St→Hp→Prop,(∀σ' H',N σ' H'→∃m',m'<m∧W (i+1) m' σ' H')∧∀x H',J.cV i H x H'→g x σ H' fun σ2 H2=>tb {D with nx:=N,ct:=N,bk:=D.nx} σ2 H2)
def iE(fp:List Addr)(h:Heap):List (Addr×Obj):=fp.filterMap fun b=>(h.get? b).map fun o=>(b,o)
variable {fp:List Addr}
theorem jT{o:Obj}(hb:b∈fp)(e:h.get? b=some o):(b,o)∈iE fp h:=List.mem_filterMap.mpr ⟨b,hb,by rw [e];rfl⟩
theorem JR{p:Addr×Obj}(hp:p∈iE fp h):p.1∈fp∧h.get? p.1=some p.2:=by
 obtain ⟨b,hb,e⟩:=List.mem_filterMap.mp hp;cases q:h.get? b with
 | none=>rw [q] at e;cases e
 | some o=>rw [q] at e;have e':(b,o)=p:=Option.some.inj e;subst e';exact ⟨hb,q⟩
theorem Inv.pinned(I:Inv X pins σ H s)(hf:∀b∈fp,jS X pins H b)(ho:∀b∈fp,∃o,s.heap.get? b=some o∧∀v,o.data≠.cell v):Inv X (pins++iE fp s.heap) σ H s:=
 I.Dg fun p hp=>(dQ.mp hp).elim (fun z=>I.pin p (dq _ z)) fun z=>by obtain ⟨hb,e⟩:=JR z;obtain ⟨f0,f1,f2,_⟩:=hf p.1 hb;obtain ⟨o,e',d⟩:=ho p.1 hb;rw [e] at e';cases e';exact ⟨e,f0,f1,f2,d⟩
theorem Inv.nX{pl:aP}(I:Inv X (pins++pl) σ H s):Inv X pins σ H s:=I.Dg fun p hp=>I.pin p (dq _ (qp _ hp))
theorem gY{iter:Expr}{body:List Stmt}{wi:TI}{g:TG}{tb:TS}(hp:PassesOwn (model X.prog X.w) X.A X.env X.xe)(hc:X.calm=true)(hi:PI X tg iter wi)(hg:PG X tg g)(hb:eQ X body tb)
  (hs:∀x,foldedSetIterable iter X.env x=pure x:=by intro _;rfl):PS X (.For tg iter body [] pos) (JQ wi g tb):=by
 intro pins s σ H D I h;refine wpAny_For (aF (hi pins s σ H _ I h) fun v s1 h1=>aF h1 fun qR s2 h2=>?_) hs;obtain ⟨it,fp,tn,J,H2,e,I2,T,fe,f2,W,⟨m0,w0⟩,turn⟩:=h2;subst e;have eA:∀{H':Hp},(∀b∈fp,H' b=none)→∀b∈fp,jS X pins H' b:=fun hn b hb=>⟨hn b hb,(f2 b hb).2⟩;refine codeAny_forLoop_any (fun n s'=>∃i σ' H',Inv X pins σ' H' s'∧tn i s'.heap∧(∀b∈fp,H' b=none)∧W i n σ' H') ?_ m0 ⟨0,σ,H2,I2,fe,fun b hb=>(f2 b hb).1,w0⟩;rintro n s3 ⟨i,σ3,H3,I3,Dz,DA,w3⟩;rcases turn i n σ3 H3 w3 with ⟨stop,qn⟩ | ⟨go,N,hN,step⟩
 ·refine nC hp (aF (T.done X rfl rfl rfl hc i pins s3 σ3 H3 X.xe I3 (eA DA) Dz stop) fun r s4 ⟨hr,I4⟩=>?_)
  subst hr;exact vZ ⟨σ3,H3,I4,qn⟩
 ·refine nC hp (aF (T.item X rfl rfl rfl hc i pins s3 σ3 H3 X.xe I3 (eA DA) Dz go) fun r s4 ⟨u,hr,h4⟩=>?_)
  subst hr;refine nC hp (aF h4 fun _ s5 ⟨x,H5,I5,r5,y5,eB,kH⟩=>?_);have kJ:=I5.pinned (eA kH) (T.obj _ _ eB);refine nC hp (aF (hg _ s5 σ3 H5 x u _ kJ r5 (step x H5 y5)) fun _ s6 ⟨σ6,H6,I6,q6⟩=>?_);refine nC hp (aF (hb _ s6 σ6 H6 _ I6 q6) fun f s7 q7=>?_);have again:∀{σ7:St} {H7:Hp},Inv X (pins++iE fp s5.heap) σ7 H7 s7→N σ7 H7→∃m,m<n∧∃i σ' H',Inv X pins σ' H' s7∧tn i s7.heap∧(∀b∈fp,H' b=none)∧W i m σ' H':=fun{σ7 H7} I7 n7=>by obtain ⟨m',hm,w7⟩:=hN σ7 H7 n7;refine ⟨m',hm,i+1,σ7,H7,I7.nX,T.keep _ _ _ eB fun b hb o e=>(I7.pin (b,o) (dq _ (dq _ (jT hb e)))).1,fun b hb=>?_,w7⟩;obtain ⟨o,e,d⟩:=T.obj _ _ eB b hb;exact (I7.pin (b,o) (dq _ (dq _ (jT hb e)))).2.1
  cases f with
  | next=>obtain ⟨σ7,H7,I7,n7⟩:=q7;exact again I7 n7
  | cont=>obtain ⟨σ7,H7,I7,n7⟩:=q7;exact again I7 n7
  | brk=>obtain ⟨σ7,H7,I7,q7⟩:=q7;exact ⟨σ7,H7,I7.nX,q7⟩
  | ret v=>obtain ⟨x7,σ7,H7,I7,r7,q7⟩:=q7;exact ⟨x7,σ7,H7,I7.nX,r7,q7⟩
end
variable {g:TG} {tb:TS} {D:Ends}
theorem um(Pv:Nat→St→Hp→Prop)(h0:Pv 0 σ H)(hl:∀i σ H,i≤xs.length→Pv i σ H→bC K H a xs)
  (hs:∀i x σ H,xs[i]?=some x→Pv i σ H→g x σ H fun σ2 H2=>tb {D with nx:=Pv (i+1),ct:=Pv (i+1),bk:=D.nx} σ2 H2) (hd:∀σ H,Pv xs.length σ H→D.nx σ H) :
  ∃W:Nat→Nat→St→Hp→Prop,(∃m,W 0 m σ H)∧∀i m σ H,W i m σ H→
   ((mC K a).stop i H∧D.nx σ H)∨((mC K a).go i H∧∃N:St→Hp→Prop,(∀σ' H',N σ' H'→∃m',m'<m∧W (i+1) m' σ' H')∧∀x H',(mC K a).cV i H x H'→g x σ H' fun σ2 H2=>tb {D with nx:=N,ct:=N,bk:=D.nx} σ2 H2):=by
 refine ⟨fun i m σ H=>m=xs.length-i∧i≤xs.length∧Pv i σ H,⟨xs.length,by simp,bU _,h0⟩,?_⟩
 rintro i m σ H ⟨rfl,hi,p⟩;have q:=hl i σ H hi p;by_cases ba:i<xs.length
 ·refine .inr ⟨⟨xs,xs[i],q,by simp [ba]⟩,Pv (i+1),fun σ' H' p'=>⟨xs.length-(i+1),by omega,rfl,ba,p'⟩,fun x H' y=>?_⟩
  obtain ⟨e,y⟩:=y;subst e;exact hs i x σ _ (y xs q) p
 ·have e:i=xs.length:=by omega
  subst e;exact .inl ⟨⟨xs,q,aw _⟩,hd σ H p⟩
theorem JS(Pv:Nat→St→Hp→Prop)(h0:Pv 0 σ H)(hl:∀i σ H,i≤xs.length→Pv i σ H→dt K H a xs)
  (hs:∀i x σ H,xs[i]?=some x→Pv i σ H→g x σ H fun σ2 H2=>tb {D with nx:=Pv (i+1),ct:=Pv (i+1),bk:=D.nx} σ2 H2) (hd:∀σ H,Pv xs.length σ H→D.nx σ H) :
  ∃W:Nat→Nat→St→Hp→Prop,(∃m,W 0 m σ H)∧∀i m σ H,W i m σ H→
   ((uj K a).stop i H∧D.nx σ H)∨((uj K a).go i H∧∃N:St→Hp→Prop,(∀σ' H',N σ' H'→∃m',m'<m∧W (i+1) m' σ' H')∧∀x H',(uj K a).cV i H x H'→g x σ H' fun σ2 H2=>tb {D with nx:=N,ct:=N,bk:=D.nx} σ2 H2):=by
 refine ⟨fun i m σ H=>m=xs.length-i∧i≤xs.length∧Pv i σ H,⟨xs.length,by simp,bU _,h0⟩,?_⟩
 rintro i m σ H ⟨rfl,hi,p⟩;have q:=hl i σ H hi p;by_cases ba:i<xs.length
 ·refine .inr ⟨⟨xs,xs[i],q,by simp [ba]⟩,Pv (i+1),fun σ' H' p'=>⟨xs.length-(i+1),by omega,rfl,ba,p'⟩,fun x H' y=>?_⟩
  obtain ⟨e,y⟩:=y;subst e;exact hs i x σ _ (y xs q) p
 ·have e:i=xs.length:=by omega
  subst e;exact .inl ⟨⟨xs,q,aw _⟩,hd σ H p⟩
variable {n:Nat}
theorem uo{lo:Int}(Pv:Nat→St→Hp→Prop)(h0:Pv 0 σ H)
  (hs:∀i σ H,i<n→Pv i σ H→g (.int (lo+i)) σ H fun σ2 H2=>tb {D with nx:=Pv (i+1),ct:=Pv (i+1),bk:=D.nx} σ2 H2) (hd:∀σ H,Pv n σ H→D.nx σ H) :
  ∃W:Nat→Nat→St→Hp→Prop,(∃m,W 0 m σ H)∧∀i m σ H,W i m σ H→
   ((nW lo n).stop i H∧D.nx σ H)∨((nW lo n).go i H∧∃N:St→Hp→Prop,(∀σ' H',N σ' H'→∃m',m'<m∧W (i+1) m' σ' H')∧∀x H',(nW lo n).cV i H x H'→g x σ H' fun σ2 H2=>tb {D with nx:=N,ct:=N,bk:=D.nx} σ2 H2):=by
 refine ⟨fun i m σ H=>m=n-i∧i≤n∧Pv i σ H,⟨n,by simp,bU _,h0⟩,?_⟩
 rintro i m σ H ⟨rfl,hi,p⟩;by_cases ba:i<n
 ·refine .inr ⟨ba,Pv (i+1),fun σ' H' p'=>⟨n-(i+1),by omega,rfl,ba,p'⟩,fun x H' y=>?_⟩
  obtain ⟨e,y⟩:=y;subst e y;exact hs i σ _ ba p
 ·have e:i=n:=by omega
  subst e;exact .inl ⟨aw _,hd σ H p⟩
abbrev R2:=V→V→Hp→VK→Prop
def cG(X:Cx)(f:Value→Value→Sem Value)(r:R2):Prop:=
 ∀(pins:aP) (s:Shared) (σ:St) (H:Hp) (x y:V) (v u:Value) (Q:VK),Inv X pins σ H s→RelV x v→RelV y u→r x y H Q→
  wpAny (model X.prog X.w) X.A (f v u) (EP X pins σ Q) X.xe s
def Ab(X:Cx)(f:Value→Sem Value)(r:V→Hp→VK→Prop):Prop:=
 ∀(pins:aP) (s:Shared) (σ:St) (H:Hp) (x:V) (v:Value) (Q:VK),Inv X pins σ H s→RelV x v→r x H Q→
  wpAny (model X.prog X.w) X.A (f v) (EP X pins σ Q) X.xe s
def eC(X:Cx)(f:Value)(r:List V→Hp→VK→Prop):Prop:=
 ∀(pins:aP) (s:Shared) (σ:St) (H:Hp) (xs:List V) (us:List Value) (Q:VK),Inv X pins σ H s→Vals xs us→r xs H Q→
  wpAny (model X.prog X.w) X.A (call f us) (EP X pins σ Q) X.xe s
def mF(r:R2)(ta tb:TE):TE:=fun σ H Q=>ta σ H fun x H1=>tb σ H1 fun y H2=>r x y H2 Q
def JT(r:V→Hp→VK→Prop)(ta:TE):TE:=fun σ H Q=>ta σ H fun x H1=>r x H1 Q
def rI(C:Int→Int→Prop)(g:Int→Int→V):R2:=fun x y H Q=>∃i j,x=.int i∧y=.int j∧C i j∧Q (g i j) H
def mG(g:Int→Int→V):R2:=fun x y H Q=>∃i j,x=.int i∧y=.int j∧Q (g i j) H
def rU(g:Int→V):V→Hp→VK→Prop:=fun x H Q=>∃i,x=.int i∧Q (g i) H
section
variable {X:Cx} {a b c:Expr} {ta tb tc:TE} {pos:Pos}
variable {f:Value→Value→Sem Value}
theorem Ac(ha:PE X a ta)(hb:PE X b tb){pins:aP}{R:V→V→Hp→Prop}(I:Inv X pins σ H s)
  (h:ta σ H fun x H1=>tb σ H1 fun y H2=>R x y H2) {Q:aE}
  (hf:∀v u s2 x y H2,Inv X pins σ H2 s2→RelV x v→RelV y u→R x y H2→wpAny (model X.prog X.w) X.A (f v u) Q X.xe s2) :
  wpAny (model X.prog X.w) X.A (eval a X.env) (fun v s₁=>wpAny (model X.prog X.w) X.A (eval b X.env) (fun u s₂=>wpAny (model X.prog X.w) X.A (f v u) Q X.xe s₂) X.xe s₁) X.xe s:=by
 refine aF (ha pins s σ H _ I h) fun v s1 ⟨x,H1,I1,r1,q1⟩=>?_;refine aF (hb pins s1 σ H1 _ I1 q1) fun u s2 ⟨y,H2,I2,r2,q2⟩=>?_;exact hf v u s2 x y H2 I2 r1 r2 q2
theorem aD{op:Operator}{r:R2}(ho:cG X (binaryOp op) r)(ha:PE X a ta)(hb:PE X b tb):PE X (.BinOp a op b pos) (mF r ta tb):=by intro pins s σ H Q I h;exact wpAny_BinOp (Ac ha hb I h fun v u s2 x y H2 I2 rx ry q=>ho pins s2 σ H2 x y v u Q I2 rx ry q)
theorem DB{op:UnaryOp}{r:V→Hp→VK→Prop}(ho:Ab X (unaryOp op) r)(ha:PE X a ta):PE X (.UnaryOp op a pos) (JT r ta):=by intro pins s σ H Q I h;exact UnaryOp_ (aF (ha pins s σ H _ I h) fun v s1 ⟨x,H1,I1,r1,q1⟩=>ho pins s1 σ H1 x v Q I1 r1 q1)
theorem wJ{C:Int→Int→Prop}{g:Int→Int→Int}
  (rule:∀(i j:Int) (t u:Tok) (s:Shared) (Q:aE) (E:aE),C i j→Q (.int (g i j) s.toks) {s with toks:=s.toks+1}→wpAny (model X.prog X.w) X.A (f (.int i t) (.int j u)) Q E s) :
  cG X f (rI C fun i j=>.int (g i j)):=by
 intro pins s σ H x y v u Q I rx ry h;obtain ⟨i,j,rfl,rfl,hc,q⟩:=h;obtain ⟨t,rfl⟩:=rx;obtain ⟨t',rfl⟩:=ry;exact rule i j t t' s _ _ hc ⟨.int (g i j),H,I.tok _,⟨_,rfl⟩,q⟩
theorem DC{g:Int→Int→Int}
  (rule:∀(i j:Int) (t u:Tok) (s:Shared) (Q:aE) (E:aE),Q (.int (g i j) s.toks) {s with toks:=s.toks+1}→wpAny (model X.prog X.w) X.A (f (.int i t) (.int j u)) Q E s) :
  cG X f (mG fun i j=>.int (g i j)):=by
 intro pins s σ H x y v u Q I rx ry h;obtain ⟨i,j,rfl,rfl,q⟩:=h;obtain ⟨t,rfl⟩:=rx;obtain ⟨t',rfl⟩:=ry;exact rule i j t t' s _ _ ⟨.int (g i j),H,I.tok _,⟨_,rfl⟩,q⟩
theorem wK{g:Int→Int→Bool}
  (rule:∀(i j:Int) (t u:Tok) (s:Shared) (Q:aE) (E:aE),Q (.bool (g i j)) s→wpAny (model X.prog X.w) X.A (f (.int i t) (.int j u)) Q E s) :
  cG X f (mG fun i j=>.bl (g i j)):=by
 intro pins s σ H x y v u Q I rx ry h;obtain ⟨i,j,rfl,rfl,q⟩:=h;obtain ⟨t,rfl⟩:=rx;obtain ⟨t',rfl⟩:=ry;exact rule i j t t' s _ _ ⟨.bl (g i j),H,I,rfl,q⟩
def JU(i j:Int):Prop:=0≤j∧j≤1000000∧i.natAbs<2 ^ 64
def Ad(i j:Int):Prop:=(-(2 ^ 64)<i∧i<2 ^ 64)∨(-(2 ^ 64)<j∧j<2 ^ 64)
theorem Ad.ok{i j:Int}(h:Ad i j):IntMulOk i j:=by
 rcases h with ⟨h1,h2⟩ | ⟨h1,h2⟩;·exact .of_left (intBits_le_64 h1 h2)
 ·exact .of_right (intBits_le_64 h1 h2)
theorem cW:cG X (binaryOp .Add) (mG fun i j=>.int (i+j)):=DC fun _ _ _ _ _ _ _ q=>add_int q
theorem jg:cG X (binaryOp .Sub) (mG fun i j=>.int (i-j)):=DC fun _ _ _ _ _ _ _ q=>sub_int q
theorem cX:cG X (binaryOp .Mult) (rI Ad fun i j=>.int (i*j)):=wJ fun _ _ _ _ _ _ _ hc q=>mul_int q hc.ok
theorem mH:cG X (binaryOp .Mod) (rI (fun _ j=>0<j) fun i j=>.int (i % j)):=wJ fun i j _ _ _ _ _ hc q=>by have h1:(0:Int)<j:=hc;exact mod_int' (by omega) (by rw [Int.fmod_eq_emod_of_nonneg i (by omega)];exact q)
theorem JV:cG X (binaryOp .Pow) (rI JU fun i j=>.int (i ^ j.toNat)):=wJ fun _ _ _ _ _ _ _ hc q=>pow_int_small hc.1 hc.2.1 hc.2.2 q
theorem JW{f:Value→Sem Value}{g:Int→Int}
  (rule:∀(i:Int) (t:Tok) (s:Shared) (Q:aE) (E:aE),Q (.int (g i) s.toks) {s with toks:=s.toks+1}→wpAny (model X.prog X.w) X.A (f (.int i t)) Q E s) :
  Ab X f (rU fun i=>.int (g i)):=by
 intro pins s σ H x v Q I rx h;obtain ⟨i,rfl,q⟩:=h;obtain ⟨t,rfl⟩:=rx;exact rule i t s _ _ ⟨.int (g i),H,I.tok _,⟨_,rfl⟩,q⟩
theorem DD:Ab X (unaryOp .USub) (rU fun i=>.int (-i)):=JW fun _ _ _ _ _ q=>neg_int q
end
def DE:V→V→Bool
 | .aN,.aN=>true | .aN,.int _=>true | .int _,.aN=>true | .aN,.bl _=>true | .bl _,.aN=>true | .aN,.str _=>true | .str _,.aN=>true
 | .int _,.int _=>true | .bl _,.bl _=>true | .str _,.str _=>true | .jb _,.jb _=>true
 | .int _,.str _=>true | .str _,.int _=>true | .bl _,.str _=>true | .str _,.bl _=>true
 | _,_=>false
def JX:R2:=fun x y H Q=>DE x y=true∧Q (.bl (decide (x=y))) H
def JY:R2:=fun x y H Q=>DE x y=true∧Q (.bl (!decide (x=y))) H
theorem DF{i j:Int}:decide (V.int i=V.int j)=(i == j):=by rw [nE];simp
theorem DG{i j:Bool}:decide (V.bl i=V.bl j)=(i == j):=by rw [nE];simp
theorem DH{i j:Str}:decide (V.str i=V.str j)=(i == j):=by rw [nE];simp
theorem DI{i j:Array UInt8}:decide (V.jb i=V.jb j)=(i.toList == j.toList):=by rw [nE];cases i;cases j;simp
section
variable {X:Cx} {a b c:Expr} {ta tb tc:TE} {pos:Pos}
theorem cH{pins:aP}{Q:VK}{k k':Bool}(I:Inv X pins σ H s)(q:Q (.bl k) H)(e:k=k'):EP X pins σ Q (.bool k') s:=by subst e;exact ⟨.bl k,H,I,rfl,q⟩
theorem JZ:cG X (compareOp .Eq) JX:=by
 intro pins s σ H x y v u Q I rx ry h;obtain ⟨hs,q⟩:=h;cases x with
 | aN=>
  cases rx;cases y with
  | aN=>cases ry;exact PySem.EqNone.eq_none_none (cH I q (by simp))
  | bl j=>cases ry;exact PySem.EqNone.eq_none_bool (cH I q (by simp))
  | int j=>obtain ⟨t',rfl⟩:=ry;exact PySem.EqNone.eq_none_int (cH I q (by simp))
  | str j=>obtain ⟨t',rfl⟩:=ry;exact PySem.EqNone.eq_none_str (cH I q (by simp))
  | _=>exact absurd (show false=true from hs) cK
 | bl i=>
  cases rx;cases y with
  | aN=>cases ry;exact PySem.EqNone.eq_bool_none (cH I q (by simp))
  | bl j=>cases ry;exact eq_bool (cH I q DG)
  | str j=>obtain ⟨t',rfl⟩:=ry;exact PySem.EqMixed.eq_bool_str (cH I q (by simp))
  | _=>exact absurd (show false=true from hs) cK
 | int i=>
  obtain ⟨t,rfl⟩:=rx;cases y with
  | aN=>cases ry;exact PySem.EqNone.eq_int_none (cH I q (by simp))
  | int j=>obtain ⟨t',rfl⟩:=ry;exact eq_int (cH I q DF)
  | str j=>obtain ⟨t',rfl⟩:=ry;exact PySem.EqMixed.eq_int_str (cH I q (by simp))
  | _=>exact absurd (show false=true from hs) cK
 | str i=>
  obtain ⟨t,rfl⟩:=rx;cases y with
  | aN=>cases ry;exact PySem.EqNone.eq_str_none (cH I q (by simp))
  | bl j=>cases ry;exact PySem.EqMixed.eq_str_bool (cH I q (by simp))
  | int j=>obtain ⟨t',rfl⟩:=ry;exact PySem.EqMixed.eq_str_int (cH I q (by simp))
  | str j=>obtain ⟨t',rfl⟩:=ry;exact eq_str (cH I q DH)
  | _=>exact absurd (show false=true from hs) cK
 | jb i=>
  obtain ⟨t,rfl⟩:=rx;cases y with
  | jb j=>obtain ⟨t',rfl⟩:=ry;exact PySem.W.eq_bytes (cH I q DI)
  | _=>exact absurd (show false=true from hs) cK
 | _=>cases y <;> exact absurd (show false=true from hs) cK
theorem nY:cG X (compareOp .NotEq) JY:=by
 intro pins s σ H x y v u Q I rx ry h;obtain ⟨hs,q⟩:=h;cases x with
 | aN=>
  cases rx;cases y with
  | aN=>cases ry;exact PySem.EqNone.ne_none_none (cH I q (by simp))
  | bl j=>cases ry;exact PySem.EqNone.ne_none_bool (cH I q (by simp))
  | int j=>obtain ⟨t',rfl⟩:=ry;exact PySem.EqNone.ne_none_int (cH I q (by simp))
  | str j=>obtain ⟨t',rfl⟩:=ry;exact PySem.EqNone.ne_none_str (cH I q (by simp))
  | _=>exact absurd (show false=true from hs) cK
 | bl i=>
  cases rx;cases y with
  | aN=>cases ry;exact PySem.EqNone.ne_bool_none (cH I q (by simp))
  | bl j=>cases ry;exact ne_bool (cH I q (b_ not DG))
  | str j=>obtain ⟨t',rfl⟩:=ry;exact PySem.EqMixed.ne_bool_str (cH I q (by simp))
  | _=>exact absurd (show false=true from hs) cK
 | int i=>
  obtain ⟨t,rfl⟩:=rx;cases y with
  | aN=>cases ry;exact PySem.EqNone.ne_int_none (cH I q (by simp))
  | int j=>obtain ⟨t',rfl⟩:=ry;exact ne_int (cH I q (b_ not DF))
  | str j=>obtain ⟨t',rfl⟩:=ry;exact PySem.EqMixed.ne_int_str (cH I q (by simp))
  | _=>exact absurd (show false=true from hs) cK
 | str i=>
  obtain ⟨t,rfl⟩:=rx;cases y with
  | aN=>cases ry;exact PySem.EqNone.ne_str_none (cH I q (by simp))
  | bl j=>cases ry;exact PySem.EqMixed.ne_str_bool (cH I q (by simp))
  | int j=>obtain ⟨t',rfl⟩:=ry;exact PySem.EqMixed.ne_str_int (cH I q (by simp))
  | str j=>obtain ⟨t',rfl⟩:=ry;exact ne_str (cH I q (b_ not DH))
  | _=>exact absurd (show false=true from hs) cK
 | jb i=>
  obtain ⟨t,rfl⟩:=rx;cases y with
  | jb j=>obtain ⟨t',rfl⟩:=ry;exact PySem.W.ne_bytes (cH I q (b_ not DI))
  | _=>exact absurd (show false=true from hs) cK
 | _=>cases y <;> exact absurd (show false=true from hs) cK
theorem wL:cG X (compareOp .Lt) (mG fun i j=>.bl (decide (i<j))):=wK fun _ _ _ _ _ _ _ q=>lt_int q
theorem J0:cG X (compareOp .LtE) (mG fun i j=>.bl (decide (i≤j))):=wK fun _ _ _ _ _ _ _ q=>le_int q
theorem ur:cG X (compareOp .Gt) (mG fun i j=>.bl (decide (j<i))):=wK fun _ _ _ _ _ _ _ q=>gt_int q
theorem J_:cG X (compareOp .GtE) (mG fun i j=>.bl (decide (j≤i))):=wK fun _ _ _ _ _ _ _ q=>ge_int q
variable {op:CmpOp}
theorem DJ(b:Expr)(h:op≠.In:=by decide)(h2:op≠.NotIn:=by decide):behindInMarks op b=false:=by
 have e1:(op == CmpOp.In)=false:=by cases op <;> first | rfl | exact absurd rfl h
 have e2:(op == CmpOp.NotIn)=false:=by cases op <;> first | rfl | exact absurd rfl h2
 cases b <;> simp [behindInMarks,e1,e2]
variable {r:R2}
theorem Ka(ho:cG X (compareOp op) r)(ha:PE X a ta)(hb:PE X b tb)(hm:behindInMarks op b=false):PE X (.Compare a [op] [b] pos) (mF r ta tb):=by intro pins s σ H Q I h;exact wpAny_Compare1 (Ac ha hb I h fun v u s2 x y H2 I2 rx ry q=>ho pins s2 σ H2 x y v u Q I2 rx ry q) hm
theorem Ae(ho:cG X (compareOp op) r)(ha:PE X a ta)(hb:PE X b tb)(hm:behindInMarks op b=false:=by exact DJ _):PE X (.Compare a [op] [b] pos) (mF r ta tb):=Ka ho ha hb hm
def DK(t:TE):TT:=fun σ H Q=>t σ H fun x H'=>∃k,x=.bl k∧Q k H'
theorem wM(ho:cG X (compareOp op) r)(ha:PE X a ta)(hb:PE X b tb)(hm:behindInMarks op b=false):PT X (.Compare a [op] [b] pos) (DK (mF r ta tb)):=by intro pins s σ H Q I h;refine wpAny_isTrue_Compare1 (aF (ha pins s σ H _ I h) fun v s1 ⟨x,H1,I1,r1,q1⟩=>aF (hb pins s1 σ H1 _ I1 q1) fun u s2 ⟨y,H2,I2,r2,q2⟩=>aF (ho pins s2 σ H2 x y v u _ I2 r1 r2 q2) fun c s3 ⟨z,H3,I3,r3,k,e,q3⟩=>?_) hm;subst e;cases r3;exact nz ⟨H3,I3,q3⟩
theorem eR(ho:cG X (compareOp op) r)(ha:PE X a ta)(hb:PE X b tb)(hm:behindInMarks op b=false:=by exact DJ _):PT X (.Compare a [op] [b] pos) (DK (mF r ta tb)):=wM ho ha hb hm
theorem wN:(sizeLine:Nat)<2 ^ 63:=by rw [gO];decide
theorem vals1(r:Vals [x] us):∃u,us=[u]∧RelV x u:=by
 cases r with
 | cons r1 r2=>cases r2;exact ⟨_,rfl,r1⟩
theorem vals2{y:V}(r:Vals [x,y] us):∃u w',us=[u,w']∧RelV x u∧RelV y w':=by
 cases r with
 | cons r1 r2=>
  cases r2 with
  | cons r3 r4=>cases r4;exact ⟨_,_,rfl,r1,r3⟩
theorem DL(hc:X.calm=true):eC X (.builtin "max") (fun xs H Q=>∃i j,xs=[.int i,.int j]∧Q (.int (if j>i then j else i)) H):=by
 intro pins s σ H xs us Q I r h;obtain ⟨i,j,rfl,q⟩:=h;obtain ⟨u,w',rfl,⟨t,rfl⟩,⟨t',rfl⟩⟩:=vals2 r;refine max_two_ints (I.ok.hd hc) fun h' tk k=>⟨_,H,I.kept k,?_,q⟩;by_cases hj:j>i;·rw [ae hj,ae hj];exact ⟨_,rfl⟩
 ·rw [aa hj,aa hj];exact ⟨_,rfl⟩
theorem DM(hc:X.calm=true):eC X (.builtin "min") (fun xs H Q=>∃i j,xs=[.int i,.int j]∧Q (.int (if j<i then j else i)) H):=by
 intro pins s σ H xs us Q I r h;obtain ⟨i,j,rfl,q⟩:=h;obtain ⟨u,w',rfl,⟨t,rfl⟩,⟨t',rfl⟩⟩:=vals2 r;refine min_two_ints (I.ok.hd hc) fun h' tk k=>⟨_,H,I.kept k,?_,q⟩;by_cases hj:j<i;·rw [ae hj,ae hj];exact ⟨_,rfl⟩
 ·rw [aa hj,aa hj];exact ⟨_,rfl⟩
end
structure Af (h:Heap) (x dx C:Addr) (mA:cN):Prop where
 obj:h.get? x=some (PySem.W.instObj C dx)
 ns:h.Ns1 dx mA
 ne:dx≠x
variable {dx:Addr} {mA:cN}
theorem Kb(n:h.Ns1 dx mA):∃od,h.get? dx=some od∧∀name,PySem.W.lookIn name od=some (mA name):=by
 obtain ⟨o,es,ep,ho,hd,hk,_,hm⟩:=n;refine ⟨o,ho,fun name=>?_⟩;have e:=hm name;unfold nsFind findBy at e;rw [←Array.find?_toList] at e;unfold PySem.W.lookIn;rw [hd];dsimp only
 split
 ·rename_i y q
  rw [q] at e;exact b_ some e
 ·rename_i q
  rw [q] at e;have a:es.toList.any (·.refKey)=false:=by rw [List.any_eq_false];intro y hy;obtain ⟨z,t,Ki⟩:=hk y (Array.mem_toList_iff.mp hy);simp [DictEntry.refKey,Ki]
  have a':¬es.toList.any (·.refKey)=true:=by rw [a];exact cK
  rw [aa a'];exact b_ some e
theorem Af.look{x C:Addr}(I:Af h x dx C mA):∃od,PySem.W.InstAt h x (PySem.W.instObj C dx) C (some od)∧∀name,PySem.W.lookIn name od=some (mA name):=
 let ⟨od,ho,hl⟩:=Kb I.ns
 ⟨od,⟨I.obj,rfl,rfl,ho⟩,hl⟩
section
variable {prog:Program} {w:World} {A:Around} {E:aE} {s:Shared} {K:aC} {x dx C f:Addr} {mA:cN} {name:Str} {v:Value}
end
theorem jc.some_of{v:V}{o:Option Value}(r:jc (some v) o):∃u,o=some u∧RelV v u:=by
 cases o with
 | none=>exact (show False from r).elim
 | some u=>exact ⟨u,rfl,r⟩
section
variable {P:Program} {w:World} {H H':Hp} {h h':Heap} {a C dx:Addr} {fs zQ:List (Str×V)}
theorem Kj(au:bY P w H h)(e:H a=some (.ins C dx fs)):∃mA,Af h a dx C mA∧(∀f,jc (fs.lookup f) (mA f))∧PySem.Within mA (fs.map (·.1))∧fs.length≤1000∧H dx=some (.own a):=by obtain ⟨d,z,ne,ob,mA,n,r,q⟩:=(show bX P w H h a (.ins C dx fs) from au a _ e);exact ⟨mA,⟨ob,n,ne⟩,r,q,z,d⟩
end
structure Ag (K:aC) (C:Addr):Prop where
 pg:PySem.W.plainGet K C Str.empty=true
 hd:PySem.W.hasDictIn K C=true
 po:PySem.W.plainOver K C=true
 sa:PySem.W.findIn K (.ref C) "__setattr__"=some (some (.builtin "object.__setattr__"))
theorem Ag.get{K:aC}{C:Addr}(c:Ag K C)(f:Str):PySem.W.plainGet K C f=true:=c.pg
section
variable {X:Cx} {pins:aP} {σ:St} {H:Hp} {s:Shared} {a C dx:Addr} {fs:List (Str×V)} {f:Str} {v:V} {A:Around} {E:aE}
end
section
variable {X:Cx} {o e value:Expr} {f:Str} {pos pos' wO:Pos} {ta tv:TE}
end
section
variable {X:Cx} {pins:aP} {σ:St} {H:Hp} {s:Shared} {A:Around} {E:aE} {Q:aE} {c:Value} {b:Bool}
inductive gZ (K:aC) (H:Hp):V→Value→Prop where
 | aN:gZ K H .aN (.type "NoneType")
 | bl (x:Bool):gZ K H (.bl x) (.type "bool")
 | int (i:Int):gZ K H (.int i) (.type "int")
 | str (x:Str):gZ K H (.str x) (.type "str")
 | qL (x:UInt64):gZ K H (.qL x) (.type "float")
 | lst {a:Addr} {xs:List V} (e:H a=some (.lst xs)):gZ K H (.ref a) (.type "list")
 | bx {a:Addr} {o:Obj} {xs:List V} (e:H a=some (.bx o (.lst xs))):gZ K H (.ref a) (.type "list")
 | tup {a:Addr} {xs:List V} (e:H a=some (.tup xs)):gZ K H (.ref a) (.type "tuple")
 | dK {a:Addr} {kvs:List (Key×V)} (e:H a=some (.dK kvs)):gZ K H (.ref a) (.type "dict")
 | dT {a:Addr} {kvs:List (List Key×V)} (e:H a=some (.dT kvs)):gZ K H (.ref a) (.type "dict")
 | ins {a C dx:Addr} {fs:List (Str×V)} (e:H a=some (.ins C dx fs)) (cl:Ag K C) (ha:PySem.W.findIn K (.ref C) "__class__"=some (some (.builtin "object.__class__")))
   (hn:PySem.W.specialIn K (.builtin "object.__class__") "__get__"=some (some (.builtin "getset_descriptor.__get__"))) (DN:PySem.W.takesIn K (.builtin "object.__class__")=some true)
   (hm:PySem.W.mroIn K C (.type "object")=some true):gZ K H (.ref a) (.ref C)
theorem Kk{t:Value}(I:Inv X pins σ H s)(rx:RelV x u)(ty:gZ X.K H x t)(e:PySem.W.kitOne X.K t c=some b)(h:∀tk,Q (.bool b) {s with toks:=tk}) :
  wpAny (model X.prog X.w) A (call (.builtin "isinstance") [u,c]) Q E s:=by
 cases ty with
 | aN=>cases (show u=Value.none from rx);exact gP PySem.W.kitx_none I.en True.intro e (fun z=>nomatch z) h
 | bl y=>cases (show u=Value.bool y from rx);exact gP PySem.W.kitx_bool I.en True.intro e (fun z=>nomatch z) h
 | int i=>obtain ⟨t,q⟩:=(show ∃t,u=Value.int i t from rx);cases q;exact gP PySem.W.kitx_int I.en True.intro e (fun z=>nomatch z) h
 | str y=>obtain ⟨t,q⟩:=(show ∃t,u=Value.str y t from rx);cases q;exact gP PySem.W.kitx_str I.en True.intro e (fun z=>nomatch z) h
 | qL y=>obtain ⟨t,q⟩:=(show ∃t,u=Value.float y t from rx);cases q;exact gP PySem.W.kitx_float I.en True.intro e (fun z=>nomatch z) h
 | @lst a xs ea=>cases (show u=Value.ref a from rx);obtain ⟨_,_,n,_,h1⟩:=(show bX X.prog X.w H s.heap a (.lst xs) from I.au a _ ea);exact gP PySem.W.kitx_list I.en ⟨_,h1,rfl⟩ e (fun z=>nomatch z) h
 | @bx a ob xs ea=>cases (show u=Value.ref a from rx);obtain ⟨_,_,_,n,_,h1⟩:=(show bX X.prog X.w H s.heap a (.bx ob (.lst xs)) from I.au a _ ea);exact gP PySem.W.kitx_list I.en ⟨_,h1,rfl⟩ e (fun z=>nomatch z) h
 | @tup a xs ea=>cases (show u=Value.ref a from rx);obtain ⟨_,_,_,p⟩:=(show bX X.prog X.w H s.heap a (.tup xs) from I.au a _ ea);obtain ⟨o,h1,h2,_⟩:=p;exact gP PySem.W.kitx_tuple I.en ⟨o,h1,h2⟩ e (fun z=>nomatch z) h
 | @dK a kvs ea=>cases (show u=Value.ref a from rx);obtain ⟨_,_,vs,_,p⟩:=(show bX X.prog X.w H s.heap a (.dK kvs) from I.au a _ ea);obtain ⟨o,es,ep,h1,h2,_⟩:=p;exact gP PySem.W.kitx_dict I.en ⟨o,h1,h2.1⟩ e (fun z=>nomatch z) h
 | @dT a kvs ea=>cases (show u=Value.ref a from rx);obtain ⟨_,_,xs,_,o,es,ep,h1,h2,_⟩:=(show bX X.prog X.w H s.heap a (.dT kvs) from I.au a _ ea);exact gP PySem.W.kitx_dict I.en ⟨o,h1,h2.1⟩ e (fun z=>nomatch z) h
 | @ins a C dx fs ea cl ha hn DN hm=>cases (show u=Value.ref a from rx);obtain ⟨mA,O,_⟩:=Kj I.au ea;obtain ⟨od,J,_⟩:=O.look;exact gP (PySem.W.kitx_own (cl.get _) cl.hd ha hn DN hm) I.en J e (fun z=>nomatch z) h
end
structure dU (k:Nat) (A:Around):Prop where
 hd:A.handled=none
 dp:A.depth+3*k+5<recursionLimit
 un:A.units+16*k+200<cLine
variable {k:Nat}
theorem dU.mono{j:Nat}(r:dU k A)(h:j≤k):dU j A:=⟨r.hd,by have:=r.dp;omega,by have:=r.un;omega⟩
theorem dU.deeper(r:dU (k+1) A)(env:Env):dU k (A.deeper env):=
 ⟨r.hd,by have:=r.dp;show A.depth+1+3*k+5<_;omega,by have:=r.un;show A.units+3+16*k+200<_;omega⟩
theorem dU.depth(r:dU k A):A.depth<recursionLimit:=by have:=r.dp;omega
theorem dU.units(r:dU k A):A.units+64<cLine:=by have:=r.un;omega
def Ah:TA:=fun _ H Q=>Q [] H
def uu(ta:TE)(tr:TA):TA:=fun σ H Q=>ta σ H fun x H1=>tr σ H1 fun xs H2=>Q (x::xs) H2
section
variable {X:Cx} {e:Expr} {es:List Expr} {te:TE} {t:TA} {pos:Pos}
theorem ao:PA X [] Ah:=fun _ _ _ _ H Q I h=>Calls.spliced_nil ⟨[],H,I,.nil,h⟩
theorem Kl(ha:PE X e te)(hr:PA X es t)(hs:starEach (e::es) X.env=(false,eval e X.env)::starEach es X.env:=by rfl):PA X (e::es) (uu te t):=by intro pos pins s σ H Q I h;rw [hs];show wpAny _ _ (spliced ((false,eval e X.env)::backTo pos (starEach es X.env))) _ _ s;refine Calls.spliced_cons (aF (ha pins s σ H _ I h) fun u s1 ⟨x,H1,I1,r1,q1⟩=>?_);exact aF (hr pos pins s1 σ H1 _ I1 q1) fun us s2 ⟨xs,H2,I2,r2,q2⟩=>⟨x::xs,H2,I2,.cons r1 r2,q2⟩
def Km(t:TA):TE:=fun σ H Q=>t σ H fun xs H1=>xs.length≤sizeLine∧∀p,H1 p=none→Q (.ref p) (upd H1 p (.tup xs))
def Kn(t:TA):TE:=fun σ H Q=>t σ H fun xs H1=>xs.length≤sizeLine∧∀p,H1 p=none→Q (.ref p) (upd H1 p (.lst xs))
theorem gA{x1}(h:PA X es t):PE X (.Tuple es x1 pos) (Km t):=by
 intro pins s σ H Q I hq;refine wpAny_Tuple_spliced (aF (h pos pins s σ H _ I hq) fun us s1 ⟨xs,H1,I1,r,z,q⟩=>⟨by rw [←r.length];exact z,?_⟩)
 have hf:H1 s1.heap.objs.size=none:=I1.au.fresh (aw _);refine ⟨.ref s1.heap.objs.size,upd H1 s1.heap.objs.size (.tup xs),I1.laid (t':=s1.toks) (fun b u e=>bW _ e) (aw _) ?_,rfl,q _ hf⟩;exact ⟨z,us,r,⟨_,dE _ rfl,rfl,_,rfl⟩⟩
theorem g6(h:PA X es t):PE X (.List es pos) (Kn t):=by
 intro pins s σ H Q I hq;refine wpAny_List_spliced (aF (h pos pins s σ H _ I hq) fun us s1 ⟨xs,H1,I1,r,z,q⟩=>⟨by rw [←r.length];exact z,?_⟩)
 have hf:H1 s1.heap.objs.size=none:=I1.au.fresh (aw _);refine ⟨.ref s1.heap.objs.size,upd H1 s1.heap.objs.size (.lst xs),I1.laid (t':=s1.toks) (fun b u e=>bW _ e) (aw _) ?_,rfl,q _ hf⟩;exact ⟨z,us,0,r,dE _ rfl⟩
end
abbrev Sp:=List V→Hp→VK→XK→Prop
abbrev fR:=List Env→Hp→Shared→XK→Value→Shared→Prop
structure wQ (P:Program) (w:World) (K:aC) (mg:cN) (base:Heap) (A:Around) (outer:List Env) (s:Shared) (H:Hp):Prop where
 frames:A.frames=some outer
 mod:Mod K mg base
 bs:∀b o,base.get? b=some o→s.heap.get? b=some o∧H b=none
 gy:base.objs.size≤s.heap.objs.size
 je:s.heap.FunFrames base outer
 mh:∀b∈cj outer,H b=none
 au:bY P w H s.heap
 bare:AllBare s.gens
def CE(outer:List Env)(P:Program)(w:World)(H:Hp)(s:Shared)(Q:VK)(u:Value)(s':Shared):Prop:=
 ∃v H',s'.os=s.os∧AllBare s'.gens∧Un (cj outer) [] H H' s.heap s'.heap∧bY P w H' s'.heap∧RelV v u∧Q v H'
def CR(CX:fR)(outer:List Env)(P:Program)(w:World)(H:Hp)(s:Shared)(Q:VK)(E:XK)(r:Result)(s':Shared):Prop:=
 match r with
 | .ok (.ret u)=>CE outer P w H s Q u s'
 | .ok _=>False
 | .error e=>CX outer H s E e s'
structure bZ (P:Program) (w:World) (K:aC) (mg:cN) (base:Heap) (CX:fR) (k:Nat) (f:Addr) (fd:FuncData) (ps:List Str) (sp:Sp):Prop where
 len:∀vs H Q E,sp vs H Q E→vs.length=ps.length
 run:∀(A:Around) (outer:List Env) (s:Shared) (H:Hp) (args:Args) (us:List Value) (vs:List V) (Q:VK) (E:XK),dU k A→wQ P w K mg base A outer s H→BindsTo s fd args (ps.zip us)→Vals vs us→sp vs H Q E→
  codeAny (model P w) A (.call (.ref f) args) (CR CX outer P w H s Q E) s
section
variable {X:Cx} {pins:aP} {σ:St} {H:Hp} {s s':Shared}
theorem Inv.Ko(I:Inv X pins σ H s):wQ X.prog X.w X.K X.mg X.base X.A X.stack s H:=
 ⟨I.ok.frames,I.ok.mod,I.bs,b5 I.ok.gy I.sz,I.stack,I.qO,I.au,I.bare⟩
theorem Inv.after{Q:VK}(I:Inv X pins σ H s)(h:CE X.stack X.prog X.w H s Q u s'):EP X pins σ Q u s':=by obtain ⟨v,H',os,bare,un,au,r,q⟩:=h;obtain ⟨hh,g,d,t,Kp⟩:=s';obtain rfl:Kp=s.os:=os;exact ⟨v,H',I.call (h':=hh) (g':=g) (d':=d) (t':=t) (ch:=[]) un au bare (fun b z=>absurd z (by simp)),r,q⟩
end
def DO(sp:Sp)(jU:List V)(E:XK)(t:TA):TE:=fun σ H Q=>t σ H fun vs H1=>sp (vs++jU) H1 Q E
def Binds(K:aC)(fd:FuncData)(ps:List Str)(ds:List Value):Prop:=
 ∀(s:Shared) (us:List Value),K.In s.heap→(us++ds).length=ps.length→BindsTo s fd ⟨us,[]⟩ (ps.zip (us++ds))
variable {ps:List Str}
theorem Binds.all{fd:FuncData}(h:∀us:List Value,us.length=ps.length→bindArgs fd ⟨us,[]⟩=pure (ps.zip us)):Binds K fd ps []:=fun s us _ hl=>by rw [qq] at hl ⊢;exact .of_eq (h us hl)
def Passes(CX:fR)(X:Cx)(E:XK):Prop:=∀(pins:aP) (σ:St) (H:Hp) (s:Shared) (e:Value) (s':Shared),Inv X pins σ H s→CX X.stack H s E e s'→X.xe e s'
section
variable {X:Cx} {CX:fR} {k:Nat} {f C:Addr} {fd:FuncData} {ps:List Str} {sp:Sp} {jU:List V} {ds:List Value} {E:XK} {x m:Str} {p pos apos:Pos} {e o:Expr} {es:List Expr} {ta:TE} {t:TA}
theorem Kq{pins:aP}{Q:VK}{vs:List V}(F:bZ X.prog X.w X.K X.mg X.base CX k f fd ps sp)(hr:dU k X.A)(hb:Binds X.K fd ps ds)(hd:Vals jU ds)(hx:Passes CX X E)
  (I:Inv X pins σ H s) (r:Vals vs us) (h:sp (vs++jU) H Q E):wpAny (model X.prog X.w) X.A (call (.ref f) us) (EP X pins σ Q) X.xe s:=by
 have r2:Vals (vs++jU) (us++ds):=r.append hd;have hl:(us++ds).length=ps.length:=by rw [←r2.length];exact F.len _ _ _ _ h
 refine wpAny_call (codeAny_mono (F.run X.A X.stack s H ⟨us,[]⟩ (us++ds) (vs++jU) Q E hr I.Ko (hb s us I.en hl) r2 h) fun r s' hq=>?_);cases r with
 | error e=>exact hx pins σ H s e s' I hq
 | ok fl=>
  cases fl with
  | ret u=>exact I.after hq
  | next=>exact False.elim hq
  | brk=>exact False.elim hq
  | cont=>exact False.elim hq
theorem Kr(F:bZ X.prog X.w X.K X.mg X.base CX k f fd ps sp)(hr:dU k X.A)(hg:Gl X x)(hm:X.mg x=some (.ref f))(hk:PySem.W.keepIn X.K (.ref f)=true)(hb:Binds X.K fd ps ds)(hd:Vals jU ds)(hx:Passes CX X E)
  (ha:PA X (e::es) t) (nZ:(x == ("__debug__":Str))=false:=by decide) (he:starEach (e::es) X.env=(false,eval e X.env)::starEach es X.env:=by rfl) (iF:(backTo pos (starEach es X.env)).any (·.1)=false:=by rfl) :
  PE X (.Call (.Name x p) (e::es) [] pos) (DO sp jU E t):=by
 intro pins s σ H Q I h;refine tJ (zX I hg hm ?_ nZ);refine PySem.W.callWith_K (h₀:=X.base) I.ok.mod.cO hk (aF (ha pos pins s σ H _ I h) fun us s1 ⟨vs,H1,I1,r,q⟩=>⟨I1.en,?_⟩) he iF;exact Kq F hr hb hd hx I1 r q
theorem bf{j:Nat}(F:bZ X.prog X.w X.K X.mg X.base CX k f fd ps sp)(hr:dU j X.A)(hm:X.mg x=some (.ref f))(hk:PySem.W.keepIn X.K (.ref f)=true)(hb:Binds X.K fd ps [])(hx:Passes CX X E)
  (ha:PA X (e::es) t) (hj:k≤j:=by decide) (hg:Gl X x:=by exact rfl) (nZ:(x == ("__debug__":Str))=false:=by decide) (he:starEach (e::es) X.env=(false,eval e X.env)::starEach es X.env:=by rfl) (iF:(backTo pos (starEach es X.env)).any (·.1)=false:=by rfl) :
  PE X (.Call (.Name x p) (e::es) [] pos) (DO sp [] E t):=Kr F (hr.mono hj) hg hm hk hb .nil hx ha nZ he iF
end
section
variable {X:Cx} {CX:fR} {k:Nat} {f C:Addr} {fd:FuncData} {ps ks:List Str} {sp:Sp} {E:XK} {x m:Str} {p pos apos DP:Pos} {e o:Expr} {es:List Expr} {Ks:List Keyword} {te ta:TE} {t tk:TA} {nm:Option Str}
variable {g:List Value→List Value→List Value} {gV:List V→List V→List V}
end
structure cq (N P:List Str) (sc:Scope):Prop where
 kind:sc.kind=.function
 co:sc.isCoroutine=false
 gen:sc.isGenerator=false
 nd:N.Nodup
 pre:N.take P.length=P
 par:∀x∈P,sc.names.lookup x=some .local∨sc.names.lookup x=some .cell
 Kt:∀y∈sc.names,y.2≠.free
variable {N:List Str} {sc:Scope}
theorem du{P:List Str}(h1:sc.kind=.function:=by rfl)(h2:sc.isCoroutine=false:=by rfl)(h3:sc.isGenerator=false:=by rfl)(h4:N.Nodup:=by decide +kernel)(h5:N.take P.length=P:=by rfl)(h6:∀x∈P,sc.names.lookup x=some .local∨sc.names.lookup x=some .cell:=by decide +kernel)(h7:∀y∈sc.names,y.2≠.free:=by decide +kernel):cq N P sc:=⟨h1,h2,h3,h4,h5,h6,h7⟩
theorem DQ{kindOf:Str→Option NameKind}{x:Str}:∀{binds:List (Str×Value)} {m:cN},(∀v,(x,v)∉binds)→bindL kindOf binds m x=m x
 | [],_,_=>rfl
 | (n,v)::r,m,h=>by
  unfold bindL;rw [DQ fun w hw=>h w (cB _ hw)]
  split
  ·have:x≠n:=by rintro rfl;exact h v dB
   simp [this]
  ·rfl
theorem DR{kindOf:Str→Option NameKind}{x:Str}:∀{binds:List (Str×Value)} {m:cN},(∀v,(x,v)∉binds)→bindC kindOf binds m x=m x
 | [],_,_=>rfl
 | (n,v)::r,m,h=>by
  unfold bindC;rw [DR fun w hw=>h w (cB _ hw)]
  split
  ·rfl
  ·have:x≠n:=by rintro rfl;exact h v dB
   simp [this]
theorem DS{kindOf:Str→Option NameKind}{x:Str}{v:Value}:∀{P:List Str} {vs:List Value} {i:Nat} {m:cN},P.Nodup→P[i]?=some x→vs[i]?=some v→kindOf x=some .local→
  bindL kindOf (P.zip vs) m x=some v
 | [],_,_,_,_,h,_,_=>by simp at h
 | _::_,[],_,_,_,_,h,_=>by simp at h
 | p::P,w::vs,0,m,nd,h1,h2,hk=>by simp at h1 h2;subst h1;subst h2;show bindL kindOf ((p,w)::P.zip vs) m p=_;unfold bindL;rw [DQ fun v hv=>(eh.mp nd).1 (List.of_mem_zip hv).1,ae hk];simp
 | p::P,w::vs,i+1,m,nd,h1,h2,hk=>by show bindL kindOf ((p,w)::P.zip vs) m x=_;unfold bindL;exact DS (i:=i) (eh.mp nd).2 (by simpa using h1) (by simpa using h2) hk
theorem DT{kindOf:Str→Option NameKind}{x:Str}{v:Value}:∀{P:List Str} {vs:List Value} {i:Nat} {m:cN},P.Nodup→P[i]?=some x→vs[i]?=some v→kindOf x≠some .local→
  bindC kindOf (P.zip vs) m x=some v
 | [],_,_,_,_,h,_,_=>by simp at h
 | _::_,[],_,_,_,_,h,_=>by simp at h
 | p::P,w::vs,0,m,nd,h1,h2,hk=>by simp at h1 h2;subst h1;subst h2;show bindC kindOf ((p,w)::P.zip vs) m p=_;unfold bindC;rw [DR fun v hv=>(eh.mp nd).1 (List.of_mem_zip hv).1,aa hk];simp
 | p::P,w::vs,i+1,m,nd,h1,h2,hk=>by show bindC kindOf ((p,w)::P.zip vs) m x=_;unfold bindC;exact DT (i:=i) (eh.mp nd).2 (by simpa using h1) (by simpa using h2) hk
def start(N:List Str)(vs:List V):St:=vs.map some++List.replicate (N.length-vs.length) none
def jh(CX:fR)(P:Program)(w:World)(K:aC)(mg:cN)(base:Heap)(N:List Str)(qual:Str)(scope:Scope)(f:Addr)(cd:Value)(A:Around)(outer:List Env)(s:Shared)(H:Hp)(E:XK):Cx where
 prog:=P
 w:=w
 K:=K
 mg:=mg
 base:=base
 A:=A.deeper (envOfC qual scope s.heap.objs.size f cd)
 N:=N
 s₀:=s
 H₀:=H
 env:=envOfC qual scope s.heap.objs.size f cd
 outer:=outer
 stack:=envOfC qual scope s.heap.objs.size f cd::outer
 ex:=[]
 calm:=true
 fn:=fun _=>true
 pn:=[]
 xe:=fun e s'=>wpAny (model P w) (A.deeper (envOfC qual scope s.heap.objs.size f cd)) (leaving (envOfC qual scope s.heap.objs.size f cd) e) (fun _ eE=>CX outer H s E e eE) (fun e' eE=>CX outer H s E e' eE) s'
theorem DU{x:Str}(h:sc.names.lookup x=some .cell):∃c,(cellsFrom n sc.names []).lookup x=some c:=by have q:=PySem.W.cellsFrom_some sc.names n [] (.inl h);exact Option.isSome_iff_exists.mp q
variable {CX:fR} {mg:cN} {base:Heap} {qual:Str} {scope:Scope} {f:Addr}
theorem Ku{cd:Value}{outer:List Env}{s1:Shared}{E:XK}{vs:List V}
  (S:cq N ps scope) (hd:A.handled=none) (e0:wQ P w K mg base A outer s H) (hl:vs.length=ps.length) (r:Vals vs us)
  (x:InCallC s s.heap.objs.size (bindL (envOfC qual scope s.heap.objs.size f cd).kindOf (ps.zip us) fun _=>none) (cellsFrom (s.heap.objs.size+1) scope.names []) (bindC (envOfC qual scope s.heap.objs.size f cd).kindOf (ps.zip us) fun _=>none) s1) :
  Inv (jh CX P w K mg base N qual scope f cd A outer s H E) [] (start N vs) H s1:=by
 have iF:ps.length≤N.length:=by have:=b_ List.length S.pre;rw [nF] at this;omega
 obtain ⟨h1,tk,rfl,hk⟩:=x.done;have uv:∀b:Addr,b∉(jh CX P w K mg base N qual scope f cd A outer s H E).ex:=fun b z=>absurd (show b∈([]:List Addr) from z) (by simp)
 refine ⟨⟨e0.mod,S.kind,rfl,rfl,aw _,fun y z c h1 h2=>?_,fun y hy=>?_,fun y c _ h=>?_,fun _=>hd,Around.frames_deeper e0.frames,.inr ⟨rfl,rfl⟩,fun b z=>absurd z (uv b),e0.bs,e0.gy,fun b _ _=>uv b,fun b z=>absurd z (uv b),e0.je,e0.mh⟩,
  rfl,e0.bare,Un.kept hk,⟨_,x.toInCall.ns,fun i y v h1 h2 h3=>?_⟩,fun y c h=>⟨_,x.cell y c h⟩,e0.au.fresh (aw _),fun y c h=>?_,fun p hp=>absurd (show p∈([]:aP) from hp) (by simp),e0.au.kept hk,?_⟩
 ·exact name_of_addr x.apart (jH h1) (jH h2)
 ·have hy:scope.names.lookup y=some .cell∨scope.names.lookup y=some .free:=hy
  rcases hy with hy | hy;·exact DU hy
  ·exact absurd rfl (S.Kt _ (jH hy))
 ·exact ky (x.above y c (jH h))
 ·have hi:i<vs.length:=by
   unfold start at h2;by_cases hi:i<vs.length;·exact hi
   ·rw [iq (by simpa using hi)] at h2
    rw [List.getElem?_replicate] at h2
    split at h2 <;> cases h2
  have ha:vs[i]?=some v:=by
   unfold start at h2;rw [ir (by simpa using hi),bt] at h2
   cases e:vs[i]? with
   | none=>rw [e] at h2;cases h2
   | some a=>rw [e] at h2;cases h2;rfl
  obtain ⟨u,hu,rv⟩:=r.get ha;have hp:ps[i]?=some y:=by rw [←S.pre,List.getElem?_take_of_lt (by omega)];exact h1
  have DV:ps.Nodup:=by rw [←S.pre];exact S.nd.sublist (List.take_sublist _ _)
  refine ⟨u,rv,?_⟩;rcases S.par y (i8 hp) with k | k;·exact .inl ⟨k,DS DV hp hu k⟩
  ·obtain ⟨c,e⟩:=DU (n:=s.heap.objs.size+1) k
   refine .inr ⟨.inl k,c,e,?_⟩;have q:=x.cell y c e;rw [DT DV hp hu (by show scope.names.lookup y≠_;rw [k];decide)] at q
   exact q
 ·exact e0.au.fresh (ky (x.above y c (jH h)))
 ·unfold start
  show _=N.length;rw [dh,aB,List.length_replicate];omega
theorem DW{name:Str}{params:Arguments}{body:List Stmt}{dV kV doc pm bN ct oc:Value}{an od:Option Addr}
  {jV:Array (Option Value)} {sp:Sp} (lk:K.lookup f=some ⟨oc,od,.func (PySem.W.fnOf name qual params body scope dV kV doc pm an bN ct),jV⟩) (gz:PySem.W.codeIn K bN qual=true) (S:cq N ps scope)
  (len:∀vs H Q E,sp vs H Q E→vs.length=ps.length)
  (kK:∀(A:Around) (outer:List Env) (s:Shared) (H:Hp) (vs:List V) (Q:VK) (E:XK),dU k (A.deeper (envOfC qual scope s.heap.objs.size f bN))→sp vs H Q E→
   ∃t,eQ (jh CX P w K mg base N qual scope f bN A outer s H E) body t∧t {nx:=fun _ H'=>Q .aN H',rt:=Q} (start N vs) H) :
  bZ P w K mg base CX (k+1) f (PySem.W.fnOf name qual params body scope dV kV doc pm an bN ct) ps sp:=by
 refine ⟨len,fun A outer s H args us vs Q E hr e0 hb r jW=>?_⟩;have hl:=len _ _ _ _ jW;have KX:K.In s.heap:=e0.mod.cO.keeps fun b o e=>(e0.bs b o e).1;have lim:s.heap.NoLimit:=e0.mod.nolimit.keeps fun b o e=>(e0.bs b o e).1;have Kv:∀y∈ps.zip us,scope.names.lookup y.1=some .local∨(scope.names.lookup y.1=some .cell∧((cellsFrom (s.heap.objs.size+1) scope.names []).lookup y.1).isSome=true):=fun⟨n,v⟩ hy=>by
  rcases S.par n (List.of_mem_zip hy).1 with q | q;·exact .inl q
  ·exact .inr ⟨q,PySem.W.cellsFrom_some _ _ _ (.inl q)⟩
 refine codeAny_call_function hr.depth (KX _ _ lk) rfl S.co S.gen rfl (PySem.W.codeRec_of KX gz) (hb _ _ _ _ ?_);refine wpAny_newFunctionEnv_cells S.kind Kv fun env he s1 x=>?_;subst he;refine ⟨lim.keeps x.toInCall.keep,codeAny_func ?_⟩;obtain ⟨t,ht,hq⟩:=kK A outer s H vs Q E (hr.deeper _) jW;have I:Inv (jh CX P w K mg base N qual scope f bN A outer s H E) [] (start N vs) H s1:=Ku S hr.hd e0 hl r x;refine bo (ht [] s1 (start N vs) H _ I hq) (fun fl s' hs=>?_) fun e s' hs=>hs;have fin:∀{σ':St} {H':Hp} {v:V} {u:Value},Inv (jh CX P w K mg base N qual scope f bN A outer s H E) [] σ' H' s'→RelV v u→Q v H'→CE outer P w H s Q u s':=
  fun{σ' H' v u} J rv q=>⟨v,H',J.os,J.bare,J.base,J.au,rv,q⟩
 cases fl with
 | ret u=>obtain ⟨v,σ',H',J,rv,q⟩:=hs;exact fin J rv q
 | next=>obtain ⟨σ',H',J,q⟩:=hs;exact fin (v:=V.aN) (u:=Value.none) J rfl q
 | brk=>obtain ⟨_,_,_,q⟩:=hs;exact False.elim q
 | cont=>obtain ⟨_,_,_,q⟩:=hs;exact False.elim q
section
variable {X:Cx} {x:Str} {p pos:Pos} {e:Expr} {es:List Expr} {t:TA} {id T:String} {r:List V→Hp→VK→Prop}
def wR(r:List V→Hp→VK→Prop)(t:TA):TE:=fun σ H Q=>t σ H fun vs H1=>r vs H1 Q
theorem cY(hc:eC X (.builtin id) r)(hg:Gl X x)(hm:X.mg x=none)(hv:bootBuiltins x=some (.builtin id))(ha:PA X (e::es) t)(hn:x ≠ "__name__":=by decide)(nZ:(x == ("__debug__":Str))=false:=by decide)
  (he:starEach (e::es) X.env=(false,eval e X.env)::starEach es X.env:=by rfl) (iF:(backTo pos (starEach es X.env)).any (·.1)=false:=by rfl):PE X (.Call (.Name x p) (e::es) [] pos) (wR r t):=by
 intro pins s σ H Q I h;refine tJ (mw I hg hm hv ?_ hn nZ);exact PyProof.Rows.callWith_builtin1 (aF (ha pos pins s σ H _ I h) fun us s1 ⟨vs,H1,I1,r1,q1⟩=>hc pins s1 σ H1 vs us Q I1 r1 q1) he iF
theorem cZ(hc:eC X (.type T) r)(hg:Gl X x)(hm:X.mg x=none)(hv:bootBuiltins x=some (.type T))(ha:PA X (e::es) t)(hn:x ≠ "__name__":=by decide)(nZ:(x == ("__debug__":Str))=false:=by decide)
  (he:starEach (e::es) X.env=(false,eval e X.env)::starEach es X.env:=by rfl) (iF:(backTo pos (starEach es X.env)).any (·.1)=false:=by rfl):PE X (.Call (.Name x p) (e::es) [] pos) (wR r t):=by
 intro pins s σ H Q I h;refine tJ (mw I hg hm hv ?_ hn nZ);exact zD (aF (ha pos pins s σ H _ I h) fun us s1 ⟨vs,H1,I1,r1,q1⟩=>hc pins s1 σ H1 vs us Q I1 r1 q1) he iF
end
end L2
namespace HT
open PySem PyProof.Rows
def lexLt:List Int→List Int→Bool
 | [],[]=>false
 | [],_::_=>true
 | _::_,[]=>false
 | x::xs,y::ys=>if x=y then lexLt xs ys else decide (x<y)
theorem Ai(x y:Int)(xs ys:List Int):lexLt (x::xs) (y::ys)=if x=y then lexLt xs ys else decide (x<y):=rfl
theorem Kw:lexLt [] []=false:=rfl
theorem Kx(y:Int)(ys:List Int):lexLt [] (y::ys)=true:=rfl
theorem Ky(x:Int)(xs:List Int):lexLt (x::xs) []=false:=rfl
theorem Kz(A:Around)(s:Shared)(a:Int)(t:Tok)(c:Int)(u:Tok):∃e,SeqAt.EqAt A s (.int a t) (.int c u) e∧(e=true↔a=c):=
 ⟨(a == c),SeqAt.EqAt.int_int a t c u,by simp⟩
theorem DX(A:Around)(s:Shared)(a:Int)(t:Tok)(c:Int)(u:Tok)(prog:Program)(w:World)(E:aE)(Q:aE)(h:Q (.bool (decide (a<c))) s) :
  wpAny (model prog w) A (richCompare .Lt (.int a t) (.int c u)) Q E s:=
 (PyProof.Rows.lt_int h:wpAny (model prog w) A (compareOp .Lt (.int a t) (.int c u)) Q E s)
section
open PySem.SeqAt
open PySem.AutoSeq1 (wpAny_loadPart')
open PySem.MeetsSeq PySem.MeetsSeq2 PySem.MeetsSeq3
theorem KA(l b:Addr)(items items2:Array Value)(n n2:Nat)(dd mI:Option Addr)(sl g7:Array (Option Value))(ns ms:List Int)(hi:IntsAre items.toList ns)(hj:IntsAre items2.toList ms) :
  Meets (Builtin.«tuple.__lt__» ⟨[.ref l,.ref b],[]⟩)
   (fun _ R s=>s.heap.get? l=some {cls:=.type "tuple",dict:=dd,data:=.seq items n,slots:=sl}∧s.heap.get? b=some {cls:=.type "tuple",dict:=mI,data:=.seq items2 n2,slots:=g7} ∧
    R (.ok (.ret (.bool (lexLt ns ms)))) s):=
 .of_wp fun prog w A R s h=>by
  obtain ⟨hp,g,d,tk,os⟩:=s;obtain ⟨hl,hb,h⟩:=h;have f2:=AutoSeq1.sub_tuple_tuple;have z1:items.size=ns.length:=by rw [←hi.length];simp
  have z2:items2.size=ms.length:=by rw [←hj.length];simp
  wp_walk using wpAny_loadPart' hl,wpAny_loadPart' hb,wpAny_forIn_list _ (fun rest b s'=>b.1=none∧s'=⟨hp,g,d,tk,os⟩∧∃(vs ws:List Value) (iG qT:List Int),rest=vs.zip ws ∧
   IntsAre vs iG∧IntsAre ws qT∧iG.length+items2.size=qT.length+items.size∧R (.ok (.ret (.bool (lexLt iG qT)))) ⟨hp,g,d,tk,os⟩) _
  case turn=>
   rintro ⟨y,x⟩ rest b s' ⟨ji,rfl,vs,ws,iG,qT,hz,Aj,eU,hlen,hR⟩;cases Aj with
   | nil=>rw [List.zip_nil_left] at hz;cases hz
   | cons a t KC=>
    cases eU with
    | nil=>rw [List.zip_nil_right] at hz;cases hz
    | cons c u KD=>
     rw [List.zip_cons_cons] at hz;injection hz with KG jj;injection KG with hy hx;subst hy hx;rw [Ai] at hR;simp only [cL] at hlen;obtain ⟨e,he,DY⟩:=Kz A.in1 ⟨hp,g,d,tk,os⟩ a t c u;refine av (he prog w _ _ ?_);cases e with
     | true=>
      rw [ae (DY.mp rfl)] at hR
      wp_walk
      exact ⟨rfl,rfl,_,_,_,_,jj,KC,KD,by omega,hR⟩
     | false=>
      rw [aa (fun q=>absurd (DY.mpr q) cK)] at hR;have KH:=DX A.in1 ⟨hp,g,d,tk,os⟩ a t c u prog w
      wp_walk using KH
      exact ⟨_,rfl,by simpa using hR⟩
  case fin=>
   rintro ⟨b1,b2⟩ s' ⟨ji,rfl,vs,ws,iG,qT,hz,Aj,eU,hlen,hR⟩;simp only at ji;subst ji;have hv:lexLt iG qT=decide (items.size<items2.size):=by
    cases Aj with
    | nil=>
     cases eU with
     | nil=>simp only [tK] at hlen;rw [Kw];exact (bV (by omega)).symm
     | cons c u hw=>simp only [tK,cL] at hlen;rw [Kx];exact (cf (by omega)).symm
    | cons a t hv=>
     cases eU with
     | nil=>simp only [tK,cL] at hlen;rw [Ky];exact (bV (by omega)).symm
     | cons c u hw=>rw [List.zip_cons_cons] at hz;cases hz
   rw [hv] at hR
   wp_walk
   exact ⟨_,rfl,by simpa [Builtin.Tuple.tupleCompareSizes] using hR⟩
  case h=>exact ⟨rfl,rfl,items.toList,items2.toList,ns,ms,rfl,hi,hj,by omega,h⟩
end
section
variable {prog:Program} {w:World} {A:Around} {E:aE} {s:Shared}
variable {b:Addr} {Q:aE}
theorem KI{l:Addr}{items items2:Array Value}{ns ms:List Int}(hl:IsTup s.heap l items)(hb:IsTup s.heap b items2)(hi:IntsAre items.toList ns)(hj:IntsAre items2.toList ms)
  (hu:A.units<cLine) (h:Q (.bool (lexLt ns ms)) s):wpAny (model prog w) A (compareOp .Lt (.ref l) (.ref b)) Q E s:=by
 obtain ⟨⟨cls,dd,data,sl⟩,ho,hc,n,hd⟩:=id hl;obtain ⟨⟨DZ,mI,data2,g7⟩,d8,fB,n2,hd2⟩:=id hb;simp only at hc hd fB hd2;subst hc hd fB hd2
 exact richCompare_meets_room (op:=.Lt) ⟨_,ho,rfl⟩ ⟨_,d8,rfl⟩ PySem.F.slot_tuple_lt PySem.F.entry_tuple_lt (PySem.F.args_tuple_lt_2 _ _) (KA l b items items2 n n2 dd mI sl g7 ns ms hi hj)
  ⟨ho,d8,show Value.bool (lexLt ns ms)≠Value.notImplemented∧Q (.bool (lexLt ns ms)) s from ⟨(fun x=>nomatch x),h⟩⟩ hu
theorem KJ{t:Addr}{vs ws:List Value}(ht:IsTup s.heap t vs.toArray)(hb:IsTup s.heap b ws.toArray)(hv:vs≠[])
  (h1:ws=[]→Q (.ref t) s) (h2:ws≠[]→Q (.ref s.heap.objs.size) {s with heap:=s.heap.push {cls:=.type "tuple",data:=.seq (vs++ws).toArray}})
  (hsz:vs.length+ws.length≤sizeLine):wpAny (model prog w) A (binaryOp .Add (.ref t) (.ref b)) Q E s:=by
 obtain ⟨⟨cls,dd,data,sl⟩,ho,hc,n,hd⟩:=id ht;obtain ⟨⟨DZ,mI,data2,g7⟩,d8,fB,n2,hd2⟩:=id hb;simp only at hc hd fB hd2;subst hc hd fB hd2;have e:vs.toArray++ws.toArray=(vs++ws).toArray:=by simp
 by_cases hw:ws=[]
 ·exact concat_meets ⟨_,ho,rfl⟩ ⟨_,d8,rfl⟩ noFill_tuple_add seq_tuple_add zE zF (zG _ _)
   (tuple_addW1 t b vs.toArray ws.toArray n n2 dd mI sl g7 (by simpa using hv) (by simp [hw])) ⟨ho,d8,h1 hw⟩
 ·refine concat_meets ⟨_,ho,rfl⟩ ⟨_,d8,rfl⟩ noFill_tuple_add seq_tuple_add zE zF (zG _ _)
   (tuple_addW2 t b vs.toArray ws.toArray n n2 dd mI sl g7 (by simpa using hv) (by simpa using hw) (by rw [bP,bP];exact hsz)) ⟨ho,d8,?_⟩
  rw [e];exact h2 hw
def fS(n d:Nat):Option Int→Nat
 | none=>d
 | some v=>if v<0 then (v+(n:Int)).toNat else min v.toNat n
end
end HT
namespace L2
open PySem PySem.Spec PyProof.Rows
theorem intsAre_of{ns:List Int}:∀{us:List Value},Vals (ns.map V.int) us→IntsAre us ns:=by
 induction ns with
 | nil=>intro us r;rw [qr] at r;cases r;exact .nil
 | cons n ns ih=>
  intro us r;rw [bM] at r;cases r with
  | cons r1 r2=>obtain ⟨t,e⟩:=r1;subst e;exact .cons n t (ih r2)
section
variable {X:Cx} {e:Expr} {te:TE} {lo hi:Option Expr} {tl th:TO} {pos p2:Pos}
def KN(X:Cx)(r:V→Option Int→Option Int→Hp→VK→Prop):Prop:=
 ∀(pins:aP) (s:Shared) (σ:St) (H:Hp) (x:V) (v vl vu:Value) (lo hi:Option Int) (sl:Addr) (Q:VK),Inv X pins σ H s→RelV x v→s.heap.IsSliceOf sl vl vu .none→IsPart vl lo→IsPart vu hi→r x lo hi H Q→
  ∃T id,typeLookup (.type T) "__getitem__"=pure (some (.builtin id))∧s.TypeIs v T∧wpAny (model X.prog X.w) X.A (getItem v (.ref sl)) (EP X pins σ Q) X.xe s
def wU(xs:List V)(lo hi:Option Int):List V:=(xs.drop (HT.fS xs.length 0 lo)).take (HT.fS xs.length xs.length hi-HT.fS xs.length 0 lo)
theorem KO(xs:List V)(lo hi:Option Int):(wU xs lo hi).length≤xs.length:=by unfold wU;rw [nF,List.length_drop];omega
def KP(K:aC):R2:=fun x y H Q=>∃a b xs ys,x=.ref a∧y=.ref b∧dt K H a xs∧dt K H b ys∧xs≠[]∧xs.length+ys.length≤sizeLine ∧
 (ys=[]→Q (.ref a) H)∧(ys≠[]→∀p,H p=none→Q (.ref p) (upd H p (.tup (xs++ys))))
theorem Vals.wV{xs:List V}{us:List Value}(r:Vals xs us):us=[]↔xs=[]:=by
 cases r with
 | nil=>simp
 | cons _ _=>simp
theorem KQ:cG X (binaryOp .Add) (KP X.K):=by
 intro pins s σ H x y v u Q I rx ry h;obtain ⟨a,b,xs,ys,rfl,rfl,ha,hb,hx,hz,q1,q2⟩:=h;cases rx;cases ry;obtain ⟨ah,r1,p1,_⟩:=I.tuple ha;obtain ⟨gB,r2,p2,_⟩:=I.tuple hb;refine HT.KJ p1 p2 (fun z=>hx (r1.wV.mp z)) (fun z=>⟨.ref a,H,I,rfl,q1 (r2.wV.mp z)⟩) (fun z=>?_) (by rw [←r1.length,←r2.length];exact hz)
 refine ⟨.ref s.heap.objs.size,_,I.laid (t':=s.toks) (o:=.tup (xs++ys)) (fun b ob q=>bW _ q) (aw _) ?_,rfl,q2 (fun w=>z (r2.wV.mpr w)) _ (I.au.fresh (aw _))⟩;exact ⟨by rw [dh];exact hz,_,r1.append r2,IsTup.new _ _⟩
end
def jk(n:Nat)(i:Int):Option Nat:=if 0≤i then (if i<n then some i.toNat else none) else if -(n:Int)≤i then some (i+n).toNat else none
def fC{α:Type}(xs:List α)(i:Int):Option α:=(jk xs.length i).bind fun j=>xs[j]?
variable {i:Int} {j:Nat}
theorem D5{n:Nat}(h:jk n i=some j):seqIndex? i n=some j∧j<n∧-(n:Int)≤i∧i<n:=by
 unfold jk at h;by_cases h0:0≤i
 ·rw [ae h0] at h
  by_cases h1:i<n
  ·rw [ae h1] at h
   have e:i.toNat=j:=Option.some.inj h;exact ⟨by rw [seqIndex_of h0 h1,e],by omega,by omega,h1⟩
  ·rw [aa h1] at h;cases h
 ·rw [aa h0] at h
  by_cases h1:-(n:Int)≤i
  ·rw [ae h1] at h
   have e:(i+n).toNat=j:=Option.some.inj h;exact ⟨by rw [seqIndex_neg (by omega) h1,e],by omega,h1,by omega⟩
  ·rw [aa h1] at h;cases h
theorem D6{α:Type}{xs:List α}{v:α}(h:fC xs i=some v):∃j,seqIndex? i xs.length=some j∧xs[j]?=some v∧j<xs.length∧-(xs.length:Int)≤i∧i<xs.length:=by
 unfold fC at h;cases e:jk xs.length i with
 | none=>rw [e] at h;cases h
 | some j=>rw [e] at h;obtain ⟨h1,h2,h3,h4⟩:=D5 e;exact ⟨j,h1,h,h2,h3,h4⟩
theorem n4{α:Type}{xs:List α}{v:α}(h:xs[j]?=some v):fC xs (j:Int)=some v:=by
 have hj:j<xs.length:=(b9.mp h).1;have e:jk xs.length (j:Int)=some j:=by unfold jk;rw [ae (by omega),ae (by omega)];simp
 unfold fC;rw [e];exact h
def D7(b:Expr):Prop:=∀o i,subscripted b false o i=operate [o,i] (getItem o i)
def uw(X:Cx)(r:R2):Prop:=
 ∀(value slice:Expr) (pins:aP) (s:Shared) (σ:St) (H:Hp) (x y:V) (v u:Value) (Q:VK),Inv X pins σ H s→RelV x v→RelV y u→r x y H Q→
  subscripted slice false v u=operate [v,u] (getItem v u)→wpAny (model X.prog X.w) X.A (subscriptTail value slice v u) (EP X pins σ Q) X.xe s
def D8(X:Cx)(id:String)(r:V→List V→Hp→VK→Prop):Prop:=
 ∀(pins:aP) (s:Shared) (σ:St) (H:Hp) (x:V) (xs:List V) (v:Value) (us:List Value) (Q:VK),Inv X pins σ H s→RelV x v→Vals xs us→r x xs H Q→
  wpAny (model X.prog X.w) X.A (call (.builtin id) (v::us)) (EP X pins σ Q) X.xe s
section
variable {X:Cx} {a b:Expr} {ta tb:TE} {pos:Pos}
variable {r:R2}
theorem KR(hr:uw X r)(ha:PE X a ta)(hb:PE X b tb)(hs:D7 b):PE X (.Subscript a b pos) (mF r ta tb):=by intro pins s σ H Q I h;exact Subscript_ (Ac ha hb I h fun v u s2 x y H2 I2 rx ry q=>hr a b pins s2 σ H2 x y v u Q I2 rx ry q (hs _ _))
theorem bO(hr:uw X r)(ha:PE X a ta)(hb:PE X b tb)(hs:D7 b:=by exact fun _ _=>rfl):PE X (.Subscript a b pos) (mF r ta tb):=KR hr ha hb hs
def D9(K:aC):R2:=fun x y H Q=>∃p xs i v,x=.ref p∧y=.int i∧bC K H p xs∧fC xs i=some v∧Q v H
def KS(K:aC):R2:=fun x y H Q=>∃p xs i v,x=.ref p∧y=.int i∧dt K H p xs∧fC xs i=some v∧Q v H
theorem dv:uw X (D9 X.K):=by
 intro value slice pins s σ H x y v u Q I rx ry h hs;obtain ⟨p,xs,i,z,rfl,rfl,hq,he,q⟩:=h;cases rx;obtain ⟨t,rfl⟩:=ry;obtain ⟨ah,r,pl,hz⟩:=I.list hq;obtain ⟨j,h1,h2,h3,h4,h5⟩:=D6 he;obtain ⟨w,ew,gW⟩:=r.get h2;have hl:=r.length;have hn:=wN;have fin:EP X pins σ Q w s:=⟨z,H,I,gW,q⟩;by_cases h0:0≤i
 ·have hj:i.toNat=j:=by rw [seqIndex_of h0 h5] at h1;exact Option.some.inj h1
  exact item_listR pl.isList h0 (by omega) (by rw [hj];simpa using ew) fin hs
 ·have hj:(i+(ah.toArray.size:Int)).toNat=j:=by
   rw [seqIndex_neg (by omega) h4] at h1
   rw [bP,←hl];exact Option.some.inj h1
  exact subscriptTail_builtinR (x:=w) pl.isList.typeIs slot_list_getitem.lookup
   (wpAny_getItem_list_neg (Q:=fun r s'=>r=w∧EP X pins σ Q r s') pl.isList (by omega) (by rw [bP] <;> omega) (by omega) (by rw [hj];simpa using ew) ⟨rfl,fin⟩) hs
theorem iH:uw X (KS X.K):=by
 intro value slice pins s σ H x y v u Q I rx ry h hs;obtain ⟨p,xs,i,z,rfl,rfl,hq,he,q⟩:=h;cases rx;obtain ⟨t,rfl⟩:=ry;obtain ⟨ah,r,pl,hz⟩:=I.tuple hq;obtain ⟨j,h1,h2,h3,h4,h5⟩:=D6 he;obtain ⟨w,ew,gW⟩:=r.get h2;have hl:=r.length;have hn:=wN;have fin:EP X pins σ Q w s:=⟨z,H,I,gW,q⟩
 exact subscriptTail_builtinR (x:=w) pl.typeIs slot_tuple_getitem.lookup
  (getItem_tuple (j:=j) (Q:=fun r s'=>r=w∧EP X pins σ Q r s') pl (by omega) (by omega) (by rw [bP,←hl];exact h1) (by simpa using ew) ⟨rfl,fin⟩) hs
theorem KU(ah:List Value)(n j:Nat)(u:Value):Obj.mapSeq (·.setIfInBounds j u) {cls:=.type "list",data:=.seq ah.toArray n}={cls:=.type "list",data:=.seq (ah.set j u).toArray n}:=by simp [Obj.mapSeq]
theorem Inv.lst{pins:aP}{σ:St}{H:Hp}{s:Shared}{p:Addr}{xs:List V}(I:Inv X pins σ H s)(h:H p=some (.lst xs)) :
  ∃(ah:List Value) (n:Nat),Vals xs ah∧s.heap.get? p=some {cls:=.type "list",data:=.seq ah.toArray n}∧xs.length≤sizeLine:=by
 obtain ⟨z,ah,n,r,e⟩:=I.au p _ h;exact ⟨ah,n,r,e,z⟩
variable {pins:aP} {σ:St} {H:Hp} {s:Shared}
theorem Inv.KW{p:Addr}{xs ys:List V}{ah its':List Value}{n n':Nat}{f:Obj→Obj}(I:Inv X pins σ H s)(h:H p=some (.lst xs))
  (ho:s.heap.get? p=some {cls:=.type "list",data:=.seq ah.toArray n}) (hf:f {cls:=.type "list",data:=.seq ah.toArray n}={cls:=.type "list",data:=.seq its'.toArray n'}) (r:Vals ys its') (hz:ys.length≤sizeLine) (t:Nat) :
  Inv X pins σ (upd H p (.lst ys)) {s with heap:=s.heap.update p f,toks:=t}:=by
 have e:(s.heap.update p f).get? p=some {cls:=.type "list",data:=.seq its'.toArray n'}:=by rw [Heap.get?_update_self f ho (by rw [hf] <;> rfl),hf]
 refine I.write (x:=p) (e:=p) (by rw [h];trivial) (.inl rfl) (fun b u hb q=>(Heap.get?_update_other _ _ (Ne.symm hb)).trans q) ⟨_,e⟩ ?_
 exact ⟨hz,its',n',r,e⟩
def KY:V→V→V→Hp→(Hp→Prop)→Prop:=fun o i v H Q=>∃p xs k j,o=.ref p∧i=.int k∧H p=some (.lst xs)∧jk xs.length k=some j∧Q (upd H p (.lst (xs.set j v)))
theorem set_list:Dy X KY:=by
 intro pins s σ H o i v ov iv u Q I ro ri rv h;obtain ⟨p,xs,k,j,rfl,rfl,hp,hj,q⟩:=h;cases ro;obtain ⟨t,rfl⟩:=ri;obtain ⟨ah,n,r,ho,hz⟩:=I.lst hp;obtain ⟨h1,h2,h3,h4⟩:=D5 hj;have hl:=r.length;have hn:=wN;have I':Inv X pins σ (upd H p (.lst (xs.set j v))) {s with heap:=s.heap.update p (Obj.mapSeq (·.setIfInBounds j u))}:=
  I.KW hp ho (KU ah n j u) (r.set rv j) (by rw [List.length_set];exact hz) s.toks
 by_cases h0:0≤k
 ·have hk:k.toNat=j:=by rw [seqIndex_of h0 h4] at h1;exact Option.some.inj h1
  exact PySem.W.ki_setAt ho h0 (by omega) (by rw [bP,←hl];exact h4) (by rw [hk];exact ⟨_,I',q⟩)
 ·have hk:(k+(ah.toArray.size:Int)).toNat=j:=by
   rw [seqIndex_neg (by omega) h3] at h1
   rw [bP,←hl];exact Option.some.inj h1
  exact PySem.W.ki_setBack ho (by omega) (by rw [bP,←hl];exact h3) (by omega) (by rw [hk];exact ⟨_,I',q⟩)
theorem KZ(lo hi:Option Int)(n:Nat):(sliceBounds lo hi none n).1=((HT.fS n 0 lo:Nat):Int)∧(sliceBounds lo hi none n).2.1=((HT.fS n n hi:Nat):Int)∧(sliceBounds lo hi none n).2.2=1:=by
 refine ⟨?_,?_,rfl⟩
 ·cases lo with
  | none=>simp [sliceBounds,HT.fS]
  | some i=>
   simp only [sliceBounds,HT.fS,Option.getD_none,show (1:Int)>0 by decide,if_true]
   by_cases h:i<0;·simp only [h,if_true] <;> omega
   ·simp only [h,if_false] <;> omega
 ·cases hi with
  | none=>simp [sliceBounds,HT.fS]
  | some i=>
   simp only [sliceBounds,HT.fS,Option.getD_none,show (1:Int)>0 by decide,if_true]
   by_cases h:i<0;·simp only [h,if_true] <;> omega
   ·simp only [h,if_false] <;> omega
theorem K6(ah:List Value)(lo hi:Option Int):slicePick ah.toArray lo hi none=((ah.drop (HT.fS ah.length 0 lo)).take (HT.fS ah.length ah.length hi-HT.fS ah.length 0 lo)).toArray:=by obtain ⟨h1,h2,h3⟩:=KZ lo hi ah.toArray.size;unfold slicePick;rw [h1,h2,h3];simp only [sliceRange_one,pick_run,bP] <;> rfl
def K7(K:aC):V→Option Int→Option Int→Hp→VK→Prop:=fun x lo hi H Q=>∃a xs,x=.ref a∧bC K H a xs∧∀p,H p=none→Q (.ref p) (upd H p (.lst (wU xs lo hi)))
theorem TC:KN X (K7 X.K):=by
 intro pins s σ H x v vl vu lo hi sl Q I rx hs pl pu h;obtain ⟨a,xs,rfl,hx,q⟩:=h;cases rx;obtain ⟨ah,r,ht,hz⟩:=I.list hx;have hlen:=r.length;refine ⟨"list",_,slot_list_getitem.lookup,ht.isList.typeIs,?_⟩;refine wpAny_getItem_list_slice ht.isList hs pl pu .none (by simp) ?_ (by rw [bP] <;> omega)
 rw [K6,←hlen];refine ⟨.ref s.heap.objs.size,_,I.laid (t':=s.toks) (o:=.lst (wU xs lo hi)) (fun b ob q=>bW _ q) (aw _) ?_,rfl,q _ (I.au.fresh (aw _))⟩;exact ⟨b5 (KO xs lo hi) hz,_,0,(r.drop (HT.fS xs.length 0 lo)).take (HT.fS xs.length xs.length hi-HT.fS xs.length 0 lo),dE _ rfl⟩
def jl:V→Bool
 | .aN=>true
 | .bl _=>true
 | .int _=>true
 | .str _=>true
 | _=>false
def iI:V→V→Bool
 | .aN,.aN=>true
 | .bl a,.bl b=>a == b
 | .bl a,.int b=>(if a then 1 else 0) == b
 | .int a,.bl b=>a == (if b then 1 else 0)
 | .int a,.int b=>a == b
 | .str a,.str b=>a == b
 | _,_=>false
variable {y x:V} {u:Value}
theorem D_{A:Around}{v:Value}(ry:RelV y u)(rx:RelV x v)(fy:jl y=true)(fx:jl x=true):SeqAt.EqAt A s u v (iI y x):=by
 cases y with
 | aN=>
  cases ry;cases x with
  | aN=>cases rx;exact SeqAt.EqAt.same _
  | bl b=>cases rx;exact SeqAt.EqAt.none_bool b
  | int b=>obtain ⟨t,rfl⟩:=rx;exact SeqAt.EqAt.none_int b t
  | str b=>obtain ⟨t,rfl⟩:=rx;exact SeqAt.EqAt.none_str b t
  | _=>exact absurd (show false=true from fx) cK
 | bl a=>
  cases ry;cases x with
  | aN=>cases rx;exact SeqAt.EqAt.bool_none a
  | bl b=>cases rx;exact SeqAt.EqAt.bool_bool a b
  | int b=>obtain ⟨t,rfl⟩:=rx;exact SeqAt.EqAt.bool_int a b t
  | str b=>obtain ⟨t,rfl⟩:=rx;exact SeqAt.EqAt.bool_str a b t
  | _=>exact absurd (show false=true from fx) cK
 | int a=>
  obtain ⟨t',rfl⟩:=ry;cases x with
  | aN=>cases rx;exact SeqAt.EqAt.int_none a t'
  | bl b=>cases rx;exact SeqAt.EqAt.int_bool a t' b
  | int b=>obtain ⟨t,rfl⟩:=rx;exact SeqAt.EqAt.int_int a t' b t
  | str b=>obtain ⟨t,rfl⟩:=rx;exact SeqAt.EqAt.int_str a t' b t
  | _=>exact absurd (show false=true from fx) cK
 | str a=>
  obtain ⟨t',rfl⟩:=ry;cases x with
  | aN=>cases rx;exact SeqAt.EqAt.str_none a t'
  | bl b=>cases rx;exact SeqAt.EqAt.str_bool a t' b
  | int b=>obtain ⟨t,rfl⟩:=rx;exact SeqAt.EqAt.str_int a t' b t
  | str b=>obtain ⟨t,rfl⟩:=rx;exact SeqAt.EqAt.str_str a t' b t
  | _=>exact absurd (show false=true from fx) cK
 | _=>exact absurd (show false=true from fy) cK
def fT(x:V)(u:Value):Bool:=match u with
 | .none=>iI .aN x
 | .bool b=>iI (.bl b) x
 | .int i _=>iI (.int i) x
 | .str z _=>iI (.str z) x
 | _=>false
theorem Ea(r:RelV y u)(f:jl y=true):fT x u=iI y x:=by
 cases y with
 | aN=>cases r;rfl
 | bl b=>cases r;rfl
 | int i=>obtain ⟨t,rfl⟩:=r;rfl
 | str z=>obtain ⟨t,rfl⟩:=r;rfl
 | _=>exact absurd (show false=true from f) cK
theorem ux{x:V}:∀{xs:List V} {us:List Value},Vals xs us→xs.all jl=true→us.any (fT x)=xs.any fun y=>iI y x
 | _,_,.nil,_=>rfl
 | y::xs,u::us,.cons r t,f=>by rw [List.all_cons,iu] at f;rw [tL,tL,Ea r f.1,ux t f.2]
theorem uy{A:Around}{s:Shared}{x:V}{v:Value}(rx:RelV x v)(fx:jl x=true):∀{xs:List V} {us:List Value},Vals xs us→xs.all jl=true→∀u∈us,SeqAt.EqAt A s u v (fT x u)
 | _,_,.nil,_=>fun u hu=>by cases hu
 | y::xs,u::us,.cons r t,f=>fun u' hu=>by
  rw [List.all_cons,iu] at f;rcases b3.mp hu with rfl | hu;·rw [Ea r f.1];exact D_ r rx f.1 fx
  ·exact uy rx fx t f.2 u' hu
def kL(x:V)(xs:List V):Bool:=xs.any fun y=>iI y x
def Ak(K:aC)(neg:Bool):R2:=fun x y H Q=>∃p xs,y=.ref p∧(bC K H p xs∨dt K H p xs)∧jl x=true∧xs.all jl=true∧Q (.bl (if neg then !kL x xs else kL x xs)) H
theorem K8:cG X (compareOp .In) (Ak X.K false):=by
 intro pins s σ H x y v u Q I rx ry h;obtain ⟨p,xs,rfl,hq,fx,fs,q⟩:=h;cases ry;rcases hq with hq | hq
 ·obtain ⟨ah,r,pl,hz⟩:=I.list hq
  refine SeqAt.in_listAt (fT x) pl.isList (fun w hw=>uy rx fx r fs w (by simpa using hw)) ⟨.bl _,H,I,rfl,?_⟩
  rw [show ah.toArray.any (fT x)=ah.any (fT x) by simp,ux r fs]
  exact q
 ·obtain ⟨ah,r,pl,hz⟩:=I.tuple hq
  refine SeqAt.in_tupleAt (fT x) pl (fun w hw=>uy rx fx r fs w (by simpa using hw)) ⟨.bl _,H,I,rfl,?_⟩
  rw [show ah.toArray.any (fT x)=ah.any (fT x) by simp,ux r fs]
  exact q
theorem K9:cG X (compareOp .NotIn) (Ak X.K true):=by
 intro pins s σ H x y v u Q I rx ry h;obtain ⟨p,xs,rfl,hq,fx,fs,q⟩:=h;cases ry;rcases hq with hq | hq
 ·obtain ⟨ah,r,pl,hz⟩:=I.list hq
  refine SeqAt.notIn_listAt (fT x) pl.isList (fun w hw=>uy rx fx r fs w (by simpa using hw)) ⟨.bl _,H,I,rfl,?_⟩
  rw [show ah.toArray.any (fT x)=ah.any (fT x) by simp,ux r fs]
  exact q
 ·obtain ⟨ah,r,pl,hz⟩:=I.tuple hq
  refine SeqAt.notIn_tupleAt (fT x) pl (fun w hw=>uy rx fx r fs w (by simpa using hw)) ⟨.bl _,H,I,rfl,?_⟩
  rw [show ah.toArray.any (fT x)=ah.any (fT x) by simp,ux r fs]
  exact q
theorem jm:eC X (.builtin "len") (fun xs H Q=>∃p ys,xs=[.ref p]∧(bC X.K H p ys∨dt X.K H p ys)∧Q (.int ys.length) H):=by
 intro pins s σ H xs us Q I r h;obtain ⟨p,ys,rfl,hq,q⟩:=h;obtain ⟨u,rfl,rx⟩:=vals1 r;cases rx;have hn:=wN;rcases hq with hq | hq
 ·obtain ⟨ah,r',pl,hz⟩:=I.list hq
  have hlen:=r'.length;exact Calls.call_len_list pl.isList (by simp only [bP] <;> omega) ⟨.int ys.length,H,I.tok _,⟨s.toks+1,by rw [bP,hlen]⟩,q⟩
 ·obtain ⟨ah,r',pl,hz⟩:=I.tuple hq
  have hlen:=r'.length;exact len_tuple pl (by simp only [bP] <;> omega) ⟨.int ys.length,H,I.tok _,⟨s.toks+1,by rw [bP,hlen]⟩,q⟩
theorem K_:eC X (.type "list") (fun xs H Q=>∃p ys,xs=[.ref p]∧(bC X.K H p ys∨dt X.K H p ys)∧∀l,H l=none→Q (.ref l) (upd H l (.lst ys))):=by
 intro pins s σ H xs us Q I r h;obtain ⟨p,ys,rfl,hq,q⟩:=h;obtain ⟨u,rfl,rx⟩:=vals1 r;cases rx
 have fin:∀(ah:List Value),Vals ys ah→ys.length≤sizeLine→∀(h':Heap) (c':Nat),(∀b o',s.heap.get? b=some o'→h'.get? b=some o')→
   h'.get? s.heap.objs.size=some {cls:=.type "list",dict:=none,data:=.seq ah.toArray c',slots:=#[]}→EP X pins σ Q (.ref s.heap.objs.size) {s with heap:=h'}:=fun ah r' hz h' c' kp e=>
  ⟨.ref s.heap.objs.size,_,I.laid (t':=s.toks) kp (aw _) (show bX X.prog X.w _ h' _ (.lst ys) from ⟨hz,ah,c',r',e⟩),rfl,q _ (I.au.fresh (aw _))⟩
 rcases hq with hq | hq
 ·obtain ⟨ah,r',pl,hz⟩:=I.list hq
  have hlen:=r'.length;obtain ⟨o,ho,hc,n,hd⟩:=pl.isList;exact call_list_seq p (.inl rfl) ho hc hd (fun h' c' kp e=>fin ah r' hz h' c' kp e) (by simp only [bP] <;> omega)
 ·obtain ⟨ah,r',pl,hz⟩:=I.tuple hq
  have hlen:=r'.length;obtain ⟨o,ho,hc,n,hd⟩:=pl;exact call_list_seq p (.inr rfl) ho hc hd (fun h' c' kp e=>fin ah r' hz h' c' kp e) (by simp only [bP] <;> omega)
theorem Eb:eC X (.type "tuple") (fun xs H Q=>∃p ys,xs=[.ref p]∧((bC X.K H p ys∧∀l,H l=none→Q (.ref l) (upd H l (.tup ys)))∨(dt X.K H p ys∧Q (.ref p) H))):=by
 intro pins s σ H xs us Q I r h;obtain ⟨p,ys,rfl,h⟩:=h;obtain ⟨u,rfl,rx⟩:=vals1 r;cases rx;rcases h with ⟨hq,q⟩ | ⟨hq,q⟩
 ·obtain ⟨ah,r',pl,hz⟩:=I.list hq
  have hlen:=r'.length;refine call_tuple_list pl.isList (fun h' kp=>?_) (by simp only [bP] <;> omega)
  have I1:Inv X pins σ H {s with heap:=h'}:=I.kept (t':=s.toks) kp;have I2:Inv X pins σ (upd H h'.objs.size (.tup ys)) {s with heap:=h'.push {cls:=.type "tuple",data:=.seq ah.toArray}}:=
   I1.laid (t':=s.toks) (fun b o e=>bW _ e) (aw _) (show bX X.prog X.w _ _ _ (.tup ys) from ⟨hz,ah,r',IsTup.new _ _⟩)
  exact ⟨.ref h'.objs.size,_,I2,rfl,q _ (I1.au.fresh (aw _))⟩
 ·obtain ⟨ah,r',pl,hz⟩:=I.tuple hq
  exact call_tuple_same pl ⟨.ref p,H,I,rfl,q⟩
def Al(K:aC)(T:String)(x:V)(H:Hp):Prop:=match x with
 | .str _=>T="str"
 | .int _=>T="int"
 | .ref p=>(T="list"∧∃xs,bC K H p xs)∨(T="tuple"∧∃o,K.lookup p=some o∧o.cls=.type "tuple"∧o.dict=none) ∨
   (T="dict"∧((∃kvs,H p=some (.dK kvs))∨∃kvs,H p=some (.dT kvs)))∨(T="set"∧∃S n,H p=some (.set S n))
 | _=>False
theorem Ec{T:String}{v:Value}(I:Inv X pins σ H s)(r:RelV x v)(ty:Al X.K T x H) :
  s.TypeIs v T∧∀a,v=.ref a→∃ob,s.heap.get? a=some ob∧ob.dict=none:=by
 cases x with
 | str z=>obtain ⟨t,rfl⟩:=r;cases (show T="str" from ty);exact ⟨typeIs_str s z t,fun _ e=>nomatch e⟩
 | int i=>obtain ⟨t,rfl⟩:=r;cases (show T="int" from ty);exact ⟨typeIs_int s i t,fun _ e=>nomatch e⟩
 | ref p=>
  cases r;rcases ty with ⟨rfl,xs,hq⟩ | ⟨rfl,o,hk,hc,hd⟩ | ⟨rfl,hk⟩ | ⟨rfl,S,n,hk⟩
  ·obtain ⟨ah,_,pl,_⟩:=I.list hq
   refine ⟨pl.isList.typeIs,fun a e=>?_⟩;cases e;obtain ⟨o,n,e,c,hd,_⟩:=pl;exact ⟨o,e,hd⟩
  ·refine ⟨⟨o,I.en p o hk,hc⟩,fun a e=>?_⟩
   cases e;exact ⟨o,I.en _ o hk,hd⟩
  ·have z:∃o,s.heap.get? p=some o∧o.ExactDict:=by
    rcases hk with ⟨kvs,hk⟩ | ⟨kvs,hk⟩
    ·obtain ⟨_,_,_,_,o,_,_,e,ex,_⟩:=I.au p _ hk
     exact ⟨o,e,ex⟩
    ·obtain ⟨_,_,_,_,o,_,_,e,ex,_⟩:=I.au p _ hk
     exact ⟨o,e,ex⟩
   obtain ⟨o,e,ex⟩:=z;refine ⟨⟨o,e,ex.1⟩,fun a e2=>?_⟩;cases e2;exact ⟨o,e,ex.2.1⟩
  ·obtain ⟨o,_,_,_,e,ex,_⟩:=I.au p _ hk
   refine ⟨⟨o,e,ex.1⟩,fun a e2=>?_⟩;cases e2;exact ⟨o,e,ex.2.1⟩
 | _=>exact False.elim ty
def La(K:aC)(T:String)(r:V→List V→Hp→VK→Prop)(to:TE):TE:=fun σ H Q=>to σ H fun x H1=>Al K T x H1∧r x [] H1 Q
def Lb(K:aC)(T:String)(r:V→List V→Hp→VK→Prop)(to:TE)(t:TA):TE:=fun σ H Q=>to σ H fun x H1=>Al K T x H1∧t σ H1 fun xs H2=>r x xs H2 Q
variable {o e:Expr} {es:List Expr} {to:TE} {t:TA} {name:Str} {apos fU:Pos} {T id:String} {r:V→List V→Hp→VK→Prop}
theorem Lc(pa:PlainAttrs T)(slot:Slot T name id)(Am:typeOf (.builtin id)=pure (.type "method_descriptor"))(hm:D8 X id r)(ho:PE X o to)
  (An:attributeBase o name X.env (eval o X.env)=eval o X.env:=by rfl) (Ao:(apos.endLine == fU.line)=true:=by rfl):PE X (.Call (.Attribute o name apos) [] [] fU) (La X.K T r to):=by
 intro pins s σ H Q I h;refine wpAny_Call_method0_late An Ao (aF (ho pins s σ H _ I h) fun v s1 ⟨x,H1,I1,r1,ty,q1⟩=>?_);obtain ⟨h1,h2⟩:=Ec I1 r1 ty;exact ⟨T,id,pa,slot,Am,h1,h2,Calls.callWith_builtin rfl (PySem.evalArgs_none (hm pins s1 σ H1 x [] v [] Q I1 r1 .nil q1))⟩
theorem kM(pa:PlainAttrs T)(slot:Slot T name id)(Am:typeOf (.builtin id)=pure (.type "method_descriptor"))(hm:D8 X id r)(ho:PE X o to)(ha:PA X (e::es) t)
  (An:attributeBase o name X.env (eval o X.env)=eval o X.env:=by rfl)
  (Ld:((backTo fU (starEach (e::es) X.env)).all (fun x=>!x.1) && (backToKw fU (keywordEach [] X.env)).all (fun x=>x.1.isSome)
   && decide ((e::es).length+([]:List Keyword).length+(if ([]:List Keyword).isEmpty then 0 else 1)<30))=true:=by rfl)
  (Ao:(apos.endLine == fU.line)=true:=by rfl) (hs:starEach (e::es) X.env=(false,eval e X.env)::starEach es X.env:=by rfl) (Le:(backTo fU (starEach es X.env)).any (·.1)=false:=by rfl) :
  PE X (.Call (.Attribute o name apos) (e::es) [] fU) (Lb X.K T r to t):=by
 intro pins s σ H Q I h;refine wpAny_Call_method_late An Ld Ao rfl (aF (ho pins s σ H _ I h) fun v s1 ⟨x,H1,I1,r1,ty,q1⟩=>?_);obtain ⟨h1,h2⟩:=Ec I1 r1 ty;refine ⟨T,id,pa,slot,Am,h1,h2,?_⟩;have hA:=ha fU pins s1 σ H1 _ I1 q1;rw [hs] at hA ⊢;refine Calls.callWith_builtin (by show (false || (backTo fU (starEach es X.env)).any (·.1))=false;rw [Le] <;> rfl) (Calls.evalArgs_plain ?_)
 exact aF hA fun us s2 ⟨vs,H2,I2,r2,q2⟩=>hm pins s2 σ H2 x vs v us Q I2 r1 r2 q2
end
def wX(X:Cx)(id:String)(r:V→List V→Hp→VK→Prop):Prop:=
 ∀(pins:aP) (s:Shared) (σ:St) (H:Hp) (x:V) (xs:List V) (v:Value) (us:List Value) (Q:VK),Inv X pins σ H s→RelV x v→Vals xs us→r x xs H Q→
  wpAny (model X.prog X.w) X.A (call (.builtin id) (v::us)) (EP X pins σ Q) X.xe s
theorem Vals.one:∀{x:V} {us:List Value},Vals [x] us→∃u,us=[u]∧RelV x u
 | _,_,.cons r .nil=>⟨_,rfl,r⟩
theorem Vals.zero:∀{us:List Value},Vals [] us→us=[]
 | _,.nil=>rfl
theorem Vals.dropLast{xs:List V}{us:List Value}(h:Vals xs us):Vals xs.dropLast us.dropLast:=by
 induction h with
 | nil=>exact .nil
 | cons r t ih=>
  cases t with
  | nil=>exact .nil
  | cons q t'=>exact .cons r ih
theorem Vals.eraseIdx:∀{xs:List V} {us:List Value} (i:Nat),Vals xs us→Vals (xs.eraseIdx i) (us.eraseIdx i)
 | _,_,_,.nil=>.nil
 | _,_,0,.cons _ t=>t
 | _,_,i+1,.cons r t=>.cons r (Vals.eraseIdx i t)
theorem Vals.rep{xs:List V}{us:List Value}(h:Vals xs us):∀k:Nat,Vals (List.replicate k xs).flatten (List.replicate k us).flatten
 | 0=>.nil
 | k+1=>by rw [qt,qt,tM,tM];exact Vals.append h (Vals.rep h k)
variable {α:Type}
theorem Lf(l:List α):l.eraseIdx (l.length-1)=l.dropLast:=by
 induction l with
 | nil=>rfl
 | cons a r ih=>
  cases r with
  | nil=>rfl
  | cons b r=>
   have e:(a::b::r).length-1=((b::r).length-1)+1:=by have h1:(a::b::r).length=r.length+2:=rfl;have h2:(b::r).length=r.length+1:=rfl;omega
   rw [e,List.eraseIdx_cons_succ,ih]
   all_goals rfl
theorem Ed{α:Type}:∀(l:List α) (i:Nat),(l.eraseIdx i).length≤l.length
 | [],_=>aw _
 | _::_,0=>lR _
 | _::r,i+1=>Nat.succ_le_succ (Ed r i)
theorem foldl_rep(ah:List Value):∀(k:Nat) (acc:List Value),
  List.foldl (fun x1 x2=>x1++x2) acc.toArray (List.replicate k ah.toArray)=(acc++(List.replicate k ah).flatten).toArray
 | 0,acc=>by simp
 | k+1,acc=>by
  have e:acc.toArray++ah.toArray=(acc++ah).toArray:=by simp
  have e2:(acc++ah)++(List.replicate k ah).flatten=acc++(List.replicate (k+1) ah).flatten:=by rw [qt,tM,fP]
  rw [←e2,←foldl_rep ah k (acc++ah),←e,qt,List.foldl_cons]
section
variable {X:Cx} {pins:aP} {σ:St} {H:Hp} {s:Shared} {l b:Addr} {xs ys zs:List V}
variable {ah:List Value} {n t':Nat}
theorem Inv.wY{its':List Value}{f:Array Value→Array Value}(I:Inv X pins σ H s)(hH:H l=some (.lst xs))
  (e:s.heap.get? l=some {cls:=.type "list",data:=.seq ah.toArray n}) (hf:f ah.toArray=its'.toArray) (hv:Vals ys its') (hz:ys.length≤sizeLine) :
  Inv X pins σ (upd H l (.lst ys)) {s with heap:=s.heap.update l (Obj.mapSeq f),toks:=t'}:=by
 have q:=PySem.IsL.update e f;rw [hf] at q;refine I.write (x:=l) (e:=l) (by rw [hH];exact trivial) (.inl rfl) (fun b' u hb hu=>(Heap.get?_update_other s.heap (Obj.mapSeq f) (Ne.symm hb)).trans hu) ⟨_,q⟩ ?_
 exact ⟨hz,its',_,hv,q⟩
theorem Inv.Ee(I:Inv X pins σ H s)(hv:Vals ys ah)(hz:ys.length≤sizeLine) :
  Inv X pins σ (upd H s.heap.objs.size (.lst ys)) {s with heap:=s.heap.push {cls:=.type "list",data:=.seq ah.toArray},toks:=t'}:=
 I.laid (fun _ _ q=>bW _ q) (aw _) ⟨hz,ah,0,hv,dE _ rfl⟩
theorem Inv.fresh(I:Inv X pins σ H s):H s.heap.objs.size=none:=I.au.fresh (aw _)
theorem Inv.mJ(I:Inv X pins σ H s)(hH:H l=some (.lst xs)):xs.length≤sizeLine∧∃(ah:List Value) (n:Nat),Vals xs ah∧xs.length=ah.length∧s.heap.get? l=some {cls:=.type "list",data:=.seq ah.toArray n}:=by obtain ⟨z,ah,n,r,e⟩:=I.au l _ hH;exact ⟨z,ah,n,r,r.length,e⟩
theorem Ef(h:n≤sizeLine):Builtin.List.listTooLong n=false:=by unfold Builtin.List.listTooLong;exact bV (by omega)
end
section
variable {X:Cx}
def Lg:V→List V→Hp→VK→Prop:=fun x vs H Q=>∃l xs y,x=.ref l∧vs=[y]∧H l=some (.lst xs)∧xs.length<sizeLine∧Q .aN (upd H l (.lst (xs++[y])))
theorem iJ:wX X "list.append" Lg:=by
 intro pins s σ H x vs v us Q I rx rv h;obtain ⟨l,xs,y,rfl,rfl,hH,hz,q⟩:=h;cases rx;obtain ⟨u,rfl,ru⟩:=rv.one;obtain ⟨z,ah,n,r,hl,e⟩:=I.mJ hH;refine call_meets F.slot_list_append ⟨_,e,rfl⟩ F.entry_list_append (F.args_list_append_2 _ _) (PySem.list_append l ah.toArray n u (by rw [bP];omega)) ⟨e,?_⟩
 refine ⟨.aN,_,I.wY (its':=ah++[u]) hH e (by simp) (r.append (.cons ru .nil)) ?_,rfl,q⟩
 rw [dh,kB];omega
def Lh:V→List V→Hp→VK→Prop:=fun x vs H Q=>∃l b xs zs,x=.ref l∧vs=[.ref b]∧H l=some (.lst xs)∧H b=some (.lst zs)∧xs.length+zs.length≤sizeLine∧Q .aN (upd H l (.lst (xs++zs)))
theorem TK:wX X "list.extend" Lh:=by
 intro pins s σ H x vs v us Q I rx rv h;obtain ⟨l,b,xs,zs,rfl,rfl,hH,hB,hz,q⟩:=h;cases rx;obtain ⟨u,rfl,ru⟩:=rv.one;cases ru;obtain ⟨z,ah,n,r,hl,e⟩:=I.mJ hH;obtain ⟨z2,gB,n2,r2,Li,e2⟩:=I.mJ hB;have hsz:ah.toArray.size+gB.toArray.size≤sizeLine:=by rw [bP,bP];omega
 have Ap:¬(!ah.toArray.isEmpty && Builtin.List.listTooLong (ah.toArray.size+gB.toArray.size))=true:=by rw [Ef hsz,Bool.and_false];exact cK
 refine call_meets F.slot_list_extend ⟨_,e,rfl⟩ F.entry_list_extend (F.args_list_extend_2 _ _)
  (AutoSeq1.list_extend_list_list_0 l ah.toArray n b gB.toArray n2 Ap (by rw [bP];omega) (by omega)) ⟨e,e2,?_⟩
 refine ⟨.aN,_,I.wY (its':=ah++gB) hH e (by simp) (r.append r2) ?_,rfl,q⟩
 rw [dh];omega
def Lj:V→List V→Hp→VK→Prop:=fun x vs H Q=>∃l xs y,x=.ref l∧vs=[]∧H l=some (.lst xs)∧xs[xs.length-1]?=some y∧Q y (upd H l (.lst xs.dropLast))
theorem Ll:wX X "list.pop" Lj:=by
 intro pins s σ H x vs v us Q I rx rv h;obtain ⟨l,xs,y,rfl,rfl,hH,hy,q⟩:=h;cases rx;have n5:=rv.zero;subst n5;obtain ⟨z,ah,n,r,hl,e⟩:=I.mJ hH;obtain ⟨u,hu,ru⟩:=r.get hy;have Lm:ah.toArray[ah.toArray.size-1]?=some u:=by show ah.toArray[ah.length-1]?=some u;rw [←zH,←hl];exact hu
 refine call_meets F.slot_list_pop ⟨_,e,rfl⟩ F.entry_list_pop (F.args_list_pop_1 _) (MeetsSeq.list_pop_last l ah.toArray n u Lm (by rw [bP];omega)) ⟨e,?_⟩
 refine ⟨y,_,I.wY (its':=ah.dropLast) hH e ?_ r.dropLast ?_,ru,q⟩
 ·show ah.toArray.eraseIdxIfInBounds (ah.toArray.size-1)=ah.dropLast.toArray
  rw [bP,List.eraseIdxIfInBounds_toArray,Lf]
 ·rw [List.length_dropLast]
  omega
def Ln:V→List V→Hp→VK→Prop:=fun x vs H Q=>∃l xs i k y,x=.ref l∧vs=[.int i]∧H l=some (.lst xs)∧-(2 ^ 63)≤i∧i<2 ^ 63∧seqIndex? i xs.length=some k∧xs[k]?=some y∧Q y (upd H l (.lst (xs.eraseIdx k)))
theorem Lo:wX X "list.pop" Ln:=by
 intro pins s σ H x vs v us Q I rx rv h;obtain ⟨l,xs,i,k,y,rfl,rfl,hH,h1,h2,hk,hy,q⟩:=h;cases rx;obtain ⟨u,rfl,ru⟩:=rv.one;obtain ⟨t,rfl⟩:=ru;obtain ⟨z,ah,n,r,hl,e⟩:=I.mJ hH;obtain ⟨w,hw,gW⟩:=r.get hy
 refine call_meets F.slot_list_pop ⟨_,e,rfl⟩ F.entry_list_pop (F.args_list_pop_2 _ _)
  (MeetsSeq.list_pop_at l ah.toArray n i t k w (fitsIndex_both h1 h2) (by rw [bP,←hl];exact hk) (by rw [←zH];exact hw) (by rw [bP];omega)) ⟨e,?_⟩
 refine ⟨y,_,I.wY (its':=ah.eraseIdx k) hH e ?_ (r.eraseIdx k) ?_,gW,q⟩
 ·show ah.toArray.eraseIdxIfInBounds k=(ah.eraseIdx k).toArray
  rw [List.eraseIdxIfInBounds_toArray]
 ·have:=Ed xs k
  omega
def Lp:R2:=fun x y H Q=>∃l b xs zs,x=.ref l∧y=.ref b∧H l=some (.lst xs)∧H b=some (.lst zs)∧xs.length+zs.length≤sizeLine∧∀p,H p=none→Q (.ref p) (upd H p (.lst (xs++zs)))
theorem uz:cG X (binaryOp .Add) Lp:=by
 intro pins s σ H x y v u Q I rx ry h;obtain ⟨l,b,xs,zs,rfl,rfl,hH,hB,hz,q⟩:=h;cases rx;cases ry;obtain ⟨z,ah,n,r,hl,e⟩:=I.mJ hH;obtain ⟨z2,gB,n2,r2,Li,e2⟩:=I.mJ hB;refine PySem.P.add_list e e2 ?_ (by rw [bP,bP];omega)
 have ea:ah.toArray++gB.toArray=(ah++gB).toArray:=by simp
 rw [ea];exact ⟨.ref _,_,I.Ee (t':=s.toks) (r.append r2) (by rw [dh];omega),rfl,q _ I.fresh⟩
def Lq:R2:=fun x y H Q=>∃l k xs,x=.ref l∧y=.int k∧H l=some (.lst xs)∧-(2 ^ 63)≤k∧k<2 ^ 63∧xs.length*k.toNat≤sizeLine ∧
 ∀p,H p=none→Q (.ref p) (upd H p (.lst (List.replicate k.toNat xs).flatten))
theorem len_rep(xs:List α)(k:Nat):(List.replicate k xs).flatten.length=k*xs.length:=by
 induction k with
 | zero=>simp
 | succ k ih=>rw [qt,tM,dh,ih,Nat.succ_mul,Nat.add_comm]
theorem Lr:cG X (binaryOp .Mult) Lq:=by
 intro pins s σ H x y v u Q I rx ry h;obtain ⟨l,k,xs,rfl,rfl,hH,h1,h2,hz,q⟩:=h;cases rx;obtain ⟨t,rfl⟩:=ry;obtain ⟨z,ah,n,r,hl,e⟩:=I.mJ hH;have hlen:ah.toArray.size*k.toNat≤sizeLine:=by rw [bP,←hl];exact hz
 have Ls:¬ah.toArray.size*k.toNat>(2 ^ 63-1) / 8:=by
  have:(sizeLine:Nat)≤(2 ^ 63-1) / 8:=by decide
  omega
 have Lu:¬(!Builtin.List.listFitsIndex k)=true:=by rw [fitsIndex_both h1 h2];exact cK
 have Ap:¬Builtin.List.listTooLong (ah.toArray.size*k.toNat)=true:=by rw [Ef hlen];exact cK
 have Lv:List.foldl (fun x1 x2=>x1++x2) #[] (List.replicate (if ah.toArray.isEmpty=true then 0 else k.toNat) ah.toArray)=(List.replicate k.toNat ah).flatten.toArray:=by
  have f0:∀m:Nat,List.foldl (fun x1 x2=>x1++x2) #[] (List.replicate m ah.toArray)=(List.replicate m ah).flatten.toArray:=fun m=>by have:=foldl_rep ah m [];rw [List.nil_append] at this;exact this
  rw [f0];cases ah with
  | nil=>simp
  | cons a r'=>rw [aa (by simp)]
 refine wpAny_binaryOp_repeat_ref (T:="list") (U:="int") (by decide) ⟨_,e,rfl⟩ (fun s'=>typeIs_int s' k t) noFill_list_mul F.fills_int_mul F.slot_int_rmul repeat_list F.slot_int_index.lookup
  (call_meets F.slot_int_rmul (typeIs_int s k t) F.entry_int_rmul (F.args_int_rmul_2 _ _) (int___rmul___int_list k t l ah.toArray n)
   ⟨e,rfl,⟨_,e,rfl⟩,call_meets F.slot_list_mul ⟨_,e,rfl⟩ F.entry_list_mul (F.args_list_mul_2 _ _) (AutoListH.list___mul___list_int_3 l ah.toArray n k t Lu Ls Ap) ⟨e,?_⟩⟩)
 rw [Lv];exact ⟨.ref _,_,I.Ee (t':=s.toks) (r.rep k.toNat) (by rw [len_rep,Nat.mul_comm];exact hz),rfl,q _ I.fresh⟩
end
section
variable {prog:Program} {w:World} {A:Around} {E:aE} {s:Shared}
end
section
variable {X:Cx}
end
end L2
namespace wZ
open PySem PySem.W PySem.Calls PyProof.Rows
variable {P:Params} {h:Heap}
theorem Lw:∀(ns:List Int) (vs:List Value),WellAll P h vs (ns.map WData.int)→IntsAre vs ns:=by
 intro ns
 induction ns with
 | nil=>intro vs w;rw [qr] at w;cases w;exact .nil
 | cons n ns ih=>
  intro vs w;rw [bM] at w;cases w with
  | cons a b=>cases a;exact .cons _ _ (ih _ b)
variable {l:OpenLaw} {n:Nat}
theorem Lx(hn:l.most=some n){args:List WData}{vals:List Value}
  (w5:l.row.toRowW.claim.pre args=true) (Aq:WellAll P h vals args) :
  ∃a vs ns,vals=[Value.ref a]∧args=[WData.list (ns.map WData.int)]∧h.get? a=some {cls:=.type "list",data:=.seq vs.toArray}∧IntsAre vs ns∧ns.length≤n:=by
 have Ly:WShape.hasAll [] args [.list .int]=true:=(pre_splitW w5).1;have hc:l.pre.holds [] {args:=args}=true:=(pre_splitW w5).2;obtain ⟨d,r,rfl,h1,h2⟩:=hasAllW_cons Ly;obtain rfl:=hasAllW_nil h2;obtain ⟨xs,rfl,h3⟩:=hasW_list h1;obtain ⟨ns,rfl⟩:=items_int h3;have hlen:ns.length≤n:=by
  unfold OpenLaw.pre at hc;have h4:(WTm.not (.lt (.lit (.int (n:Int))) (.len (.arg 0)))).holds [] {args:=[.list (ns.map .int)]}=true:=by have h4:=(holds_andW hc).1;rw [hn] at h4;exact h4
  have h5:=condW_of h4 (w_not (w_lt w_lit (w_len_list (w_arg rfl))));rw [aB] at h5;refine Nat.le_of_not_lt fun q=>?_;have q':(n:Int)<((ns.length:Nat):Int):=by omega
  first
   | (rw [cf q'] at h5;exact absurd h5 (by decide))
   | (simp at h5;omega)
 cases Aq with
 | cons w1 w2=>
  cases w2;cases w1 with
  | list ho Ar=>exact ⟨_,_,ns,rfl,rfl,ho,Lw ns _ Ar,hlen⟩
theorem Lz(l:OpenLaw)(args:List WData):l.row.toRowW.claim.post args (.bool true) args=true:=
 postW_of (r:=l.row.toRowW) (X:=(true == true))
  (show WShape.has [] (.bool true) .bool=true by first | rfl | decide | simp [WShape.has,WShape.arms,WShape.armsAll])
  (show (WTm.eq .res (.lit (.bool true))).value [] {args:=args,res:=some (.bool true),after:=args}=some (.bool (true == true)) from w_eq_bool (w_res rfl) w_lit) rfl
theorem LA{q:Program}{loose:List Str}{XP:(Str→Option Value)→Heap→Prop}{YP:World→Heap→Prop}{d:DefRec}
  (hn:l.most=some n) (uA:d.params.defaults=[])
  (call:∀(w:World) (s₀ s₁:Shared) (mg mb:cN) (fa:Addr) (o:Obj) (pm cd doc:Value) (a:Addr) (vs:List Value) (ns:List Int),
   Ground q loose [] XP w s₀ mg mb s₁.heap→YP w s₁.heap→
   s₁.heap.get? fa=some o→o.data=.func (docDef d.name d.params d.body d.scope pm cd doc)→s₁.heap.CodeRec cd d.name→mg d.name=some (.ref fa)→
   s₁.heap.get? a=some {cls:=.type "list",data:=.seq vs.toArray}→IntsAre vs ns→ns.length≤n→s₁.gens = #[]→
   codeAny (model l.prog w) callerA (.call (.ref fa) ⟨[.ref a],[]⟩) (fun r s'=>r=.ok (.ret (.bool true))∧OldK s₁.heap s'.heap∧s'.os=s₁.os∧AllBare s'.gens) s₁) :
  WalkO q loose XP YP l.row.toRowW d [] (fun f vs=>PySem.call f vs):=by
 intro w s₀ s₁ mg mb G Y fa o pm cd doc dV kV ho hd gz hD uB hg args vals as w5 T1 T2 Aq mK;obtain rfl:dV=.none:=Dflts.none hD uA;obtain rfl:kV=.none:=Dflts.noKw hD;obtain ⟨a,vs,ns,rfl,rfl,As,hints,hlen⟩:=Lx hn w5 Aq;refine enter_call (codeAny_mono (call w s₀ s₁ mg mb fa o pm cd doc a vs ns G Y ho (fd_plain hd) gz uB As hints hlen hg) fun r s' hq=>?_);obtain ⟨rfl,h2,h3,h4⟩:=hq;exact ⟨.inl ⟨.bool true,.bool true,[],rfl,fun _=>rfl,.bool true,Lz l _,fun _=>⟨List.Pairwise.nil,fun _ hm=>(nomatch hm)⟩⟩,h2,h3,h4⟩
section
variable {prog:Program} {w:World} {A:Around} {E:aE} {s:Shared} {K:Frag}
end
end wZ
namespace L2
open PySem PySem.Spec PyProof.Rows
theorem Eg:∀{vs:List Value} {ns:List Int},IntsAre vs ns→Vals (ns.map V.int) vs
 | _,_,.nil=>.nil
 | _,_,.cons n t h=>.cons ⟨t,rfl⟩ (Eg h)
def Au(H:Hp):Prop:=∀b,H b=none∨∃o xs,H b=some (.bx o (.lst xs))
variable {K:aC} {k:Nat} {a:Addr} {x:Str}
theorem LB{P:Program}{w:World}{mg mb:cN}{CX:fR}{fa:Addr}{fd:FuncData}{sp:Sp}{s₁:Shared}{vs:List Value}{ns:List Int}
  (KX:K.In s₁.heap) (Eh:s₁.heap.Ns mainGlobals mg) (hb:s₁.heap.Ns builtinsNs mb) (n6:∀x:Str,x ≠ "__name__"→mb x=bootBuiltins x) (LC:s₁.heap.NoLimit) (hg:s₁.gens = #[])
  (ha:s₁.heap.get? a=some {cls:=.type "list",data:=.seq vs.toArray}) (hi:IntsAre vs ns) (hl:ns.length≤sizeLine) (hr:dU k callerA)
  (F:∀base:Heap,K.In base→base.Ns mainGlobals mg→bZ P w K mg base CX k fa fd [x] sp) (LD:∀(s:Shared) (u:Value),BindsTo s fd ⟨[u],[]⟩ [(x,u)])
  (jW:∀H:Hp,Au H→bC K H a (ns.map V.int)→sp [.ref a] H (fun v _=>v=.bl true) fun _ _ _=>False)
  (Av:∀H e s',CX [] H s₁ (fun _ _ _=>False) e s'→False) :
  codeAny (model P w) callerA (.call (.ref fa) ⟨[.ref a],[]⟩) (fun r s'=>r=.ok (.ret (.bool true))∧OldK s₁.heap s'.heap∧s'.os=s₁.os∧AllBare s'.gens) s₁:=by
 have rv:=Eg hi;have LF:=hi.length
 have core:∀H:Hp,Au H→bC K H a (ns.map V.int)→bY P w H s₁.heap→(∀b,H b≠none→b=a)→(H a≠none→K.lookup a=none)→
   codeAny (model P w) callerA (.call (.ref fa) ⟨[.ref a],[]⟩) (fun r s'=>r=.ok (.ret (.bool true))∧OldK s₁.heap s'.heap∧s'.os=s₁.os∧AllBare s'.gens) s₁:=by
  intro H hO hS au hA hK;have Ei:∀{b:Addr} {o:Obj},s₁.heap.get? b=some o→H b=none→(kG s₁.heap H).get? b=some o:=fun e n=>Je e n;have uv:∀{b:Addr} {o:Obj} {es:Array DictEntry} {ep:Nat},s₁.heap.get? b=some o→o.data=.dict es ep→H b=none:=fun{b o es ep} e d=>by
   cases q:H b with
   | none=>rfl
   | some u=>
    have e':b=a:=hA b (by rw [q];simp)
    subst e';rw [ha] at e;cases e;have d':Data.seq vs.toArray _=Data.dict es ep:=d;cases d'
  have w6:∀{b:Addr} {m:cN},s₁.heap.Ns b m→(kG s₁.heap H).Ns b m:=fun{b m} ⟨o,es,ep,e,d,r⟩=>⟨o,es,ep,Ei e (uv e d),d,r⟩;have Ej:K.In (kG s₁.heap H):=fun b o e=>Ei (KX b o e) (by
   cases q:H b with
   | none=>rfl
   | some u=>
    have e':b=a:=hA b (by rw [q];simp)
    subst e';rw [hK (by rw [q];simp)] at e;cases e)
  have hM:Mod K mg (kG s₁.heap H):=⟨Ej,w6 Eh,⟨mb,w6 hb,n6⟩,let ⟨mc,h1,h2⟩:=LC;⟨mc,w6 h1,h2⟩⟩
  have e0:wQ P w K mg (kG s₁.heap H) callerA [] s₁ H:=⟨rfl,hM,fun b o e=>Jf e,Nat.le_of_eq (Jd _ _),trivial,fun b hb=>absurd (show b∈([]:List Addr) from hb) (by simp),au,.of_eq hg⟩
  refine codeAny_mono ((F _ Ej (w6 Eh)).run callerA [] s₁ H ⟨[.ref a],[]⟩ [.ref a] [.ref a] _ _ hr e0 (LD s₁ (.ref a)) (.cons rfl .nil) (jW H hO hS)) fun r s' h=>?_;cases r with
  | error e=>exact (Av H e s' h).elim
  | ok fl=>
   cases fl with
   | next=>exact False.elim h
   | brk=>exact False.elim h
   | cont=>exact False.elim h
   | ret u=>
    obtain ⟨v,H',os,bare,un,LG,r',q⟩:=h;have q':v=.bl true:=q;subst q';obtain rfl:u=Value.bool true:=r';refine ⟨rfl,OldK.of_keep fun b o e=>?_,os,bare⟩;cases q:H b with
    | none=>exact un.keep b o e q (by intro z;exact absurd (show b∈([]:List Addr) from z) (by simp)) (by simp)
    | some u=>
     rcases hO b with z | ⟨ob,xs,z⟩;·rw [q] at z;cases z
     ·have z2:=un.fc b ob _ z
      obtain ⟨e1,_⟩:=au b _ z;obtain ⟨e2,_⟩:=LG b _ z2;rw [e] at e1;cases e1;exact e2
 cases hk:K.lookup a with
 | some o=>have e:=KX a o hk;rw [ha] at e;cases e;refine core (fun _=>none) (fun _=>.inl rfl) (.inr ⟨_,vs.toArray,_,hk,rfl,rfl,rfl,by rw [bP,LF];exact hl,by simpa using rv⟩) (fun b u z=>by have z':(none:Option HO)=some u:=z;cases z') (fun b z=>absurd rfl z) fun z=>absurd rfl z
 | none=>
  refine core (fun b=>if b=a then some (.bx {cls:=.type "list",data:=.seq vs.toArray} (.lst (ns.map V.int))) else none) (fun b=>?_) (.inl (.inr ⟨{cls:=.type "list",data:=.seq vs.toArray},ae rfl⟩)) (fun b u z=>?_) (fun b z=>?_) fun _=>hk
  ·by_cases hb:b=a
   ·exact .inr ⟨_,_,ae hb⟩
   ·exact .inl (aa hb)
  ·by_cases hb:b=a
   ·have z':=(ae hb).symm.trans z
    cases z';subst hb;exact ⟨ha,by rw [aB];exact hl,vs,_,rv,ha⟩
   ·have z':=(aa hb).symm.trans z
    cases z'
  ·by_cases hb:b=a
   ·exact hb
   ·exact absurd (aa hb) z
abbrev Ek {K:aC} {h:Heap} (_:K.In h):PySem.W.Frag:=K
variable {n:Nat}
theorem LH{l:PySem.W.OpenLaw}{q:Program}{loose:List Str}{XP:(Str→Option Value)→Heap→Prop}{YP:World→Heap→Prop}{d:DefRec}{K:Params→PySem.W.Frag}{CX:World→fR}{sp:World→Sp}
  (hn:l.most=some n) (LI:n≤sizeLine) (uA:d.params.defaults=[]) (hr:dU k callerA)
  (hY:∀(w:World) (h:Heap),YP w h→(K w.params).In h)
  (F:∀(w:World) (mg:cN) (fa:Addr) (h:Heap),(K w.params).In h→h.Ns mainGlobals mg→mg d.name=some (.ref fa)→
   ∃fd:FuncData,(∀(s:Shared) (u:Value),BindsTo s fd ⟨[u],[]⟩ [(x,u)]) ∧
    ∀base:Heap,(K w.params).In base→base.Ns mainGlobals mg→bZ l.prog w (K w.params) mg base (CX w) k fa fd [x] (sp w))
  (jW:∀(w:World) (H:Hp) (a:Addr) (ns:List Int),ns.length≤n→Au H→bC (K w.params) H a (ns.map V.int)→sp w [.ref a] H (fun v _=>v=.bl true) fun _ _ _=>False)
  (Av:∀(w:World) (H:Hp) (s:Shared) (e:Value) (s':Shared),CX w [] H s (fun _ _ _=>False) e s'→False) :
  PySem.W.WalkO q loose XP YP l.row.toRowW d [] (fun f vs=>PySem.call f vs):=by
 refine wZ.LA hn uA fun w s₀ s₁ mg mb fa o pm cd doc a vs ns G Y ho hd gz uB As hints hlen hg=>?_;have KX:=hY w _ Y;obtain ⟨fd,hb,hF⟩:=F w mg fa _ KX G.T.g uB;exact LB KX G.T.g G.T.b G.T.builtins G.T.nolimit hg As hints (b5 hlen LI) hr hF hb (fun H hO hS=>jW w H a ns hlen hO hS) fun H e s'=>Av w H s₁ e s'
def uC(s:Stmt):Arguments:=match s with
 | .FunctionDef _ a _ _ _ _ _ _ _ _=>a
 | _=>{posonlyargs:=[],args:=[],vararg:=none,kwonlyargs:=[],kw_defaults:=[],kwarg:=none,defaults:=[]}
def kN(s:Stmt):List Stmt:=match s with
 | .FunctionDef _ _ b _ _ _ _ _ _ _=>b
 | _=>[]
def bI(s:Stmt):Scope:=match s with
 | .FunctionDef _ _ _ _ _ _ sc _ _ _=>sc
 | _=>{kind:=.function,names:=[],isGenerator:=false,isCoroutine:=false}
abbrev dw:fR:=fun _ _ _ _ _ _=>False
abbrev E0:XK:=fun _ _ _=>False
theorem b4{X:Cx}:Passes dw X E0:=fun _ _ _ _ _ _ _ h=>h.elim
structure gC (K:aC) (x qual:Str) (st:Stmt) (f:Addr) (fd:FuncData):Prop where
 ex:∃(oc:Value) (od:Option Addr) (kV doc pm:Value) (an:Option Addr) (bN ct:Value) (jV:Array (Option Value)),
  fd=PySem.W.fnOf x qual (uC st) (kN st) (bI st) .none kV doc pm an bN ct∧K.lookup f=some ⟨oc,od,.func fd,jV⟩∧PySem.W.codeIn K bN qual=true
 kp:PySem.W.keepIn K (.ref f)=true
abbrev bj (K:aC) (x:Str) (st:Stmt) (f:Addr) (fd:FuncData):Prop:=gC K x x st f fd
section
variable {P:Program} {w:World} {K:aC} {mg:cN} {base:Heap}
variable {qual:Str} {st:Stmt} {f:Addr} {fd:FuncData} {N ps:List Str} {sp:Sp}
theorem gC.ok(F:gC K x qual st f fd)(S:cq N ps (bI st))(len:∀vs H Q E,sp vs H Q E→vs.length=ps.length)
  (kK:∀(bN:Value) (A:Around) (outer:List Env) (s:Shared) (H:Hp) (vs:List V) (Q:VK) (E:XK),dU k (A.deeper (envOfC qual (bI st) s.heap.objs.size f bN))→sp vs H Q E→
   ∃t,eQ (jh dw P w K mg base N qual (bI st) f bN A outer s H E).nU (kN st) t∧t {nx:=fun _ H'=>Q .aN H',rt:=Q} (start N vs) H):bZ P w K mg base dw (k+1) f fd ps sp:=by
 obtain ⟨oc,od,kV,doc,pm,an,bN,ct,jV,rfl,lk,gz⟩:=F.ex;refine DW lk gz S len fun A outer s H vs Q E hr jW=>?_;obtain ⟨t,h,q⟩:=kK bN A outer s H vs Q E hr jW;exact ⟨t,h.nU,q⟩
theorem gC.fg(F:gC K x qual st f fd)(S:cq N ps (bI st))
  (kK:∀(bN:Value) (A:Around) (outer:List Env) (s:Shared) (H:Hp) (vs:List V) (Q:VK) (E:XK),dU k (A.deeper (envOfC qual (bI st) s.heap.objs.size f bN))→sp vs H Q E→
   ∃t,eQ (jh dw P w K mg base N qual (bI st) f bN A outer s H E).nU (kN st) t∧t {nx:=fun _ H'=>Q .aN H',rt:=Q} (start N vs) H)
  (len:∀vs H Q E,sp vs H Q E→vs.length=ps.length:=by intro vs H Q E h;repeat first | (obtain ⟨rfl,_⟩:=h;rfl) | (subst h;rfl) | obtain ⟨_,h⟩:=h):bZ P w K mg base dw (k+1) f fd ps sp:=F.ok S len kK
theorem gC.binds(F:gC K x qual st f fd)
  (h:∀(kV doc pm:Value) (an:Option Addr) (bN ct:Value) (us:List Value),us.length=ps.length→bindArgs (PySem.W.fnOf x qual (uC st) (kN st) (bI st) .none kV doc pm an bN ct) ⟨us,[]⟩=pure (ps.zip us)):Binds K fd ps []:=by
 obtain ⟨oc,od,kV,doc,pm,an,bN,ct,jV,rfl,lk,gz⟩:=F.ex;exact .all (h kV doc pm an bN ct)
theorem gC.dy(F:gC K x qual st f fd)
  (h:∀(kV doc pm:Value) (an:Option Addr) (bN ct:Value) (us:List Value),us.length=ps.length→bindArgs (PySem.W.fnOf x qual (uC st) (kN st) (bI st) .none kV doc pm an bN ct) ⟨us,[]⟩=pure (ps.zip us):=by intro _ _ _ _ _ _ us hl;rcases us with _ | ⟨_,_ | ⟨_,_ | ⟨_,_ | ⟨_,_ | ⟨_,_ | ⟨_,_ | ⟨_,_⟩⟩⟩⟩⟩⟩⟩ <;> first | rfl | (simp at hl;done)):Binds K fd ps []:=F.binds h
theorem dz{oc:Value}{od an:Option Addr}{jV:Array (Option Value)}{kV doc pm bN ct:Value}(l:K.lookup f=some ⟨oc,od,.func (PySem.W.fnOf x qual (uC st) (kN st) (bI st) .none kV doc pm an bN ct),jV⟩)
  (c:PySem.W.codeIn K bN qual=true) (k:PySem.W.keepIn K (.ref f)=true):gC K x qual st f (PySem.W.fnOf x qual (uC st) (kN st) (bI st) .none kV doc pm an bN ct):=⟨⟨oc,od,kV,doc,pm,an,bN,ct,jV,rfl,l,c⟩,k⟩
end
theorem cS(h:n≤1000):n<sizeLine:=jI h (by decide)
section
variable {X:Cx}
theorem pv(i:Nat){pos:Pos}(hN:X.N[i]?=some x:=by rfl)(hv:nR X.env.scope x:=by first | exact Or.inl rfl | exact Or.inr (Or.inl rfl) | exact Or.inr (Or.inr rfl))(hd:(x == ("__debug__":Str))=false:=by decide)
  (gz:(x == ("__classdict__":Str))=false:=by decide):PE X (.Name x pos) (Dn i):=Jo hN hv hd gz
end
variable {A B:Prop}
theorem mL(h:B):if false=true then A else B:=by rw [aa cK];exact h
theorem El(h:A):if true=true then A else B:=by rw [ae rfl];exact h
theorem gD{c:Prop}[Decidable c](h1:c→A)(h2:¬c→B):if c then A else B:=by
 by_cases h:c
 ·rw [ae h]
  exact h1 h
 ·rw [aa h]
  exact h2 h
def ai(H H':Hp):Prop:=∀b o,H b=some o→H' b=some o
theorem ai.refl(H:Hp):ai H H:=fun _ _ h=>h
variable {H:Hp}
theorem ai.trans{H1 H2:Hp}(a:ai H H1)(b:ai H1 H2):ai H H2:=fun c o h=>b c o (a c o h)
theorem ai.seq{H':Hp}{xs:List V}(e:ai H H')(h:bC K H a xs):bC K H' a xs:=by
 rcases h with (h | ⟨o,h⟩) | h;·exact .inl (.inl (e _ _ h))
 ·exact .inl (.inr ⟨o,e _ _ h⟩)
 ·exact .inr h
end L2
set_option maxHeartbeats 4000000
namespace L2
open PySem PySem.Spec PyProof.Rows
structure w9 (P:Program) (w:World) (outer:List Env) (H:Hp) (s:Shared) (H':Hp) (ea C:Addr) (B:Heap) (t:Addr) (s':Shared):Prop where
 os:s'.os=s.os
 bare:AllBare s'.gens
 fl:Heap.FlyingW B outer ea (.ref C) (.ref t) s'.heap
 au:bY P w H' B
 kb:∀b o,s.heap.get? b=some o→H b=none→b∉cj outer→B.get? b=some o
 tb:∀b o,s.heap.get? b=some o→b∉cj outer→∃o',B.get? b=some o'
 sl:∀b o,s.heap.get? b=some o→H b=none→b∈cj outer→∃l,s'.heap.get? b=some {o with slots:=l}
 U2:∀b∈cj outer,H b=none
 LJ:∀b o,s.heap.get? b=some o→H b=none→H' b=none
 fu:∀b xs,H b=some (.tup xs)→H' b=some (.tup xs)
 fc:∀b o u,H b=some (.bx o u)→H' b=some (.bx o u)
 fv:∀b ps,H b=some (.kF ps)→∃more,H' b=some (.kF (ps++more))
def eV(P:Program)(w:World):fR:=fun outer H s E e s'=>∃ea C H' B t,e=.ref ea∧w9 P w outer H s H' ea C B t s'∧E (.ref C) none H'
section
variable {P:Program} {w:World} {outer:List Env} {H H':Hp} {s s':Shared} {ea C t:Addr} {B:Heap}
def ExcAt(ea C:Addr)(h:Heap):Prop:=∃oe,h.get? ea=some oe∧oe.cls=.ref C∧PySem.W.notCls oe=true
def LK(ea C:Addr):HO:=.ext (ExcAt ea C)
end
section
variable {X:Cx} {pins:aP} {σ:St} {H H':Hp} {s s':Shared} {ea C t:Addr} {B:Heap}
structure qU (X:Cx) (E:XK):Prop where
 gT:X.stack=X.env::X.outer
 fr:X.env.frame=some X.env.locals
 ex:X.ex=[]
 xe:X.xe=fun e s'=>wpAny (model X.prog X.w) X.A (leaving X.env e) (fun _ eE=>eV X.prog X.w X.outer X.H₀ X.s₀ E e eE) (fun e' eE=>eV X.prog X.w X.outer X.H₀ X.s₀ E e' eE) s'
theorem w_{env:Env}{outer:List Env}{L:Addr}(h:env.frame=some L):cj (env::outer)=L::cj outer:=by unfold cj;rw [vX,h]
variable {E:XK}
theorem w9.leave(L:qU X E)(I:Inv X pins σ H s)(f:w9 X.prog X.w X.stack H s H' ea C B t s'){h:Heap}(x:Heap.FlyingW B X.outer ea (.ref C) (.ref t) h)(up:s'.heap.UpToSlots h):w9 X.prog X.w X.outer X.H₀ X.s₀ H' ea C B t {s' with heap:=h}:=by
 have nL:∀b o,X.s₀.heap.get? b=some o→b≠X.env.locals:=fun b o e=>bE (cT (aS e) I.ok.above);have ns:∀b o,X.s₀.heap.get? b=some o→b∉cj X.outer→b∉cj X.stack:=fun b o e nb z=>by
  rw [L.gT,w_ L.fr] at z;rcases b3.mp z with z | z;·exact nL b o e z
  ·exact nb z
 have nx:∀b:Addr,b∉X.ex:=fun b z=>by rw [L.ex] at z;cases z
 refine ⟨f.os.trans I.os,f.bare,x,f.au,fun b o e n nb=>?_,fun b o e nb=>?_,fun b o e n hb=>?_,I.ok.mh,fun b o e n=>?_,fun b xs e=>f.fu b xs (I.base.fu b xs e),fun b o u e=>f.fc b o u (I.base.fc b o u e),fun b ps e=>?_⟩;·exact f.kb b o (I.base.keep b o e n nb (nx b)) (I.base.free b o e n (nx b)) (ns b o e nb)
 ·obtain ⟨o',e'⟩:=I.base.there b o e (nx b)
  exact f.tb b o' e' (ns b o e nb)
 ·obtain ⟨l,q⟩:=I.base.slot b o e n hb (nx b)
  have hs:b∈cj X.stack:=by rw [L.gT,w_ L.fr];exact cB _ hb
  obtain ⟨l2,q2⟩:=f.sl b _ q (I.base.free b o e n (nx b)) hs;obtain ⟨_,o2,q3,nf⟩:=f.fl.2.2.1.mem hs;rw [q2] at q3;cases q3;obtain ⟨l3,q4⟩:=up b _ q2 nf;exact ⟨l3,q4⟩
 ·obtain ⟨o',e'⟩:=I.base.there b o e (nx b)
  exact f.LJ b o' e' (I.base.free b o e n (nx b))
 ·obtain ⟨m1,e1⟩:=I.base.fv b ps e
  obtain ⟨m2,e2⟩:=f.fv b _ e1;exact ⟨m1++m2,by rw [e2,Array.append_assoc]⟩
theorem kO:Passes (eV X.prog X.w) X (fun _ _ _=>False):=fun pins σ H s e s' I h=>by obtain ⟨_,_,_,_,_,_,_,q⟩:=h;exact q.elim
theorem n8(L:qU X E):Passes (eV X.prog X.w) X E:=fun pins σ H s e s' I h=>by
 obtain ⟨ea,C,H',B,t,rfl,f,q⟩:=h;rw [L.xe];refine wpAny_leaves_onW (by rw [I.ok.frames,L.gT]) L.fr (by have z:=f.fl;rw [L.gT] at z;exact z) fun h' x up=>?_
 exact ⟨ea,C,H',B,t,rfl,f.leave L I x up,q⟩
end
variable {K:aC} {h:Heap}
theorem LL{C:Addr}{qV:List Value}{newId:String}(cO:K.In h)(hq:PySem.W.excIn K C qV newId=true) :
  ∃bm N nm qn bs hdct sn sub ab col dd k0 k1 k2 k3 k5 mN,h.get? C=some (excClassObj nm qn C N bs bm hdct sn sub ab col dd k0 k1 k2 k3 k5 newId)∧h.Ns N mN∧mN "__init__"=none∧OwnTail h qV bm∧PySem.W.mroIn K C=fun b=>some ((Value.ref C::bm).contains b):=by
 unfold PySem.W.excIn at hq
 split at hq
 ·rename_i qW cls slt look
  split at hq
  ·rename_i CC rest a0 a1 a2 a3 nn a5 em es
   simp only [iu,beq_iff_eq,wa] at hq;obtain ⟨⟨⟨⟨⟨e1,e2⟩,e3⟩,e4⟩,e5⟩,e6⟩:=hq;subst e1 e2;have LM:PySem.W.mroIn K CC=fun b=>some ((Value.ref CC::rest).contains b):=by
    funext b
    unfold PySem.W.mroIn PySem.W.clsIn;rw [look];simp [em]
   obtain ⟨c1,c2,c3,c4,c5,c6,c7,c8,c9,LN,Vi⟩:=cls;dsimp only at em e3 e5 e6;subst em e3;have LO:slt = #[a0,a1,a2,a3,some (.builtin nn),a5]:=by obtain ⟨ll⟩:=slt;simp only at es;rw [es]
   subst LO;exact ⟨rest,c4,c1,c5,c2,c6,c7,c8,c9,LN,qW,a0,a1,a2,a3,a5,_,cO _ _ look,.of_isNs (PySem.W.isNs_of_in cO e5),PySem.W.nsMap_none_of_in cO e5 e6,PySem.W.tail_of_in cO e4,LM⟩
  ·cases hq
 ·cases hq
section
variable {X:Cx} {E:XK} {x:Str} {C:Addr} {np fU pos:Pos} {e:Expr} {es:List Expr} {ta:TA} {B newId LP:String} {qV:List Value}
def LQ(C:Addr)(E:XK)(ta:TA):TS:=fun _ σ H=>ta σ H fun vs H1=>vs.length≤sizeLine∧E (.ref C) none H1
theorem Em(L:qU X E)(hc:X.calm=true)(FB:ExcBaseFacts B newId LP qV)(hq:PySem.W.excIn X.K C qV newId=true)(hg:Gl X x)(hm:X.mg x=some (.ref C))(ha:PA X (e::es) ta)
  (hs:starEach (e::es) X.env=(false,eval e X.env)::starEach es X.env:=by rfl) (hp:(backTo fU (starEach es X.env)).any (·.1)=false:=by rfl) (hd:(x == ("__debug__":Str))=false:=by decide) :
  PS X (.Raise (some (.Call (.Name x np) (e::es) [] fU)) none pos) (LQ C E ta):=by
 intro pins s σ H D I h;obtain ⟨bm,N,nm,qn,bs,hdct,sn,sub,ab,col,dd,k0,k1,k2,k3,k5,mN,hC,hN,LR,T,_⟩:=LL I.ok.mod.cO hq
 refine wpAny_Raise_call_subT (C:=C) (nm:=nm) (q:=qn) (N:=N) (bs:=bs) (bm:=bm) (hdct:=hdct) (sn:=sn) (sub:=sub) (ab:=ab) (col:=col) (dd:=dd) (k0:=k0) (k1:=k1) (k2:=k2) (k3:=k3) (k5:=k5) FB (mN:=mN) (T.hasType FB.hasBase) (I.ok.hd hc)
  (by rw [hs];show (false || (backTo fU (starEach es X.env)).any (·.1))=false;rw [hp];rfl) LR (zX I hg hm ⟨rfl,?_⟩ hd)
 have h1:=ha fU pins s σ H _ I h;rw [hs] at h1 ⊢;refine Calls.evalArgs_plain (aF h1 fun us s2 ⟨vs,H1,I1,r,hl,q⟩=>⟨rfl,by rw [←r.length];exact hl,I1.bk _ _ hC,hN.keeps I1.bk,T.keeps I1.bk,fun h' ea mk=>?_⟩)
 rw [L.xe];have nL:∀b o,X.s₀.heap.get? b=some o→b≠X.env.locals:=fun b o q=>bE (cT (aS q) I1.ok.above);have ns:∀b o,X.s₀.heap.get? b=some o→b∉cj X.outer→b∉cj X.stack:=fun b o q nb z=>by
  rw [L.gT,w_ L.fr] at z;rcases b3.mp z with z | z;·exact nL b o q z
  ·exact nb z
 have nx:∀b:Addr,b∉X.ex:=fun b z=>by rw [L.ex] at z;cases z
 have ff:s2.heap.FunFrames (PySem.W.hideAll s2.heap (cj X.stack)) (X.env::X.outer):=by have z:=I1.stack;rw [←L.gT];exact PySem.W.funFrames_hide z fun env he a hf=>List.mem_filterMap.mpr ⟨env,he,hf⟩
 refine wpAny_leaves_madeW (base:=PySem.W.hideAll s2.heap (cj X.stack)) (h:=s2.heap) (by rw [I1.ok.frames,L.gT]) L.fr (fun b o q=>PySem.W.of_hideAll _ q) ff mk fun h2 t fl _ _ up=>?_
 refine ⟨ea,C,H1,_,t,rfl,⟨I1.os,I1.bare,fl,fun a o e1=>?_,fun b o e1 n nb=>?_,fun b o e1 nb=>?_,fun b o e1 n hb=>?_,I1.ok.mh,fun b o e1 n=>?_,I1.base.fu,I1.base.fc,I1.base.fv⟩,q⟩
 ·refine (I1.au a o e1).iB (fun b u hb e2=>vW _ e2 fun z=>?_) (fun _ z=>z) fun _ _ z=>z
  have n0:=I1.qO b z;rcases hb with hb | hb
  ·subst hb
   rw [e1] at n0;cases n0
  ·rw [hb] at n0
   cases n0
 ·exact vW _ (I1.base.keep b o e1 n nb (nx b)) (ns b o e1 nb)
 ·obtain ⟨o',e2⟩:=I1.base.there b o e1 (nx b)
  exact ⟨o',vW _ e2 (ns b o e1 nb)⟩
 ·obtain ⟨l,e2⟩:=I1.base.slot b o e1 n hb (nx b)
  have LS:b∈cj X.stack:=by rw [L.gT,w_ L.fr];exact cB _ hb
  obtain ⟨_,o2,e3,nf⟩:=I1.stack.mem LS;rw [e2] at e3;cases e3;obtain ⟨l2,e4⟩:=up b _ (mk.keeps _ _ e2) nf;exact ⟨l2,e4⟩
 ·obtain ⟨o',e2⟩:=I1.base.there b o e1 (nx b)
  exact I1.base.free b o e1 n (nx b)
end
section
variable {X:Cx} {k:Nat} {f C:Addr} {fd:FuncData} {ps:List Str} {sp:Sp} {jU:List V} {ds:List Value} {x m:Str} {p pos apos:Pos} {e o:Expr} {es:List Expr} {ta:TE} {t:TA}
variable {te:TX} {i:Nat} {pos':Pos}
end
section
variable {X:Cx} {pins:aP} {σ:St} {H:Hp} {s:Shared} {ea:Addr}
end
section
variable {M:Model} {A:Around} {E:aE} {h:Heap} {g:Array GenState} {d:Drawn} {t:Nat} {os:OsState} {e:Addr} {oe:Obj} {Q:Bool→Shared→Prop}
variable {nm q Vj q':Str} {C N D N':Addr} {bs bm Vk Vl:List Value} {hdct Vm:Bool} {sn Vn:List Str} {sub Vo:List Value} {ab Vp:Bool} {col Vq:Option Bool} {dd mM:Option Addr} {k0 k1 k2 k3 k5 j0 j1 j2 j3 j5:Option Value} {newId Vr:String}
end
section
variable {X:Cx} {body:List Stmt} {b₀:Stmt} {Vs:List Stmt} {np Vt pos:Pos} {x n:Str} {D:Addr} {tb:Vu} {ts:TS} {qV:List Value} {newId:String} {i:Nat}
end
section
variable {P:Program} {w:World} {K:aC} {mg:cN} {base:Heap}
variable {x qual:Str} {st:Stmt} {f:Addr} {fd:FuncData} {N ps:List Str} {k:Nat} {sp:Sp}
theorem gC.LU(F:gC K x qual st f fd)(S:cq N ps (bI st))(len:∀vs H Q E,sp vs H Q E→vs.length=ps.length)
  (kK:∀(bN:Value) (A:Around) (outer:List Env) (s:Shared) (H:Hp) (vs:List V) (Q:VK) (E:XK),dU k (A.deeper (envOfC qual (bI st) s.heap.objs.size f bN))→sp vs H Q E→
   qU (jh (eV P w) P w K mg base N qual (bI st) f bN A outer s H E) E→
   ∃t,eQ (jh (eV P w) P w K mg base N qual (bI st) f bN A outer s H E) (kN st) t∧t {nx:=fun _ H'=>Q .aN H',rt:=Q} (start N vs) H):bZ P w K mg base (eV P w) (k+1) f fd ps sp:=by
 obtain ⟨oc,od,kV,doc,pm,an,bN,ct,jV,rfl,lk,gz⟩:=F.ex;exact DW lk gz S len fun A outer s H vs Q E hr jW=>kK bN A outer s H vs Q E hr jW ⟨rfl,rfl,rfl,rfl⟩
theorem gC.dC(F:gC K x qual st f fd)(S:cq N ps (bI st))
  (kK:∀(bN:Value) (A:Around) (outer:List Env) (s:Shared) (H:Hp) (vs:List V) (Q:VK) (E:XK),dU k (A.deeper (envOfC qual (bI st) s.heap.objs.size f bN))→sp vs H Q E→
   qU (jh (eV P w) P w K mg base N qual (bI st) f bN A outer s H E) E→
   ∃t,eQ (jh (eV P w) P w K mg base N qual (bI st) f bN A outer s H E) (kN st) t∧t {nx:=fun _ H'=>Q .aN H',rt:=Q} (start N vs) H)
  (len:∀vs H Q E,sp vs H Q E→vs.length=ps.length:=by intro vs H Q E h;repeat first | (obtain ⟨rfl,_⟩:=h;rfl) | (subst h;rfl) | obtain ⟨_,h⟩:=h):bZ P w K mg base (eV P w) (k+1) f fd ps sp:=F.LU S len kK
end
structure n_ (K:aC) (C:Addr):Prop where
 ci:PySem.W.hasDictIn K C=true
 ga:PySem.W.findIn K (.ref C) "__getattribute__"=some (some (.builtin "BaseException.__getattribute__"))
 gn:PySem.W.findIn K (.ref C) "__getattr__"=some none
 ca:PySem.W.findIn K (.ref C) "__class__"=some (some (.builtin "object.__class__"))
 mo:PySem.W.mroIn K C (.type "object")=some true
 mb:PySem.W.mroIn K C (.type "BaseException")=some true
section
variable {prog:Program} {w:World} {A:Around} {E:aE} {h:Heap} {g:Array GenState} {d:Drawn} {t:Nat} {os:OsState} {K:aC} {a C:Addr} {o:Obj}
theorem LV{R:Result→Shared→Prop}(cO:K.In h)(c:n_ K C)(hx:h.get? a=some o)(hc:o.cls=.ref C)(hq:R (.ok (.ret (.ref C))) ⟨h,g,d,t,os⟩) :
  codeAny (model prog w) A (.call (.builtin "getset_descriptor.__get__") ⟨[.builtin "object.__class__",.ref a,.ref C],[]⟩) R ⟨h,g,d,t,os⟩:=by
 have En:(⟨h,g,d,t,os⟩:Shared).TypeIs (.builtin "object.__class__") "getset_descriptor":=zI;have L1:=PySem.W.looks_mroIn (M:=model prog w) cO c.mo;have ow:=F.owner_object_class;refine codeAny_call_builtin F.slot_gs_get.plain F.entry_gs_get (F.slot_gs_get.check _ _ _ _ _ _ _ _ En (F.args_gs_get _ _ _) ?_)
 repeat (any_goals (first | assumption | (with_reducible refine tN hx ?_;rw [hc]) | (rw [ow];with_reducible refine L1.at ?_) | wp_step))
 refine ⟨Code.quiet_builtin _ (by decide +kernel),tO F.entry_object_class ?_⟩
 repeat (any_goals (first | assumption | (with_reducible refine tN hx ?_;rw [hc]) | wp_step))
variable {tk:Tok}
theorem LW{Q:Fin→Shared→Prop}(cO:K.In h)(c:n_ K C)(hx:h.get? a=some o)(hc:o.cls=.ref C)(hq:Q (.done (.ret (.ref C))) ⟨h,g,d,t,os⟩) :
  wpAny (model prog w) A (Builtin.«object.__getattribute__» ⟨[.ref a,.str "__class__" tk],[]⟩) Q E ⟨h,g,d,t,os⟩:=by
 have En:(⟨h,g,d,t,os⟩:Shared).TypeIs (.builtin "object.__class__") "getset_descriptor":=zI;have L1:=PySem.W.looks_findIn (M:=model prog w) cO c.ca;have f5:=zI;have f6:=F.slot_gs_get.lookup;have f7:=F.slot_gs_set.lookup
 repeat (any_goals (first | assumption | (with_reducible refine tN hx ?_;rw [hc]) | with_reducible refine L1.at ?_ | wp_step))
 refine LV cO c hx hc ?_
 repeat (any_goals (first | assumption | wp_step))
theorem LX{M:Model}{nv:Value}{Q:Unit→Shared→Prop}(cO:K.In h)(c:n_ K C)(hx:h.get? a=some o)(hc:o.cls=.ref C)(hq:Q () ⟨h,g,d,t,os⟩) :
  wpAny M A (checkBuiltinCall "BaseException.__getattribute__" ⟨[.ref a,nv],[]⟩) Q E ⟨h,g,d,t,os⟩:=by
 have hk:builtinKind "BaseException.__getattribute__"=some .slot:=by decide +kernel
 have hs:splitId "BaseException.__getattribute__"=some ("BaseException","__getattribute__"):=by decide +kernel
 have L1:=PySem.W.looks_mroIn (M:=M) cO c.mb;have ha:=F.args_bexc_ga (.ref a) nv;simp only [checkBuiltinCall,hk,hs];refine av ?_;unfold isInstance
 repeat (first | (with_reducible refine tN hx ?_;rw [hc]) | with_reducible refine L1.at ?_ | wp_step)
 exact hq
theorem LY{fill expr:Bool}{Q:aE}(cO:K.In h)(c:n_ K C)(hx:h.get? a=some o)(hc:o.cls=.ref C)(hq:Q (.ref C) ⟨h,g,d,t,os⟩) :
  wpAny (model prog w) A (getAttrBy (.ref a) (.str "__class__" tk) fill expr) Q E ⟨h,g,d,t,os⟩:=by
 have f3:=F.attrBase_ValueError.ga.bind (.ref a);have z0:(expr && onTheHeap (Value.builtin "BaseException.__getattribute__"))=false:=by cases expr <;> rfl
 have z2:(Value.builtin "BaseException.__getattribute__" == Value.builtin "object.__getattribute__")=false:=by decide +kernel
 have z1:(onTheHeap (Value.ref C) && Value.builtin "BaseException.__getattribute__" == Value.builtin "object.__getattribute__")=false:=by rw [z2];rfl
 have L1:=PySem.W.looks_findIn (M:=model prog w) cO c.ga;have L2:=PySem.W.looks_findIn (M:=model prog w) cO c.gn
 repeat (any_goals (first | assumption | (with_reducible refine tN hx ?_;rw [hc]) | with_reducible refine L1.at ?_ | with_reducible refine L2.at ?_ | wp_step))
 refine codeAny_call_builtin F.attrBase_ValueError.ga.plain F.entry_bexc_ga (LX cO c hx hc (LW cO c hx hc ?_))
 repeat (any_goals (first | assumption | wp_step))
theorem LZ{Q:Option Value→Shared→Prop}(cO:K.In h)(c:n_ K C)(hx:h.get? a=some o)(hc:o.cls=.ref C)(hq:Q (some (.ref C)) ⟨h,g,d,t+1,os⟩) :
  wpAny (model prog w) A (getAttr? (.ref a) "__class__") Q E ⟨h,g,d,t,os⟩:=by
 unfold getAttr? getAttrBy?
 repeat (any_goals (first | assumption | with_reducible apply LY cO c hx hc | wp_step))
theorem L0(c:n_ K C):PySem.W.KitX K (.ref a) (.ref C) (ExcAt a C) where
 ty:=fun M h _ k=>by obtain ⟨oe,e1,e2,_⟩:=k;exact e2▸(PySem.W.Looks.ld e1).andThen .now
 it:=fun M h cO _=>by
  obtain ⟨cd,hc,_⟩:=PySem.W.any_some c.ci;unfold PySem.W.clsIn at hc
  split at hc
  ·rename_i look
   intro A' Q' E' s' k q;unfold isType loadHead;exact av (wpAny_loadPart (k _ _ (cO _ _ look)) (bG q))
  ·cases hc
 ne:=fun h tp dd ah n sl cO L3=>by
  obtain ⟨cd,hc,_⟩:=PySem.W.any_some c.ci;refine Bool.eq_false_iff.mpr fun q=>?_;have e:C=tp:=Value.ref.inj (beq_iff_eq.mp q);subst e;unfold PySem.W.clsIn at hc
  split at hc
  ·rename_i look
   have z:=(cO _ _ look).symm.trans L3;cases z
  ·cases hc
 ca:=fun{prog w A E Q s} cO k z=>by obtain ⟨oe,e1,e2,_⟩:=k;obtain ⟨h,g,d,t,os⟩:=s;exact LZ cO c e1 e2 z
end
def xb(a:Addr)(h:Heap):Prop:=∃o ep,h.get? a=some o∧o.ExactDict∧o.data=.dict #[] ep∧(a == sysModules)=false
theorem xb.Aw{a:Addr}(e:xb a h):PySem.W.KitAt a "dict" h:=by obtain ⟨o,_,e,c,_⟩:=e;exact ⟨o,e,c.1⟩
def Eo(a:Addr):HO:=.ext (xb a)
inductive uD (K:aC) (H:Hp):V→Value→Prop where
 | of {x:V} {t:Value} (h:gZ K H x t):uD K H x t
 | exc {a C:Addr} (e:H a=some (LK a C)) (c:n_ K C):uD K H (.ref a) (.ref C)
 | qW {a:Addr} (e:H a=some (Eo a)):uD K H (.ref a) (.type "dict")
def Ep:V→Value
 | .ty n=>.type n
 | .ref a=>.ref a
 | _=>.none
def L4:V→Bool
 | .ty _=>true
 | .ref _=>true
 | _=>false
def L5(K:aC):List V→Hp→VK→Prop:=fun xs H Q=>∃x c t b,xs=[x,c]∧L4 c=true∧uD K H x t∧PySem.W.kitOne K t (Ep c)=some b∧Q (.bl b) H
theorem Ax{X:Cx}(hK:X.K=K:=by rfl):eC X (.builtin "isinstance") (L5 K):=by
 intro pins s σ H xs us Q I r h;subst hK;obtain ⟨x,c,t,b,rfl,hc,ty,e,q⟩:=h;obtain ⟨u,cv,rfl,rx,rc⟩:=vals2 r;have ec:cv=Ep c:=by
  cases c with
  | ty n=>exact rc
  | ref a=>exact rc
  | _=>cases hc
 subst ec;cases ty with
 | of ty=>exact Kk I rx ty e fun tk=>⟨.bl b,H,I.tok tk,rfl,q⟩
 | @qW a ea=>cases rx;obtain ⟨k,_,_⟩:=(show bX X.prog X.w H s.heap a (.ext (xb a)) from I.au a _ ea);exact gP PySem.W.kitx_dict I.en k.Aw e (fun z=>nomatch z) fun tk=>⟨.bl b,H,I.tok tk,rfl,q⟩
 | @exc a C ea cc=>cases rx;obtain ⟨k,_,_⟩:=(show bX X.prog X.w H s.heap a (.ext (ExcAt a C)) from I.au a _ ea);exact gP (L0 cc) I.en k e (fun z=>nomatch z) fun tk=>⟨.bl b,H,I.tok tk,rfl,q⟩
theorem boot_isinstance:bootBuiltins "isinstance"=some (.builtin "isinstance"):=by decide +kernel
theorem boot_min:bootBuiltins "min"=some (.builtin "min"):=by decide +kernel
theorem boot_max:bootBuiltins "max"=some (.builtin "max"):=by decide +kernel
theorem boot_int:bootBuiltins "int"=some (.type "int"):=by decide +kernel
theorem boot_bool:bootBuiltins "bool"=some (.type "bool"):=by decide +kernel
theorem boot_tuple:bootBuiltins "tuple"=some (.type "tuple"):=by decide +kernel
theorem boot_list:bootBuiltins "list"=some (.type "list"):=by decide +kernel
end L2
namespace My
open PySem L2
end My
namespace L2
open PySem PySem.Spec PyProof.Rows
abbrev Cx.aV (X:Cx) (N:List Str) (scope:Scope) (cl:List (Str×Addr)) (s₃:Shared) (H₃:Hp) (fp:List Addr):Cx:=
 {X with N:=N,s₀:=s₃,H₀:=H₃,env:=compEnvC scope cl s₃.heap.objs.size X.env,outer:=X.stack,stack:=X.stack,ex:=fp,fn:=fun _=>false,pn:=[],xe:=fun _ _=>False}
inductive jX (X:Cx):List Expr→TT→Prop where
 | nil:jX X [] (fun _ H Q=>Q true H)
 | one {c:Expr} {t:TT} (h:PT X c t):jX X [c] t
def jo(wi:TI)(ρ:St→St)(tt:TT)(te:TE):TE:=fun σ H Q=>wi σ H fun J H1=>∀D,H1 D=none→∃W:Nat→Nat→List V→Hp→Prop,(∃m,W 0 m [] (upd H1 D (.lst []))) ∧
 ∀i m ys Hc,W i m ys Hc→Hc D=some (.lst ys)∧((J.stop i Hc∧Q (.ref D) Hc)∨(J.go i Hc∧∀x H',J.cV i Hc x H'→tt (some x::ρ σ) H' fun b H2=>
  if b=true then te (some x::ρ σ) H2 fun y H3=>H3 D=some (.lst ys)∧ys.length<sizeLine∧∃m',m'<m∧W (i+1) m' (ys++[y]) (upd H3 D (.lst (ys++[y]))) else ∃m',m'<m∧W (i+1) m' ys H2))
section
variable {X:Cx} {N:List Str} {scope:Scope} {cl:List (Str×Addr)} {x:Str} {px pos:Pos} {iter elt:Expr} {ifs:List Expr} {wi:TI} {ρ:St→St} {tt:TT} {te:TE}
structure Ay (X:Cx) (N:List Str) (scope:Scope) (cl:List (Str×Addr)) (x:Str) (ρ:St→St):Prop where
 uE:closureFor scope X.env=pure cl
 kind:scope.kind=.function
 uF:∀y∈scope.names,y.2≠.cell
 names:∀y∈scope.names,y.2=.local→scope.names.lookup y.1=some .local
 sub:∀p∈cl,X.env.cells.lookup p.1=some p.2
 has:∀y,((relabel scope X.env).names.lookup y=some .cell∨(relabel scope X.env).names.lookup y=some .free)→∃c,cl.lookup y=some c
 n0:N[0]?=some x
 nd:N.Nodup
 hx:scope.names.lookup x=some .local
 uG:∀(σ:St) (j:Nat) (v:V),(ρ σ)[j]?=some (some v)→∃(i:Nat) (y:Str),N[j+1]?=some y∧X.N[i]?=some y∧σ[i]?=some (some v)∧nR X.env.scope y∧(X.env.kindOf y=some .cell∨X.env.kindOf y=some .free)∧((relabel scope X.env).names.lookup y=some .cell∨(relabel scope X.env).names.lookup y=some .free)
 len:∀σ:St,σ.length=X.N.length→(ρ σ).length+1=N.length
theorem Er{names:List (Str×NameKind)}(h:(names.all fun q=>(q.2 != .cell && q.2 != .free) || (cl.lookup q.1).isSome)=true) :
  ∀y,(names.lookup y=some .cell∨names.lookup y=some .free)→∃c,cl.lookup y=some c:=fun y hy=>by
 have key:∀k:NameKind,(k != .cell && k != .free)=false→names.lookup y=some k→∃c,cl.lookup y=some c:=fun k hk e=>by have z:=gv.mp h (y,k) (jH e);rw [hk,Bool.false_or] at z;exact Option.isSome_iff_exists.mp z
 rcases hy with e | e;·exact key .cell rfl e
 ·exact key .free rfl e
theorem join_some{o:Option (Option V)}{v:V}(h:some o.join=some (some v)):o=some (some v):=by
 cases o with
 | none=>cases h
 | some o=>cases h;rfl
def xc(X:Cx)(sc:Scope):List Str→List Nat→Prop
 | n::ns,i::is=>(X.N[i]?=some n∧nR X.env.scope n∧(X.env.kindOf n=some .cell∨X.env.kindOf n=some .free)∧((relabel sc X.env).names.lookup n=some .cell∨(relabel sc X.env).names.lookup n=some .free))∧xc X sc ns is
 | _,[]=>True
 | [],_::_=>False
theorem Az{X:Cx}{sc:Scope}:∀{ns:List Str} {is:List Nat},xc X sc ns is→∀(σ:St) (j:Nat) (v:V),(is.map fun i=>σ[i]?.join)[j]?=some (some v)→∃(i:Nat) (n:Str),ns[j]?=some n∧X.N[i]?=some n∧σ[i]?=some (some v)∧nR X.env.scope n∧(X.env.kindOf n=some .cell∨X.env.kindOf n=some .free)∧((relabel sc X.env).names.lookup n=some .cell∨(relabel sc X.env).names.lookup n=some .free)
 | _,[],_,_,_,_,e=>by cases e
 | [],_::_,h,_,_,_,_=>h.elim
 | n::_,i::_,h,_,0,_,e=>⟨i,n,rfl,h.1.1,join_some e,h.1.2⟩
 | _::_,_::_,h,σ,j+1,v,e=>Az h.2 σ j v e
theorem iK(is:List Nat)(h1:closureFor scope X.env=pure cl)(h:xc X scope N.tail is:=by repeat' first | exact True.intro | refine And.intro ⟨rfl,Or.inr (Or.inl rfl),.inl rfl,.inl rfl⟩ ?_)(h2:scope.kind=.function:=by rfl)(h3:∀y∈scope.names,y.2≠.cell:=by decide +kernel)(h4:∀y∈scope.names,y.2=.local→scope.names.lookup y.1=some .local:=by decide +kernel)(h5:∀p∈cl,X.env.cells.lookup p.1=some p.2:=by repeat' first | exact List.forall_mem_nil _ | refine List.forall_mem_cons.mpr ⟨rfl,?_⟩)(h6:((relabel scope X.env).names.all fun q=>(q.2 != .cell && q.2 != .free) || (cl.lookup q.1).isSome)=true:=by rfl)(h7:N[0]?=some x:=by rfl)(h8:N.Nodup:=by decide +kernel)(h9:scope.names.lookup x=some .local:=by rfl)(hr:∀σ:St,ρ σ=is.map fun i=>σ[i]?.join:=by exact fun _=>rfl)(hl:is.length+1=N.length:=by rfl):Ay X N scope cl x ρ:=
 ⟨h1,h2,h3,h4,h5,Er h6,h7,h8,h9,fun σ j v e=>by rw [hr] at e;rw [←List.getElem?_tail];exact Az h σ j v e,fun σ _=>by rw [hr,aB];exact hl⟩
theorem kP(B:Ay X N scope cl x ρ)(hc:X.calm=true)(hi:PI X (.Name x px) iter wi)(ht:∀s₃ H₃ fp,jX (X.aV N scope cl s₃ H₃ fp) ifs tt)(he:∀s₃ H₃ fp,PE (X.aV N scope cl s₃ H₃ fp) elt te)
  (hs:∀x,foldedSetIterable iter X.env x=pure x:=by intro _;rfl):PE X (.ListComp elt [⟨.Name x px,iter,ifs,0⟩] scope pos) (jo wi ρ tt te):=by
 intro pins s σ H Q I h
 rw [eval_ListComp]
 refine wb (use:=none) rfl hs B.uE B.kind B.names (aF (hi pins s σ H _ I h) fun v s1 h1=>aF h1 fun qR s2 h2=>?_)
 obtain ⟨it,fp,tn,J,H2,rfl,I2,T,fe,f2,q2⟩:=h2
 have nD:H2 s2.heap.objs.size=none:=I2.au.fresh (aw _)
 obtain ⟨W,⟨m0,w0⟩,turn⟩:=q2 _ nD
 refine tI (wc B.uF (by intro y hy;simp at hy) (fun h₁ eF eG=>?_) B.kind)
 dsimp only at eF eG ⊢
 generalize hD:s2.heap.objs.size=D at nD w0 turn eF eG ⊢
 generalize fV:({s2 with heap:=s2.heap.push {cls:=.type "list",dict:=none,data:=.seq ([]:List Value).toArray}}:Shared)=s3
 have I3:Inv X pins σ (upd H2 D (.lst [])) s3:=by
  subst hD fV
  exact I2.laid (t':=s2.toks) (fun b u e=>bW _ e) (aw _) ⟨bU _,[],_,.nil,dE _ rfl⟩
 have e3:s3.heap=s2.heap.push {cls:=.type "list",dict:=none,data:=.seq ([]:List Value).toArray}:=by rw [←fV]
 have eJ:∀b o,s2.heap.get? b=some o→s3.heap.get? b=some o:=fun b o e=>by rw [e3];exact bW _ e
 rw [←e3] at eF eG ⊢
 have below:∀b o,s3.heap.get? b=some o→b≠s3.heap.objs.size:=fun b o e=>bE (aS e)
 have c_:∀b o,s3.heap.get? b=some o→h₁.get? b=some o:=fun b o e=>eG.extBut b o (below b o e) (bW _ e)
 have fW:∀b∈fp,∃o,s2.heap.get? b=some o∧∀v,o.data≠.cell v:=T.obj _ _ fe
 have og:∀b∈fp,b≠D:=fun b hb z=>by
  obtain ⟨o,e,_⟩:=fW b hb
  rw [z,←hD] at e
  exact absurd (aS e) (dm _)
 have cC:∀y c,cl.lookup y=some c→X.env.cells.lookup y=some c:=fun y c e=>B.sub (y,c) (jH e)
 have oi:=I3.qO
 have dC:(X.aV N scope cl s3 (upd H2 D (.lst [])) fp).Ok:=by
  refine ⟨I.ok.mod,B.kind,I.ok.glob,I.ok.blt,aw _,fun a b c e1 e2=>I.ok.inj a b c (cC a c e1) (cC b c e2),fun y hy=>B.has y hy,(fun _ _ z _=>absurd z cK),(fun _=>I.ok.hd hc),I.ok.frames,.inl rfl,fun b hb=>⟨?_,fun y c e z=>?_⟩,fun b o e=>?_,b5 I.ok.gy I3.sz,fun b o e hb=>?_,fun b hb z=>?_,I3.stack,oi⟩
  ·obtain ⟨o,e,_⟩:=fW b hb
   exact below b o (eJ b o e)
  ·exact (f2 b hb).2.2.2.2.1 y c (cC y c e) z
  ·exact I3.bs b o e
  ·rcases (f2 b hb).2.2.2.1 with z | z
   ·exact I.ok.me b o e z
   ·exact absurd (cT (aS e) (b5 I.ok.gy z)) (dm _)
  ·rcases b3.mp (I3.qN b z) with z | z
   ·exact (f2 b hb).2.1 z
   ·exact (f2 b hb).2.2.1 z
 have IB:∀tk:Nat,Inv (X.aV N scope cl s3 (upd H2 D (.lst [])) fp) [] (none::ρ σ) (upd H2 D (.lst [])) {s3 with heap:=h₁,toks:=tk}:=fun tk=>by
  refine ⟨dC,rfl,I3.bare,Un.kept c_,⟨_,eF,fun j y v e1 e2 e3=>?_⟩,fun y c e=>?_,?_,fun y c e=>I3.gU y c (cC y c e),(fun p hp=>nomatch hp),I3.au.kept c_,?_⟩
  ·cases j with
   | zero=>cases e2
   | succ j=>
    obtain ⟨i,y',a1,a2,a3,a4,a5,a6⟩:=B.uG σ j v e2
    have kT:N[j+1]?=some y:=e1
    rw [kT] at a1
    cases a1
    obtain ⟨m,hn,hl⟩:=I3.loc
    obtain ⟨u,r,l⟩:=hl i y v a2 a3 a4
    refine ⟨u,r,.inr ⟨a6,?_⟩⟩
    obtain ⟨c,ec⟩:=B.has y a6
    rcases l with ⟨k,_⟩ | ⟨_,c',jq,z⟩
    ·rcases a5 with q | q <;> (rw [k] at q;cases q)
    ·have:=cC y c ec
     rw [this] at jq
     cases jq
     obtain ⟨o,ho,hd⟩:=z
     exact ⟨c,ec,o,c_ _ _ ho,hd⟩
  ·obtain ⟨v,o,ho,hd⟩:=I3.cell y c (cC y c e)
   exact ⟨v,o,c_ _ _ ho,hd⟩
  ·exact I3.au.fresh (aw _)
  ·show (none::ρ σ).length=N.length
   rw [cL]
   exact B.len σ I.len
 have fin:∀{σ':St} {H':Hp} {s':Shared},Inv (X.aV N scope cl s3 (upd H2 D (.lst [])) fp) [] σ' H' s'→Q (.ref D) H'→compPost (model X.prog X.w) X.A X.xe none (EP X pins σ Q) (.ref D) s3.heap.objs.size (.ok .next) s':=fun{σ' H' s'} J q=>by
  obtain ⟨m,hn,_⟩:=J.loc
  refine ⟨m,hn,fun h' eK=>⟨.ref D,H',?_,rfl,q⟩⟩
  have old:∀b o,s3.heap.get? b=some o→b≠s3.heap.objs.size:=below
  have u1:Un (cj X.stack) fp (upd H2 D (.lst [])) H' s3.heap h':=by
   refine ⟨fun b o e n hb hx=>?_,fun b o e n hb hx=>?_,J.base.free,fun b o e hx=>?_,J.base.fu,J.base.fc,J.base.fv⟩
   ·exact (eK.2 b (old b o e)).trans (J.base.keep b o e n hb hx)
   ·obtain ⟨sl,z⟩:=J.base.slot b o e n hb hx
    exact ⟨sl,(eK.2 b (old b o e)).trans z⟩
   ·obtain ⟨o',z⟩:=J.base.there b o e hx
    exact ⟨o',(eK.2 b (old b o e)).trans z⟩
  have oj:bY X.prog X.w H' h':=fun b u e=>by
   refine (J.au b u e).iB (fun c v hc z=>(eK.2 c fun y=>?_).trans z) (fun _ z=>z) fun _ _ z=>z
   have fr:=J.free
   have y':c=s3.heap.objs.size:=y
   rcases hc with hc | hc
   ·rw [←hc,y'] at e
    exact absurd (fr.symm.trans e) (by simp)
   ·rw [y'] at hc
    exact absurd (fr.symm.trans hc) (by simp)
  refine I3.mq (s':={s' with heap:=h'}) (ch:=fp) (J.os) u1 oj J.bare fun b hb=>?_
  obtain ⟨g0,g1,g2,g3,g4,g5⟩:=f2 b hb
  exact ⟨g3,g1,g4,g5⟩
 have eA:∀{H':Hp},(∀b∈fp,H' b=none)→∀b∈fp,jS (X.aV N scope cl s3 (upd H2 D (.lst [])) fp) [] H' b:=fun hn b hb=>by
  refine ⟨hn b hb,?_,?_,.inl hb,fun y c e z=>(f2 b hb).2.2.2.2.1 y c (cC y c e) z,fun p hp=>nomatch hp⟩
  ·obtain ⟨o,e,_⟩:=fW b hb
   exact below b o (eJ b o e)
  ·exact dC.mf b hb
 have loop:∀tk:Nat,codeAny (model X.prog X.w) X.A (.compLoop (.ListComp elt [⟨.Name x px,iter,ifs,0⟩] scope pos) 0 (.ref it) (.ref D) (compEnvC scope cl s3.heap.objs.size X.env))
   (compPost (model X.prog X.w) X.A X.xe none (EP X pins σ Q) (.ref D) s3.heap.objs.size) {s3 with heap:=h₁,toks:=tk}:=fun tk=>by
  refine codeAny_compLoop_tests (fun n s'=>∃i ys o H',Inv (X.aV N scope cl s3 (upd H2 D (.lst [])) fp) [] (o::ρ σ) H' s'∧tn i s'.heap∧(∀b∈fp,H' b=none)∧W i n ys H') ?_ m0
   ⟨0,[],none,_,IB tk,T.keep _ _ _ fe fun b hb o e=>c_ _ _ (eJ _ _ e),fun b hb=>by rw [aR (og b hb)];exact (f2 b hb).1,w0⟩
  rintro n s4 ⟨i,ys,o,H4,I4,jr,jt,w4⟩
  obtain ⟨AA,om⟩:=turn i n ys H4 w4
  rcases om with ⟨stop,qn⟩ | ⟨go,step⟩
  ·refine bo (T.done (X.aV N scope cl s3 (upd H2 D (.lst [])) fp) rfl rfl rfl hc i [] s4 _ H4 (fun _ _=>False) I4 (eA jt) jr stop) (fun r s5 ⟨hr,I5⟩=>?_) fun _ _ z=>z.elim
   subst hr
   exact fin I5 qn
  ·refine bo (T.item (X.aV N scope cl s3 (upd H2 D (.lst [])) fp) rfl rfl rfl hc i [] s4 _ H4 (fun _ _=>False) I4 (eA jt) jr go) (fun r s5 ⟨u,hr,h5⟩=>?_) fun _ _ z=>z.elim
   subst hr
   have z:letOwnedTupleGo (.Name x px) (.ref it) u=pure ():=rfl
   rw [z] at h5
   show wpAny _ _ ((pure ():Sem Unit) >>= fun _=>assign (.Name x px) (compEnvC scope cl s3.heap.objs.size X.env) u) _ _ s5
   refine av (bo h5 (fun _ s5 ⟨y,H5,I5,r5,y5,eB,kH⟩=>?_) fun _ _ z=>z.elim)
   have kJ:=I5.pinned (eA kH) (T.obj _ _ eB)
   have pg:PG (X.aV N scope cl s3 (upd H2 D (.lst [])) fp) (.Name x px) (aY 0):=dI (i:=0) B.nd B.n0 (.inl (iw B.hx)) (.inr (iw B.hx))
   have again:∀{σ7:St} {H7:Hp} {s7:Shared},Inv (X.aV N scope cl s3 (upd H2 D (.lst [])) fp) ([]++iE fp s5.heap) σ7 H7 s7→Inv (X.aV N scope cl s3 (upd H2 D (.lst [])) fp) [] σ7 H7 s7∧tn (i+1) s7.heap∧∀b∈fp,H7 b=none:=fun{σ7 H7 s7} I7=>by
    refine ⟨I7.nX,T.keep _ _ _ eB fun b hb o e=>(I7.pin (b,o) (dq _ (dq _ (jT hb e)))).1,fun b hb=>?_⟩
    obtain ⟨o,e,d⟩:=T.obj _ _ eB b hb
    exact (I7.pin (b,o) (dq _ (dq _ (jT hb e)))).2.1
   refine bo (pg _ s5 _ H5 y u (fun σ2 H6=>σ2=some y::ρ σ∧H6=H5) kJ r5 ⟨rfl,rfl⟩) (fun _ s6 ⟨σ6,H6,I6,q6⟩=>?_) fun _ _ z=>z.elim
   obtain ⟨rfl,rfl⟩:=q6
   have oo:=step y _ y5
   have tests:∀{fX:TT},jX (X.aV N scope cl s3 (upd H2 D (.lst [])) fp) ifs fX→∀{R:Bool→Hp→Prop},fX (some y::ρ σ) H6 R→wpAny (model X.prog X.w) X.A
     (forIn ifs true fun c r=>if r=true then do let ok ←isTrue c (compEnvC scope cl s3.heap.objs.size X.env) (eval c (compEnvC scope cl s3.heap.objs.size X.env));pure (ForInStep.yield ok) else pure (ForInStep.yield r))
     (fun ok s7=>∃H7,Inv (X.aV N scope cl s3 (upd H2 D (.lst [])) fp) ([]++iE fp s5.heap) (some y::ρ σ) H7 s7∧R ok H7) (fun _ _=>False) s6:=fun{fX} p {R} hR=>by
    cases p with
    | nil=>exact wd ⟨_,I6,hR⟩
    | one p=>exact we (p _ s6 _ _ _ I6 hR)
   refine bo (tests (ht s3 _ fp) oo) (fun ok s7 ⟨H7,I7,q7⟩=>?_) fun _ _ z=>z.elim
   cases ok with
   | false=>
    obtain ⟨m',fY,w7⟩:=q7
    obtain ⟨a1,a2,a3⟩:=again I7
    exact ⟨m',fY,i+1,ys,_,H7,a1,a2,a3,w7⟩
   | true=>
    refine bo (he s3 _ fp _ s7 _ H7 _ I7 q7) (fun ev s8 ⟨z,H8,I8,r8,oq,hz,m',fY,w8⟩=>?_) fun _ _ z=>z.elim
    refine bo (iJ (X:=X.aV N scope cl s3 (upd H2 D (.lst [])) fp) _ s8 _ H8 (.ref D) [z] (.ref D) [ev] (fun _ H9=>H9=upd H8 D (.lst (ys++[z]))) I8 rfl (.cons r8 .nil) ⟨D,ys,z,rfl,rfl,oq,hz,rfl⟩) (fun _ s9 ⟨_,H9,I9,_,q9⟩=>?_) fun _ _ z=>z.elim
    subst q9
    obtain ⟨a1,a2,a3⟩:=again I9
    exact ⟨m',fY,i+1,ys++[z],_,_,a1,a2,a3,w8⟩
 have start:=loop (s3.toks+([]:List (Str×Value)).length)
 have es:({s3 with heap:=h₁,toks:=s3.toks+([]:List (Str×Value)).length}:Shared)={s2 with heap:=h₁,toks:=s2.toks+([]:List (Str×Value)).length}:=by rw [←fV]
 rw [es] at start
 exact wg start (T.self _ 0 _ _ _ (T.keep _ _ _ fe fun b hb o e=>c_ _ _ (eJ _ _ e)) start)
end
def iL(i:Int):Prop:=i.natAbs<2 ^ 2048
theorem iL.log{i:Int}(h:iL i):i.natAbs.log2<2048:=by
 by_cases z:i.natAbs=0;·rw [z];decide
 ·exact (Nat.log2_lt z).mpr h
theorem AB:∀{xs:List V} {us:List Value},xs.length=us.length→(∀(i:Nat) (x:V) (u:Value),xs[i]?=some x→us[i]?=some u→RelV x u)→Vals xs us
 | [],[],_,_=>.nil
 | [],_::_,h,_=>by simp at h
 | _::_,[],h,_=>by simp at h
 | x::xs,u::us,h,k=>.cons (k 0 x u rfl rfl) (AB (by simpa using h) fun i a b h1 h2=>k (i+1) a b (by simpa using h1) (by simpa using h2))
section
variable {X:Cx}
def L6(i j:Int):Prop:=0<j∧iL j
theorem L7:cG X (binaryOp .FloorDiv) (rI L6 fun i j=>.int (i / j)):=wJ fun i j _ _ _ _ _ hc q=>floordiv_int (Int.ne_of_gt hc.1) (by rw [Int.fdiv_eq_ediv_of_nonneg i (cE hc.1)];exact q) (.inl (PyProof.noPylong_of_log2 (cT hc.2.log (by decide))))
def allR(K:aC):List V→Hp→VK→Prop:=fun xs H Q=>∃(p:Addr) (bs:List Bool),xs=[.ref p]∧bC K H p (bs.map V.bl)∧Q (.bl (bs.all id)) H
theorem L8{K:aC}(hc:X.calm=true)(hK:X.K=K:=by rfl):eC X (.builtin "all") (allR K):=by
 intro pins s σ H xs us Q I r h;subst hK;obtain ⟨p,bs,rfl,hq,q⟩:=h;obtain ⟨u,rfl,ru⟩:=vals1 r;cases ru;obtain ⟨ah,rv,pl,hz⟩:=I.list hq;have uH:p≠s.heap.objs.size:=by obtain ⟨o,e,_⟩:=pl.isList;exact bE (aS e)
 have hl:ah.length=bs.length:=by rw [←rv.length,aB]
 refine call_all_walk (v_ pl.isList ?_);refine ⟨s.heap.objs.size,_,_,_,_,_,fun i=>bs.getD i true,rfl,Walks.list (A:=X.A.in1) (show X.A.in1.handled=none from I.ok.hd hc) s.heap.objs.size p uH ah.toArray,⟨⟨_,dE _ rfl,rfl,rfl⟩,pl.isList.push _⟩,fun i v s' Q' E' hv L9=>?_,fun h' tk hk=>?_⟩
 ·have ju:ah[i]?=some v:=by simpa using hv
  cases eb:bs[i]? with
  | none=>
   have:=rv.none_of (i:=i) (by rw [bt,eb];rfl)
   rw [this] at ju;cases ju
  | some b=>
   obtain ⟨u,hu,ru⟩:=rv.get (i:=i) (x:=V.bl b) (by rw [bt,eb];rfl)
   rw [hu] at ju;cases ju;cases ru;have e:bs.getD i true=b:=by rw [ei,eb];rfl
   have Es:Q' (bs.getD i true) s':=L9;rw [e] at Es;exact nz Es
 ·refine ⟨.bl (bs.all id),H,I.kept fun b o e=>hk b o (fun z=>?_) (bW _ e),?_,q⟩
  ·exact absurd (aS e) (by rw [cg.mp z];exact dm _)
  ·show Value.bool _=Value.bool _
   congr 1
   rw [bP,hl];clear hk q rv pl hz hl hq
   induction bs with
   | nil=>rfl
   | cons b bs ih=>rw [cL,List.range_succ_eq_map,List.all_cons,List.all_map,List.all_cons];show (b && (List.range bs.length).all fun i=>bs.getD i true)=(b && bs.all id);rw [ih]
def L_:List V→Hp→VK→Prop:=fun xs H Q=>∃j:Int,xs=[.int j]∧∀p,H p=none→Q (.ref p) (upd H p (.bH 0 j))
theorem jv:eC X (.type "range") L_:=by intro pins s σ H xs us Q I r h;obtain ⟨j,rfl,q⟩:=h;obtain ⟨u,rfl,ru⟩:=vals1 r;obtain ⟨t,rfl⟩:=ru;refine call_range_1 ⟨.ref s.heap.objs.size,_,I.laid (o:=.bH 0 j) (fun b o e=>bW _ e) (aw _) ⟨_,_,_,dE _ rfl⟩,rfl,q _ (I.au.fresh (aw _))⟩
def aW(n:Nat):List V:=(List.range n).map fun i:Nat=>V.int (i:Int)
def Ma:List V→Hp→VK→Prop:=fun xs H Q=>∃p n,xs=[.ref p]∧H p=some (.bH 0 (n:Nat))∧n≤10000∧∀l,H l=none→Q (.ref l) (upd H l (.lst (aW n)))
theorem jw(hc:X.calm=true):eC X (.type "list") Ma:=by
 intro pins s σ H xs us Q I r h;obtain ⟨p,n,rfl,hp,hn,q⟩:=h;obtain ⟨u,rfl,ru⟩:=vals1 r;cases ru;obtain ⟨t,u,v,e⟩:=(show bX X.prog X.w H s.heap p (.bH 0 n) from I.au p _ hp);refine call_list_range (n:=n) (I.ok.hd hc) e (small_one (by omega) (by omega) (by omega) (by omega)) (by rw [rangeSize_one];split <;> omega) (by omega) fun h' tk acc c hk hD hit=>?_
 refine ⟨.ref s.heap.objs.size,_,I.laid (o:=.lst (aW n)) (fun b o e=>hk b o e) (aw _) ⟨?_,acc.toList,c,?_,?_⟩,rfl,q _ (I.au.fresh (aw _))⟩
 ·unfold aW
  rw [aB,b6];exact b5 hn (by decide)
 ·refine AB ?_ fun i x u h1 h2=>?_
  ·unfold aW
   rw [aB,b6,ee,hit.1]
  ·have uI:acc[i]?=some u:=by simpa using h2
   obtain ⟨cJ,e'⟩:=hit.2 i u uI;unfold aW at h1;rw [bt] at h1;have hi:i<n:=by have z:=(Array.getElem?_eq_some_iff.mp uI).1;rw [hit.1] at z;exact z
   rw [eN hi] at h1;cases h1;exact ⟨cJ,by rw [e'];simp⟩
 ·rw [hD]
end
theorem boot_all:bootBuiltins "all"=some (.builtin "all"):=by decide +kernel
theorem iM:bootBuiltins "range"=some (.type "range"):=by decide +kernel
def AD:Expr→Bool
 | .Starred _ _=>false
 | _=>true
variable {e:Expr} {es:List Expr}
theorem Mb{env:Env}(h:AD e=true):starEach (e::es) env=(false,eval e env)::starEach es env:=by cases e <;> first | rfl | cases h
variable {X:Cx} {te:TE}
theorem Mc{t:TA}(hs:AD e=true)(ha:PE X e te)(hr:PA X es t):PA X (e::es) (uu te t):=
 Kl ha hr (Mb hs)
theorem af{t:TA}(ha:PE X e te)(hr:PA X es t)(hs:AD e=true:=by rfl):PA X (e::es) (uu te t):=Mc hs ha hr
variable {pos pos':Pos} {x:Str}
theorem Et{i:Nat}(hs:swapsWith e (some (.Name x pos')) pos.line X.env=pure false)(hf:X.fn x=true∨X.env.scope.names.lookup x=some .local)(hN:X.N.Nodup)(hi:X.N[i]?=some x)(hx:Loc X.env.scope x)(he:PE X e te) :
  PS X (.Assign [.Name x pos'] e pos) (mB te (aY i)):=JD hN hi hx he hs hf
theorem putL(i:Nat)(hN:X.N.Nodup)(he:PE X e te)(hs:swapsWith e (some (.Name x pos')) pos.line X.env=pure false:=by rfl)(hi:X.N[i]?=some x:=by rfl)(hx:X.env.scope.names.lookup x=some .local:=by rfl) :
  PS X (.Assign [.Name x pos'] e pos) (mB te (aY i)):=Et hs (.inr hx) hN hi (.inl hx) he
theorem Eu(i:Nat)(hN:X.N.Nodup)(he:PE X e te)(hs:swapsWith e (some (.Name x pos')) pos.line X.env=pure false:=by rfl)(hf:X.fn x=true∨X.env.scope.names.lookup x=some .local:=by first | exact .inl rfl | exact .inr rfl | assumption)(hi:X.N[i]?=some x:=by rfl)(hx:X.env.scope.names.lookup x=some .cell:=by rfl) :
  PS X (.Assign [.Name x pos'] e pos) (mB te (aY i)):=Et hs hf hN hi (.inr hx) he
end L2
namespace My
open PySem L2
theorem uJ(a b:Int):decide (V.int a=V.int b)=decide (a=b):=by
 by_cases h:a=b;·subst h;simp
 ·rw [bV h];exact bV fun e=>h (V.int.inj e)
variable {K:aC}
theorem Md{T:String}:PySem.W.kitOne K (.type T) (.type T)=some true:=by unfold PySem.W.kitOne;rw [ae (beq_self_eq_true _)]
variable {H:Hp}
theorem aG{p:Addr}{o:HO}(h:H p=none):ai H (upd H p o):=fun b u e=>by rw [aR (jd e h)];exact e
variable {i:Int}
theorem Ew{α:Type}{xs:List α}(h0:0≤i)(h1:i<xs.length):∃v,fC xs i=some v∧v∈xs:=by
 obtain ⟨k,rfl⟩:∃k:Nat,i=(k:Int):=⟨i.toNat,by omega⟩
 have hk:k<xs.length:=by omega
 exact ⟨xs[k],n4 (by simp [hk]),dH _⟩
inductive Any (H:Hp):V→Prop where
 | aN:Any H .aN
 | bl (b:Bool):Any H (.bl b)
 | int (i:Int):Any H (.int i)
 | str (x:Str):Any H (.str x)
 | lst {a:Addr} {xs:List V} (e:H a=some (.lst xs)):Any H (.ref a)
 | tup {a:Addr} {xs:List V} (e:H a=some (.tup xs)):Any H (.ref a)
 | qW {a:Addr} (e:H a=some (Eo a)):Any H (.ref a)
def qX:V→Bool
 | .int _=>true
 | _=>false
def qY:V→Bool
 | .bl _=>true
 | _=>false
def xf(H:Hp):V→Bool
 | .ref a=>(match H a with | some (.tup _)=>true | _=>false)
 | _=>false
theorem Any.Aw{v:V}(h:Any H v):∃T:String,uD K H v (.type T)∧PySem.W.kitOne K (.type T) (.type "int")=some (qX v || qY v)∧PySem.W.kitOne K (.type T) (.type "bool")=some (qY v) ∧
  PySem.W.kitOne K (.type T) (.type "tuple")=some (xf H v):=by
 cases h with
 | aN=>exact ⟨"NoneType",.of .aN,rfl,rfl,rfl⟩
 | bl b=>exact ⟨"bool",.of (.bl b),rfl,rfl,rfl⟩
 | int i=>exact ⟨"int",.of (.int i),rfl,rfl,rfl⟩
 | str x=>exact ⟨"str",.of (.str x),rfl,rfl,rfl⟩
 | lst e=>exact ⟨"list",.of (.lst e),rfl,rfl,by unfold xf;dsimp only;rw [e];rfl⟩
 | tup e=>exact ⟨"tuple",.of (.tup e),rfl,rfl,by unfold xf;dsimp only;rw [e];rfl⟩
 | qW e=>exact ⟨"dict",.qW e,rfl,rfl,by unfold xf;dsimp only;rw [e];rfl⟩
theorem Me{v:V}(h:qY v=true):qX v=false:=by cases v <;> first | rfl | cases h
theorem iL.of_lt(h1:-(10 ^ 70)<i)(h2:i<10 ^ 70):iL i:=by
 have h3:i.natAbs<2 ^ 240:=by omega
 exact cT h3 (Nat.pow_le_pow_right (by decide) (by decide))
def Mf:Sp:=fun vs H Q _=>∃v:V,vs=[v]∧Any H v∧Q (.bl (qX v)) H
def xg(K:aC):Sp:=fun vs H Q _=>∃(a:Addr) (ns:List Int),vs=[.ref a]∧bC K H a (ns.map V.int)∧ns.length≤63∧∀H',Q (.bl true) H'
end My
namespace L2
open PySem PySem.Spec PyProof.Rows
end L2
namespace My
open PySem L2
end My
namespace L2
open PySem PySem.Spec PyProof.Rows
section
variable {P:Program} {w:World} {K:aC} {mg:cN} {base:Heap}
end
section
variable {X:Cx} {CX:fR} {k:Nat} {f C:Addr} {fd:FuncData} {ps:List Str} {y:Str} {sp:Sp} {E:XK} {m:Str} {pos apos DP:Pos} {e e' o:Expr} {ta:TE} {t tk:TA}
end
end L2
namespace My
open PySem L2
end My
namespace L2
open PySem PySem.Spec PyProof.Rows
section
variable {X:Cx}
end
end L2
namespace My
open PySem L2
section
variable {C N z:Addr} {q:Int} {v u:V} {t b t' b':Int} {H:Hp} {Q:VK} {E:XK}
end
end My
namespace L2
open PySem PySem.Spec PyProof.Rows
structure jY (J:It) (xs:List V) (H1:Hp):Prop where
 go:∀i Hc,ai H1 Hc→i<xs.length→J.go i Hc
 cV:∀i Hc x H',ai H1 Hc→J.cV i Hc x H'→H'=Hc∧(i<xs.length→xs[i]?=some x)
 stop:∀i Hc,ai H1 Hc→xs.length≤i→J.stop i Hc
variable {xs:List V} {H1:Hp}
theorem mO{K:aC}{a:Addr}(h:bC K H1 a xs):jY (mC K a) xs H1 where
 go:=fun i Hc s hi=>⟨xs,xs[i],s.seq h,by simp [hi]⟩
 cV:=fun i Hc x H' s y=>⟨y.1,fun _=>y.2 xs (s.seq h)⟩
 stop:=fun i Hc s hi=>⟨xs,s.seq h,hi⟩
theorem AE{lo:Int}{n:Nat}:jY (nW lo n) ((List.range n).map fun i:Nat=>V.int (lo+(i:Int))) H1 where
 go:=fun i Hc s hi=>by
  have hi:i<n:=by simpa using hi
  exact hi
 cV:=fun i Hc x H' s y=>⟨y.1,fun hi=>by
  have hi:i<n:=by simpa using hi
  rw [y.2];simp [hi]⟩
 stop:=fun i Hc s hi=>by
  have hi:n≤i:=by simpa using hi
  exact hi
variable {H:Hp} {D:Addr}
theorem dW{H':Hp}{o:HO}(s:ai H H')(n:H D=none):ai H (upd H' D o):=fun b u e=>by rw [aR (jd e n)];exact s b u e
variable {te:TE} {Q:VK}
theorem Ex{J:It}{ρσ:St}(js:jY J xs H1)(nD:H1 D=none)(hn:xs.length<sizeLine)
  (P:Nat→V→Hp→Prop) (mono:∀i y H H' ys,P i y H→H D=some (.lst ys)→(∀b o,b≠D→H b=some o→H' b=some o)→P i y H')
  (step:∀i x,xs[i]?=some x→∀(Hc:Hp) (R:VK),ai H1 Hc→(∃ys,Hc D=some (.lst ys))→(∀y H3,ai Hc H3→P i y H3→R y H3)→te (some x::ρσ) Hc R)
  (fin:∀ys Hc,ai H1 Hc→ys.length=xs.length→(∀i y,ys[i]?=some y→P i y Hc)→Hc D=some (.lst ys)→Q (.ref D) Hc) :
  ∃W:Nat→Nat→List V→Hp→Prop,(∃m,W 0 m [] (upd H1 D (.lst []))) ∧
   ∀i m ys Hc,W i m ys Hc→Hc D=some (.lst ys)∧((J.stop i Hc∧Q (.ref D) Hc)∨(J.go i Hc∧∀x H',J.cV i Hc x H'→
    if true=true then te (some x::ρσ) H' fun y H3=>H3 D=some (.lst ys)∧ys.length<sizeLine∧∃m',m'<m∧W (i+1) m' (ys++[y]) (upd H3 D (.lst (ys++[y]))) else ∃m',m'<m∧W (i+1) m' ys H')):=by
 refine ⟨fun i m ys Hc=>m=xs.length-i∧i≤xs.length∧Hc D=some (.lst ys)∧ai H1 Hc∧ys.length=i∧∀j y,ys[j]?=some y→P j y Hc,⟨_,rfl,bU _,ar,dW (ai.refl H1) nD,rfl,fun j y e=>by simp at e⟩,?_⟩
 rintro i m ys Hc ⟨rfl,hi,eD,sH,el,hP⟩;refine ⟨eD,?_⟩;by_cases ba:i<xs.length
 ·refine .inr ⟨js.go i Hc sH ba,fun x H' hy=>?_⟩
  obtain ⟨rfl,hx⟩:=js.cV i Hc x H' sH hy;rw [ae rfl];refine step i x (hx ba) _ _ sH ⟨ys,eD⟩ fun y H3 s3 hp=>?_;have e3:=s3 _ _ eD;refine ⟨e3,by omega,xs.length-(i+1),by omega,rfl,ba,ar,dW (sH.trans s3) nD,by simp [el],fun j y' e=>?_⟩
  have cu:∀b o,b≠D→H3 b=some o→upd H3 D (.lst (ys++[y])) b=some o:=fun b o nb e=>by rw [aR nb];exact e
  by_cases hj:j<i
  ·have e':ys[j]?=some y':=by rw [ir (by omega)] at e;exact e
   refine mono j y' H' _ ys (hP j y' e') eD fun b o nb e=>?_;exact cu b o nb (s3 _ _ e)
  ·have hj:j=i:=by have:=(b9.mp e).1;simp at this;omega
   subst hj;have e':y'=y:=by rw [iq (by omega),el,qu] at e;simpa using e.symm
   subst e';exact mono _ _ H3 _ ys hp e3 cu
 ·have e:i=xs.length:=by omega
  subst e;exact .inl ⟨js.stop _ Hc sH (aw _),fin ys Hc sH el hP eD⟩
variable {wi:TI} {ρ:St→St} {σ:St}
theorem Mg(eU:∀R:It→Hp→Prop,(∀J H1,ai H H1→jY J xs H1→R J H1)→wi σ H R)(hn:xs.length<sizeLine)
  (P:Addr→Nat→V→Hp→Prop) (mono:∀D i y H H' ys,P D i y H→H D=some (.lst ys)→(∀b o,b≠D→H b=some o→H' b=some o)→P D i y H')
  (step:∀D i x,xs[i]?=some x→∀(Hc:Hp) (R:VK),ai H Hc→(∃ys,Hc D=some (.lst ys))→(∀y H3,ai Hc H3→P D i y H3→R y H3)→te (some x::ρ σ) Hc R)
  (fin:∀D ys Hc,ai H Hc→ys.length=xs.length→(∀i y,ys[i]?=some y→P D i y Hc)→Hc D=some (.lst ys)→Q (.ref D) Hc):jo wi ρ (fun _ H Q=>Q true H) te σ H Q:=by
 refine eU _ fun J H1 s1 js=>?_;intro D nD;exact Ex (ρσ:=ρ σ) (te:=te) (Q:=Q) js nD hn (P D) (mono D) (fun i x hx Hc R sc=>step D i x hx Hc R (s1.trans sc)) (fun ys Hc sc=>fin D ys Hc (s1.trans sc))
theorem kU{g:TG}{D:Ends}(h:te σ H fun x H1=>g x σ H1 D.nx):mB te g D σ H:=h
theorem bL{a b:TS}{D:Ends}(h:a {D with nx:=fun σ H=>b D σ H} σ H):Dv a b D σ H:=h
section
variable {X:Cx} {N:List Str} {scope:Scope} {cl:List (Str×Addr)} {x:Str} {px pos:Pos} {iter elt:Expr} {ifs:List Expr} {wi:TI} {ρ:St→St} {tt:TT} {te:TE}
theorem AF{y:Str}{py uK:Pos}{i0:Nat}(B:Ay X N scope cl x ρ)(hc:X.calm=true)(hN:X.N.Nodup)(AG:X.N[i0]?=some y)(hy:Loc X.env.scope y)(hi:PI X (.Name x px) iter wi)(ht:∀s₃ H₃ fp,jX (X.aV N scope cl s₃ H₃ fp) ifs tt)(he:∀s₃ H₃ fp,PE (X.aV N scope cl s₃ H₃ fp) elt te)
  (AH:swapsWith (.ListComp elt [⟨.Name x px,iter,ifs,0⟩] scope pos) (some (.Name y py)) uK.line X.env=pure true:=by rfl) (hf:X.fn y=true∨X.env.scope.names.lookup y=some .local:=by first | exact .inl rfl | exact .inr rfl | assumption)
  (hs:∀x,foldedSetIterable iter X.env x=pure x:=by intro _;rfl):PS X (.Assign [.Name y py] (.ListComp elt [⟨.Name x px,iter,ifs,0⟩] scope pos) uK) (mB (jo wi ρ tt te) (aY i0)):=by
 intro pins s σ H D0 I h
 have h:jo wi ρ tt te σ H (fun v H1=>D0.nx (σ.set i0 (some v)) H1):=h
 rw [exec_Assign_Name_used _ _ _ _ AH]
 refine av (lQ (av ?_))
 show wpAny _ X.A (do let _ ←comprehension (.ListComp elt [⟨.Name x px,iter,ifs,0⟩] scope pos) scope X.env _ (newList []) false (eval iter X.env) (some (assign (.Name y py) X.env))) _ _ s
 refine av (bo (Q:=fun _ s'=>SP X pins D0 .next s') ?_ (fun _ s' hq=>bG (bG hq)) fun _ _ e=>e)
 refine wb (use:=some (assign (.Name y py) X.env)) rfl hs B.uE B.kind B.names (aF (hi pins s σ H _ I h) fun v s1 h1=>aF h1 fun qR s2 h2=>?_)
 obtain ⟨it,fp,tn,J,H2,rfl,I2,T,fe,f2,q2⟩:=h2
 have nD:H2 s2.heap.objs.size=none:=I2.au.fresh (aw _)
 obtain ⟨W,⟨m0,w0⟩,turn⟩:=q2 _ nD
 refine tI (wc B.uF (by intro y hy;simp at hy) (fun h₁ eF eG=>?_) B.kind)
 dsimp only at eF eG ⊢
 generalize hD:s2.heap.objs.size=D at nD w0 turn eF eG ⊢
 generalize fV:({s2 with heap:=s2.heap.push {cls:=.type "list",dict:=none,data:=.seq ([]:List Value).toArray}}:Shared)=s3
 have I3:Inv X pins σ (upd H2 D (.lst [])) s3:=by
  subst hD fV
  exact I2.laid (t':=s2.toks) (fun b u e=>bW _ e) (aw _) ⟨bU _,[],_,.nil,dE _ rfl⟩
 have e3:s3.heap=s2.heap.push {cls:=.type "list",dict:=none,data:=.seq ([]:List Value).toArray}:=by rw [←fV]
 have eJ:∀b o,s2.heap.get? b=some o→s3.heap.get? b=some o:=fun b o e=>by rw [e3];exact bW _ e
 rw [←e3] at eF eG ⊢
 have below:∀b o,s3.heap.get? b=some o→b≠s3.heap.objs.size:=fun b o e=>bE (aS e)
 have c_:∀b o,s3.heap.get? b=some o→h₁.get? b=some o:=fun b o e=>eG.extBut b o (below b o e) (bW _ e)
 have fW:∀b∈fp,∃o,s2.heap.get? b=some o∧∀v,o.data≠.cell v:=T.obj _ _ fe
 have og:∀b∈fp,b≠D:=fun b hb z=>by
  obtain ⟨o,e,_⟩:=fW b hb
  rw [z,←hD] at e
  exact absurd (aS e) (dm _)
 have cC:∀y c,cl.lookup y=some c→X.env.cells.lookup y=some c:=fun y c e=>B.sub (y,c) (jH e)
 have oi:=I3.qO
 have dC:(X.aV N scope cl s3 (upd H2 D (.lst [])) fp).Ok:=by
  refine ⟨I.ok.mod,B.kind,I.ok.glob,I.ok.blt,aw _,fun a b c e1 e2=>I.ok.inj a b c (cC a c e1) (cC b c e2),fun y hy=>B.has y hy,(fun _ _ z _=>absurd z cK),(fun _=>I.ok.hd hc),I.ok.frames,.inl rfl,fun b hb=>⟨?_,fun y c e z=>?_⟩,fun b o e=>?_,b5 I.ok.gy I3.sz,fun b o e hb=>?_,fun b hb z=>?_,I3.stack,oi⟩
  ·obtain ⟨o,e,_⟩:=fW b hb
   exact below b o (eJ b o e)
  ·exact (f2 b hb).2.2.2.2.1 y c (cC y c e) z
  ·exact I3.bs b o e
  ·rcases (f2 b hb).2.2.2.1 with z | z
   ·exact I.ok.me b o e z
   ·exact absurd (cT (aS e) (b5 I.ok.gy z)) (dm _)
  ·rcases b3.mp (I3.qN b z) with z | z
   ·exact (f2 b hb).2.1 z
   ·exact (f2 b hb).2.2.1 z
 have IB:∀tk:Nat,Inv (X.aV N scope cl s3 (upd H2 D (.lst [])) fp) [] (none::ρ σ) (upd H2 D (.lst [])) {s3 with heap:=h₁,toks:=tk}:=fun tk=>by
  refine ⟨dC,rfl,I3.bare,Un.kept c_,⟨_,eF,fun j y v e1 e2 e3=>?_⟩,fun y c e=>?_,?_,fun y c e=>I3.gU y c (cC y c e),(fun p hp=>nomatch hp),I3.au.kept c_,?_⟩
  ·cases j with
   | zero=>cases e2
   | succ j=>
    obtain ⟨i,y',a1,a2,a3,a4,a5,a6⟩:=B.uG σ j v e2
    have kT:N[j+1]?=some y:=e1
    rw [kT] at a1
    cases a1
    obtain ⟨m,hn,hl⟩:=I3.loc
    obtain ⟨u,r,l⟩:=hl i y v a2 a3 a4
    refine ⟨u,r,.inr ⟨a6,?_⟩⟩
    obtain ⟨c,ec⟩:=B.has y a6
    rcases l with ⟨k,_⟩ | ⟨_,c',jq,z⟩
    ·rcases a5 with q | q <;> (rw [k] at q;cases q)
    ·have:=cC y c ec
     rw [this] at jq
     cases jq
     obtain ⟨o,ho,hd⟩:=z
     exact ⟨c,ec,o,c_ _ _ ho,hd⟩
  ·obtain ⟨v,o,ho,hd⟩:=I3.cell y c (cC y c e)
   exact ⟨v,o,c_ _ _ ho,hd⟩
  ·exact I3.au.fresh (aw _)
  ·show (none::ρ σ).length=N.length
   rw [cL]
   exact B.len σ I.len
 have ot:∀b o,s3.heap.get? b=some o→b≠s3.heap.objs.size:=below
 have fin:∀{σ':St} {H':Hp} {s':Shared},Inv (X.aV N scope cl s3 (upd H2 D (.lst [])) fp) [] σ' H' s'→D0.nx (σ.set i0 (some (.ref D))) H'→compPost (model X.prog X.w) X.A X.xe (some (assign (.Name y py) X.env)) (fun _ s'=>SP X pins D0 .next s') (.ref D) s3.heap.objs.size (.ok .next) s':=fun{σ' H' s'} J q=>by
  obtain ⟨m,hn,_⟩:=J.loc
  have hn:s'.heap.Ns s3.heap.objs.size m:=hn
  have JC:H' s3.heap.objs.size=none:=J.free
  have u1:Un (cj X.stack) fp (upd H2 D (.lst [])) H' s3.heap s'.heap:=by
   refine ⟨fun b o e n hb hx=>J.base.keep b o e n hb hx,fun b o e n hb hx=>J.base.slot b o e n hb hx,J.base.free,fun b o e hx=>J.base.there b o e hx,J.base.fu,J.base.fc,J.base.fv⟩
  have IX:Inv X pins σ H' s':=I3.mq (ch:=fp) (J.os) u1 J.au J.bare fun b hb=>by
   obtain ⟨g0,g1,g2,g3,g4,g5⟩:=f2 b hb
   exact ⟨g3,g1,g4,g5⟩
  have nl:X.env.locals≠s3.heap.objs.size:=by
   obtain ⟨m3,⟨o3,_,_,e3,_⟩,_⟩:=I3.loc
   exact ot _ _ e3
  have nc:∀z c,X.env.cells.lookup z=some c→c≠s3.heap.objs.size:=fun z c e=>by
   obtain ⟨v3,o3,e3,_⟩:=I3.cell z c e
   exact ot _ _ e3
  refine wpAny_assign_Name (zV (v:=.ref D) IX hN AG hy rfl (fun eE ou oz=>?_) hf)
  obtain ⟨a,oz,ha⟩:=oz
  have na:s3.heap.objs.size≠a:=by
   rcases ha with rfl | e
   ·exact fun z=>nl z.symm
   ·exact fun z=>nc _ _ e z.symm
  refine ⟨m,hn.sameBut oz na,fun h' eK=>⟨σ.set i0 (some (.ref D)),H',?_,q⟩⟩
  have u2:Un (cj X.stack) [s3.heap.objs.size] H' H' eE.heap h':=by
   refine ⟨fun b o e n hb hx=>(eK.2 b (by simpa using hx)).trans e,fun b o e n hb hx=>⟨o.slots,(eK.2 b (by simpa using hx)).trans e⟩,fun b o e n hx=>n,fun b o e hx=>⟨o,(eK.2 b (by simpa using hx)).trans e⟩,fun b xs z=>z,fun b o u z=>z,fun b ps z=>⟨#[],by simpa using z⟩⟩
  have oj:bY X.prog X.w H' h':=fun b u e=>by
   refine (ou.au b u e).iB (fun c v hc z=>(eK.2 c fun y=>?_).trans z) (fun _ z=>z) fun _ _ z=>z
   have y':c=s3.heap.objs.size:=y
   rcases hc with hc | hc
   ·rw [←hc,y',JC] at e
    cases e
   ·rw [y',JC] at hc
    cases hc
  refine ou.mq (s':={eE with heap:=h'}) (ch:=[s3.heap.objs.size]) rfl u2 oj ou.bare fun b hb=>?_
  have eb:b=s3.heap.objs.size:=by simpa using hb
  subst eb
  refine ⟨.inr I3.sz,fun z=>nl z.symm,fun z c e=>nc z c e,fun p hp=>?_⟩
  exact ot _ _ (I3.pin p hp).1
 have eA:∀{H':Hp},(∀b∈fp,H' b=none)→∀b∈fp,jS (X.aV N scope cl s3 (upd H2 D (.lst [])) fp) [] H' b:=fun hn b hb=>by
  refine ⟨hn b hb,?_,?_,.inl hb,fun y c e z=>(f2 b hb).2.2.2.2.1 y c (cC y c e) z,fun p hp=>nomatch hp⟩
  ·obtain ⟨o,e,_⟩:=fW b hb
   exact below b o (eJ b o e)
  ·exact dC.mf b hb
 have loop:∀tk:Nat,codeAny (model X.prog X.w) X.A (.compLoop (.ListComp elt [⟨.Name x px,iter,ifs,0⟩] scope pos) 0 (.ref it) (.ref D) (compEnvC scope cl s3.heap.objs.size X.env))
   (compPost (model X.prog X.w) X.A X.xe (some (assign (.Name y py) X.env)) (fun _ s'=>SP X pins D0 .next s') (.ref D) s3.heap.objs.size) {s3 with heap:=h₁,toks:=tk}:=fun tk=>by
  refine codeAny_compLoop_tests (fun n s'=>∃i ys o H',Inv (X.aV N scope cl s3 (upd H2 D (.lst [])) fp) [] (o::ρ σ) H' s'∧tn i s'.heap∧(∀b∈fp,H' b=none)∧W i n ys H') ?_ m0
   ⟨0,[],none,_,IB tk,T.keep _ _ _ fe fun b hb o e=>c_ _ _ (eJ _ _ e),fun b hb=>by rw [aR (og b hb)];exact (f2 b hb).1,w0⟩
  rintro n s4 ⟨i,ys,o,H4,I4,jr,jt,w4⟩
  obtain ⟨AA,om⟩:=turn i n ys H4 w4
  rcases om with ⟨stop,qn⟩ | ⟨go,step⟩
  ·refine bo (T.done (X.aV N scope cl s3 (upd H2 D (.lst [])) fp) rfl rfl rfl hc i [] s4 _ H4 (fun _ _=>False) I4 (eA jt) jr stop) (fun r s5 ⟨hr,I5⟩=>?_) fun _ _ z=>z.elim
   subst hr
   exact fin I5 qn
  ·refine bo (T.item (X.aV N scope cl s3 (upd H2 D (.lst [])) fp) rfl rfl rfl hc i [] s4 _ H4 (fun _ _=>False) I4 (eA jt) jr go) (fun r s5 ⟨u,hr,h5⟩=>?_) fun _ _ z=>z.elim
   subst hr
   have z:letOwnedTupleGo (.Name x px) (.ref it) u=pure ():=rfl
   rw [z] at h5
   show wpAny _ _ ((pure ():Sem Unit) >>= fun _=>assign (.Name x px) (compEnvC scope cl s3.heap.objs.size X.env) u) _ _ s5
   refine av (bo h5 (fun _ s5 ⟨y,H5,I5,r5,y5,eB,kH⟩=>?_) fun _ _ z=>z.elim)
   have kJ:=I5.pinned (eA kH) (T.obj _ _ eB)
   have pg:PG (X.aV N scope cl s3 (upd H2 D (.lst [])) fp) (.Name x px) (aY 0):=dI (i:=0) B.nd B.n0 (.inl (iw B.hx)) (.inr (iw B.hx))
   have again:∀{σ7:St} {H7:Hp} {s7:Shared},Inv (X.aV N scope cl s3 (upd H2 D (.lst [])) fp) ([]++iE fp s5.heap) σ7 H7 s7→Inv (X.aV N scope cl s3 (upd H2 D (.lst [])) fp) [] σ7 H7 s7∧tn (i+1) s7.heap∧∀b∈fp,H7 b=none:=fun{σ7 H7 s7} I7=>by
    refine ⟨I7.nX,T.keep _ _ _ eB fun b hb o e=>(I7.pin (b,o) (dq _ (dq _ (jT hb e)))).1,fun b hb=>?_⟩
    obtain ⟨o,e,d⟩:=T.obj _ _ eB b hb
    exact (I7.pin (b,o) (dq _ (dq _ (jT hb e)))).2.1
   refine bo (pg _ s5 _ H5 y u (fun σ2 H6=>σ2=some y::ρ σ∧H6=H5) kJ r5 ⟨rfl,rfl⟩) (fun _ s6 ⟨σ6,H6,I6,q6⟩=>?_) fun _ _ z=>z.elim
   obtain ⟨rfl,rfl⟩:=q6
   have oo:=step y _ y5
   have tests:∀{fX:TT},jX (X.aV N scope cl s3 (upd H2 D (.lst [])) fp) ifs fX→∀{R:Bool→Hp→Prop},fX (some y::ρ σ) H6 R→wpAny (model X.prog X.w) X.A
     (forIn ifs true fun c r=>if r=true then do let ok ←isTrue c (compEnvC scope cl s3.heap.objs.size X.env) (eval c (compEnvC scope cl s3.heap.objs.size X.env));pure (ForInStep.yield ok) else pure (ForInStep.yield r))
     (fun ok s7=>∃H7,Inv (X.aV N scope cl s3 (upd H2 D (.lst [])) fp) ([]++iE fp s5.heap) (some y::ρ σ) H7 s7∧R ok H7) (fun _ _=>False) s6:=fun{fX} p {R} hR=>by
    cases p with
    | nil=>exact wd ⟨_,I6,hR⟩
    | one p=>exact we (p _ s6 _ _ _ I6 hR)
   refine bo (tests (ht s3 _ fp) oo) (fun ok s7 ⟨H7,I7,q7⟩=>?_) fun _ _ z=>z.elim
   cases ok with
   | false=>
    obtain ⟨m',fY,w7⟩:=q7
    obtain ⟨a1,a2,a3⟩:=again I7
    exact ⟨m',fY,i+1,ys,_,H7,a1,a2,a3,w7⟩
   | true=>
    refine bo (he s3 _ fp _ s7 _ H7 _ I7 q7) (fun ev s8 ⟨z,H8,I8,r8,oq,hz,m',fY,w8⟩=>?_) fun _ _ z=>z.elim
    refine bo (iJ (X:=X.aV N scope cl s3 (upd H2 D (.lst [])) fp) _ s8 _ H8 (.ref D) [z] (.ref D) [ev] (fun _ H9=>H9=upd H8 D (.lst (ys++[z]))) I8 rfl (.cons r8 .nil) ⟨D,ys,z,rfl,rfl,oq,hz,rfl⟩) (fun _ s9 ⟨_,H9,I9,_,q9⟩=>?_) fun _ _ z=>z.elim
    subst q9
    obtain ⟨a1,a2,a3⟩:=again I9
    exact ⟨m',fY,i+1,ys++[z],_,_,a1,a2,a3,w8⟩
 have start:=loop (s3.toks+([]:List (Str×Value)).length)
 have es:({s3 with heap:=h₁,toks:=s3.toks+([]:List (Str×Value)).length}:Shared)={s2 with heap:=h₁,toks:=s2.toks+([]:List (Str×Value)).length}:=by rw [←fV]
 rw [es] at start
 exact wg start (T.self _ 0 _ _ _ (T.keep _ _ _ fe fun b hb o e=>c_ _ _ (eJ _ _ e)) start)
end
section
variable {X:Cx}
end
section
variable {prog:Program} {w:World} {A:Around} {R:Result→Shared→Prop} {s:Shared}
theorem Ey{elt target iter:Expr}{ifs:List Expr}{scope:Scope}{pos:Pos}{it acc:Value}{env:Env}(I:Nat→Shared→Prop)
  (turn:∀n s,I n s→wpAny (model prog w) A (pyNext it) (fun r s₁=>match r with
   | none=>R (.ok .next) s₁
   | some v=>wpAny (model prog w) A (letOwnedTupleGo target it v) (fun _ s₁=>wpAny (model prog w) A (assign target env v) (fun _ s₂=>
     wpAny (model prog w) A (forIn ifs true fun c r=>if r=true then do let ok ←isTrue c env (eval c env);pure (ForInStep.yield ok) else pure (ForInStep.yield r)) (fun ok s₃=>
      if ok=true then wpAny (model prog w) A (eval elt env) (fun x s₄=>
       wpAny (model prog w) A (call (.builtin "list.append") [acc,x]) (fun _ s₅=>∃m,m<n∧I m s₅) (notedBy (model prog w) A env fun e s'=>R (.error e) s') s₄) (notedBy (model prog w) A env fun e s'=>R (.error e) s') s₃
      else ∃m,m<n∧I m s₃) (notedBy (model prog w) A env fun e s'=>R (.error e) s') s₂) (notedBy (model prog w) A env fun e s'=>R (.error e) s') s₁) (notedBy (model prog w) A env fun e s'=>R (.error e) s') s₁) (notedBy (model prog w) A env fun e s'=>R (.error e) s') s)
  (n:Nat) (h:I n s):codeAny (model prog w) A (.compLoop (.ListComp elt [⟨target,iter,ifs,0⟩] scope pos) 0 it acc env) R s:=by
 refine codeAny_loop rfl I (fun n s hI=>?_) n h
 show wpAny _ A ((compTurn (.ListComp elt [⟨target,iter,ifs,0⟩] scope pos) 0 it acc env).onRaise (fun x=>do noteFrame x env;theTreesLotGoes x)) _ _ s
 refine wpAny_noted ?_
 rw [compTurn_list]
 refine av (lQ (av (bo (turn n s hI) (fun r s₁ h₁=>?_) fun _ _ h'=>h')))
 cases r with
 | none=>exact bG h₁
 | some v=>
  refine av (bo h₁ (fun _ s₁ h₁=>?_) fun _ _ h'=>h')
  refine av (bo h₁ (fun _ s₂ h₂=>av (bo h₂ (fun ok s₃ h₃=>?_) fun _ _ h'=>h')) fun _ _ h'=>h')
  cases ok with
  | false=>exact bG ⟨rfl,h₃⟩
  | true=>
   exact av (av (bo h₃ (fun x s₄ h₄=>av (bo h₄ (fun _ s₅ h₅=>bG (bG ⟨rfl,h₅⟩)) fun _ _ h'=>h')) fun _ _ h'=>h'))
end
def kW(K:aC)(wi:TI)(ρ:St→St)(tt:TT)(te:TE):TE:=fun σ H Q=>wi σ H fun J H1=>∀D,H1 D=none→∃W:Nat→Nat→List V→Hp→Prop,(∃m,W 0 m [] (upd H1 D (.lst []))) ∧
 ∀i m ys Hc,W i m ys Hc→Hc D=some (.lst ys)∧((J.stop i Hc∧Q (.ref D) Hc)∨(J.go i Hc∧∀v H',J.cV i Hc v H'→∃T x1 x2,v=.ref T∧dt K H' T [x1,x2]∧tt (some x1::some x2::ρ σ) H' fun b H2=>
  if b=true then te (some x1::some x2::ρ σ) H2 fun y H3=>H3 D=some (.lst ys)∧ys.length<sizeLine∧∃m',m'<m∧W (i+1) m' (ys++[y]) (upd H3 D (.lst (ys++[y]))) else ∃m',m'<m∧W (i+1) m' ys H2))
section
variable {X:Cx} {N:List Str} {scope:Scope} {cl:List (Str×Addr)} {x y:Str} {px py pos tp:Pos} {jx:Nat} {iter elt:Expr} {ifs:List Expr} {wi:TI} {ρ:St→St} {tt:TT} {te:TE}
structure AI (X:Cx) (N:List Str) (scope:Scope) (cl:List (Str×Addr)) (x y:Str) (ρ:St→St):Prop where
 uE:closureFor scope X.env=pure cl
 kind:scope.kind=.function
 uF:∀y∈scope.names,y.2≠.cell
 names:∀y∈scope.names,y.2=.local→scope.names.lookup y.1=some .local
 sub:∀p∈cl,X.env.cells.lookup p.1=some p.2
 has:∀y,((relabel scope X.env).names.lookup y=some .cell∨(relabel scope X.env).names.lookup y=some .free)→∃c,cl.lookup y=some c
 n0:N[0]?=some x
 n1:N[1]?=some y
 nd:N.Nodup
 hx:scope.names.lookup x=some .local
 hy:scope.names.lookup y=some .local
 uG:∀(σ:St) (j:Nat) (v:V),(ρ σ)[j]?=some (some v)→∃(i:Nat) (y:Str),N[j+1+1]?=some y∧X.N[i]?=some y∧σ[i]?=some (some v)∧nR X.env.scope y∧(X.env.kindOf y=some .cell∨X.env.kindOf y=some .free)∧((relabel scope X.env).names.lookup y=some .cell∨(relabel scope X.env).names.lookup y=some .free)
 len:∀σ:St,σ.length=X.N.length→(ρ σ).length+1+1=N.length
theorem Ez(is:List Nat)(h1:closureFor scope X.env=pure cl)(h:xc X scope N.tail.tail is:=by repeat' first | exact True.intro | refine And.intro ⟨rfl,Or.inr (Or.inl rfl),.inl rfl,.inl rfl⟩ ?_)(h2:scope.kind=.function:=by rfl)(h3:∀y∈scope.names,y.2≠.cell:=by decide +kernel)(h4:∀y∈scope.names,y.2=.local→scope.names.lookup y.1=some .local:=by decide +kernel)(h5:∀p∈cl,X.env.cells.lookup p.1=some p.2:=by repeat' first | exact List.forall_mem_nil _ | refine List.forall_mem_cons.mpr ⟨rfl,?_⟩)(h6:((relabel scope X.env).names.all fun q=>(q.2 != .cell && q.2 != .free) || (cl.lookup q.1).isSome)=true:=by rfl)(h7:N[0]?=some x:=by rfl)(Mh:N[1]?=some y:=by rfl)(h8:N.Nodup:=by decide +kernel)(h9:scope.names.lookup x=some .local:=by rfl)(Mi:scope.names.lookup y=some .local:=by rfl)(hr:∀σ:St,ρ σ=is.map fun i=>σ[i]?.join:=by exact fun _=>rfl)(hl:is.length+1+1=N.length:=by rfl):AI X N scope cl x y ρ:=
 ⟨h1,h2,h3,h4,h5,Er h6,h7,Mh,h8,h9,Mi,fun σ j v e=>by rw [hr] at e;rw [←List.getElem?_tail,←List.getElem?_tail];exact Az h σ j v e,fun σ _=>by rw [hr,aB];exact hl⟩
theorem Mj(B:AI X N scope cl x y ρ)(hc:X.calm=true)(hi:PI X (.Tuple [.Name x px,.Name y py] jx tp) iter wi)(ht:∀s₃ H₃ fp,jX (X.aV N scope cl s₃ H₃ fp) ifs tt)(he:∀s₃ H₃ fp,PE (X.aV N scope cl s₃ H₃ fp) elt te)
  (hs:∀x,foldedSetIterable iter X.env x=pure x:=by intro _;rfl):PE X (.ListComp elt [⟨.Tuple [.Name x px,.Name y py] jx tp,iter,ifs,0⟩] scope pos) (kW X.K wi ρ tt te):=by
 intro pins s σ H Q I h
 rw [eval_ListComp]
 refine wb (use:=none) rfl hs B.uE B.kind B.names (aF (hi pins s σ H _ I h) fun v s1 h1=>aF h1 fun qR s2 h2=>?_)
 obtain ⟨it,fp,tn,J,H2,rfl,I2,T,fe,f2,q2⟩:=h2
 have nD:H2 s2.heap.objs.size=none:=I2.au.fresh (aw _)
 obtain ⟨W,⟨m0,w0⟩,turn⟩:=q2 _ nD
 refine tI (wc B.uF (by intro y hy;simp at hy) (fun h₁ eF eG=>?_) B.kind)
 dsimp only at eF eG ⊢
 generalize hD:s2.heap.objs.size=D at nD w0 turn eF eG ⊢
 generalize fV:({s2 with heap:=s2.heap.push {cls:=.type "list",dict:=none,data:=.seq ([]:List Value).toArray}}:Shared)=s3
 have I3:Inv X pins σ (upd H2 D (.lst [])) s3:=by
  subst hD fV
  exact I2.laid (t':=s2.toks) (fun b u e=>bW _ e) (aw _) ⟨bU _,[],_,.nil,dE _ rfl⟩
 have e3:s3.heap=s2.heap.push {cls:=.type "list",dict:=none,data:=.seq ([]:List Value).toArray}:=by rw [←fV]
 have eJ:∀b o,s2.heap.get? b=some o→s3.heap.get? b=some o:=fun b o e=>by rw [e3];exact bW _ e
 rw [←e3] at eF eG ⊢
 have below:∀b o,s3.heap.get? b=some o→b≠s3.heap.objs.size:=fun b o e=>bE (aS e)
 have c_:∀b o,s3.heap.get? b=some o→h₁.get? b=some o:=fun b o e=>eG.extBut b o (below b o e) (bW _ e)
 have fW:∀b∈fp,∃o,s2.heap.get? b=some o∧∀v,o.data≠.cell v:=T.obj _ _ fe
 have og:∀b∈fp,b≠D:=fun b hb z=>by
  obtain ⟨o,e,_⟩:=fW b hb
  rw [z,←hD] at e
  exact absurd (aS e) (dm _)
 have cC:∀y c,cl.lookup y=some c→X.env.cells.lookup y=some c:=fun y c e=>B.sub (y,c) (jH e)
 have oi:=I3.qO
 have dC:(X.aV N scope cl s3 (upd H2 D (.lst [])) fp).Ok:=by
  refine ⟨I.ok.mod,B.kind,I.ok.glob,I.ok.blt,aw _,fun a b c e1 e2=>I.ok.inj a b c (cC a c e1) (cC b c e2),fun y hy=>B.has y hy,(fun _ _ z _=>absurd z cK),(fun _=>I.ok.hd hc),I.ok.frames,.inl rfl,fun b hb=>⟨?_,fun y c e z=>?_⟩,fun b o e=>?_,b5 I.ok.gy I3.sz,fun b o e hb=>?_,fun b hb z=>?_,I3.stack,oi⟩
  ·obtain ⟨o,e,_⟩:=fW b hb
   exact below b o (eJ b o e)
  ·exact (f2 b hb).2.2.2.2.1 y c (cC y c e) z
  ·exact I3.bs b o e
  ·rcases (f2 b hb).2.2.2.1 with z | z
   ·exact I.ok.me b o e z
   ·exact absurd (cT (aS e) (b5 I.ok.gy z)) (dm _)
  ·rcases b3.mp (I3.qN b z) with z | z
   ·exact (f2 b hb).2.1 z
   ·exact (f2 b hb).2.2.1 z
 have IB:∀tk:Nat,Inv (X.aV N scope cl s3 (upd H2 D (.lst [])) fp) [] (none::none::ρ σ) (upd H2 D (.lst [])) {s3 with heap:=h₁,toks:=tk}:=fun tk=>by
  refine ⟨dC,rfl,I3.bare,Un.kept c_,⟨_,eF,fun j y v e1 e2 e3=>?_⟩,fun y c e=>?_,?_,fun y c e=>I3.gU y c (cC y c e),(fun p hp=>nomatch hp),I3.au.kept c_,?_⟩
  ·cases j with
   | zero=>cases e2
   | succ j=>
   cases j with
   | zero=>cases e2
   | succ j=>
    obtain ⟨i,y',a1,a2,a3,a4,a5,a6⟩:=B.uG σ j v e2
    have kT:N[j+1+1]?=some y:=e1
    rw [kT] at a1
    cases a1
    obtain ⟨m,hn,hl⟩:=I3.loc
    obtain ⟨u,r,l⟩:=hl i y v a2 a3 a4
    refine ⟨u,r,.inr ⟨a6,?_⟩⟩
    obtain ⟨c,ec⟩:=B.has y a6
    rcases l with ⟨k,_⟩ | ⟨_,c',jq,z⟩
    ·rcases a5 with q | q <;> (rw [k] at q;cases q)
    ·have:=cC y c ec
     rw [this] at jq
     cases jq
     obtain ⟨o,ho,hd⟩:=z
     exact ⟨c,ec,o,c_ _ _ ho,hd⟩
  ·obtain ⟨v,o,ho,hd⟩:=I3.cell y c (cC y c e)
   exact ⟨v,o,c_ _ _ ho,hd⟩
  ·exact I3.au.fresh (aw _)
  ·show (none::none::ρ σ).length=N.length
   rw [cL,cL]
   exact B.len σ I.len
 have fin:∀{σ':St} {H':Hp} {s':Shared},Inv (X.aV N scope cl s3 (upd H2 D (.lst [])) fp) [] σ' H' s'→Q (.ref D) H'→compPost (model X.prog X.w) X.A X.xe none (EP X pins σ Q) (.ref D) s3.heap.objs.size (.ok .next) s':=fun{σ' H' s'} J q=>by
  obtain ⟨m,hn,_⟩:=J.loc
  refine ⟨m,hn,fun h' eK=>⟨.ref D,H',?_,rfl,q⟩⟩
  have old:∀b o,s3.heap.get? b=some o→b≠s3.heap.objs.size:=below
  have u1:Un (cj X.stack) fp (upd H2 D (.lst [])) H' s3.heap h':=by
   refine ⟨fun b o e n hb hx=>?_,fun b o e n hb hx=>?_,J.base.free,fun b o e hx=>?_,J.base.fu,J.base.fc,J.base.fv⟩
   ·exact (eK.2 b (old b o e)).trans (J.base.keep b o e n hb hx)
   ·obtain ⟨sl,z⟩:=J.base.slot b o e n hb hx
    exact ⟨sl,(eK.2 b (old b o e)).trans z⟩
   ·obtain ⟨o',z⟩:=J.base.there b o e hx
    exact ⟨o',(eK.2 b (old b o e)).trans z⟩
  have oj:bY X.prog X.w H' h':=fun b u e=>by
   refine (J.au b u e).iB (fun c v hc z=>(eK.2 c fun y=>?_).trans z) (fun _ z=>z) fun _ _ z=>z
   have fr:=J.free
   have y':c=s3.heap.objs.size:=y
   rcases hc with hc | hc
   ·rw [←hc,y'] at e
    exact absurd (fr.symm.trans e) (by simp)
   ·rw [y'] at hc
    exact absurd (fr.symm.trans hc) (by simp)
  refine I3.mq (s':={s' with heap:=h'}) (ch:=fp) (J.os) u1 oj J.bare fun b hb=>?_
  obtain ⟨g0,g1,g2,g3,g4,g5⟩:=f2 b hb
  exact ⟨g3,g1,g4,g5⟩
 have eA:∀{H':Hp},(∀b∈fp,H' b=none)→∀b∈fp,jS (X.aV N scope cl s3 (upd H2 D (.lst [])) fp) [] H' b:=fun hn b hb=>by
  refine ⟨hn b hb,?_,?_,.inl hb,fun y c e z=>(f2 b hb).2.2.2.2.1 y c (cC y c e) z,fun p hp=>nomatch hp⟩
  ·obtain ⟨o,e,_⟩:=fW b hb
   exact below b o (eJ b o e)
  ·exact dC.mf b hb
 have loop:∀tk:Nat,codeAny (model X.prog X.w) X.A (.compLoop (.ListComp elt [⟨.Tuple [.Name x px,.Name y py] jx tp,iter,ifs,0⟩] scope pos) 0 (.ref it) (.ref D) (compEnvC scope cl s3.heap.objs.size X.env))
   (compPost (model X.prog X.w) X.A X.xe none (EP X pins σ Q) (.ref D) s3.heap.objs.size) {s3 with heap:=h₁,toks:=tk}:=fun tk=>by
  refine Ey (fun n s'=>∃i ys o o2 H',Inv (X.aV N scope cl s3 (upd H2 D (.lst [])) fp) [] (o::o2::ρ σ) H' s'∧tn i s'.heap∧(∀b∈fp,H' b=none)∧W i n ys H') ?_ m0
   ⟨0,[],none,none,_,IB tk,T.keep _ _ _ fe fun b hb o e=>c_ _ _ (eJ _ _ e),fun b hb=>by rw [aR (og b hb)];exact (f2 b hb).1,w0⟩
  rintro n s4 ⟨i,ys,o,o2,H4,I4,jr,jt,w4⟩
  obtain ⟨AA,om⟩:=turn i n ys H4 w4
  rcases om with ⟨stop,qn⟩ | ⟨go,step⟩
  ·refine bo (T.done (X.aV N scope cl s3 (upd H2 D (.lst [])) fp) rfl rfl rfl hc i [] s4 _ H4 (fun _ _=>False) I4 (eA jt) jr stop) (fun r s5 ⟨hr,I5⟩=>?_) fun _ _ z=>z.elim
   subst hr
   exact fin I5 qn
  ·refine bo (T.item (X.aV N scope cl s3 (upd H2 D (.lst [])) fp) rfl rfl rfl hc i [] s4 _ H4 (fun _ _=>False) I4 (eA jt) jr go) (fun r s5 ⟨u,hr,h5⟩=>?_) fun _ _ z=>z.elim
   subst hr
   refine bo h5 (fun _ s5 ⟨y0,H5,I5,r5,y5,eB,kH⟩=>?_) fun _ _ z=>z.elim
   obtain ⟨Tt,x1,x2,e0,AJ,oo⟩:=step y0 _ y5
   subst e0
   have kJ:=I5.pinned (eA kH) (T.obj _ _ eB)
   have pg:PG (X.aV N scope cl s3 (upd H2 D (.lst [])) fp) (.Tuple [.Name x px,.Name y py] jx tp) (z8 X.K 2 (uc (aY 0) (uc (aY 1) z7))):=
    ue (X:=X.aV N scope cl s3 (upd H2 D (.lst [])) fp) hc (jR (dI (i:=0) B.nd B.n0 (.inl (iw B.hx)) (.inr (iw B.hx))) (jR (dI (i:=1) B.nd B.n1 (.inl (iw B.hy)) (.inr (iw B.hy))) ud))
   have again:∀{σ7:St} {H7:Hp} {s7:Shared},Inv (X.aV N scope cl s3 (upd H2 D (.lst [])) fp) ([]++iE fp s5.heap) σ7 H7 s7→Inv (X.aV N scope cl s3 (upd H2 D (.lst [])) fp) [] σ7 H7 s7∧tn (i+1) s7.heap∧∀b∈fp,H7 b=none:=fun{σ7 H7 s7} I7=>by
    refine ⟨I7.nX,T.keep _ _ _ eB fun b hb o e=>(I7.pin (b,o) (dq _ (dq _ (jT hb e)))).1,fun b hb=>?_⟩
    obtain ⟨o,e,d⟩:=T.obj _ _ eB b hb
    exact (I7.pin (b,o) (dq _ (dq _ (jT hb e)))).2.1
   refine bo (pg _ s5 _ H5 (.ref Tt) u (fun σ2 H6=>σ2=some x1::some x2::ρ σ∧H6=H5) kJ r5 ⟨Tt,_,rfl,AJ,rfl,_,_,rfl,_,_,rfl,rfl,rfl,rfl⟩) (fun _ s6 ⟨σ6,H6,I6,q6⟩=>?_) fun _ _ z=>z.elim
   obtain ⟨rfl,rfl⟩:=q6
   have tests:∀{fX:TT},jX (X.aV N scope cl s3 (upd H2 D (.lst [])) fp) ifs fX→∀{R:Bool→Hp→Prop},fX (some x1::some x2::ρ σ) H6 R→wpAny (model X.prog X.w) X.A
     (forIn ifs true fun c r=>if r=true then do let ok ←isTrue c (compEnvC scope cl s3.heap.objs.size X.env) (eval c (compEnvC scope cl s3.heap.objs.size X.env));pure (ForInStep.yield ok) else pure (ForInStep.yield r))
     (fun ok s7=>∃H7,Inv (X.aV N scope cl s3 (upd H2 D (.lst [])) fp) ([]++iE fp s5.heap) (some x1::some x2::ρ σ) H7 s7∧R ok H7) (fun _ _=>False) s6:=fun{fX} p {R} hR=>by
    cases p with
    | nil=>exact wd ⟨_,I6,hR⟩
    | one p=>exact we (p _ s6 _ _ _ I6 hR)
   refine bo (tests (ht s3 _ fp) oo) (fun ok s7 ⟨H7,I7,q7⟩=>?_) fun _ _ z=>z.elim
   cases ok with
   | false=>
    obtain ⟨m',fY,w7⟩:=q7
    obtain ⟨a1,a2,a3⟩:=again I7
    exact ⟨m',fY,i+1,ys,_,_,H7,a1,a2,a3,w7⟩
   | true=>
    refine bo (he s3 _ fp _ s7 _ H7 _ I7 q7) (fun ev s8 ⟨z,H8,I8,r8,oq,hz,m',fY,w8⟩=>?_) fun _ _ z=>z.elim
    refine bo (iJ (X:=X.aV N scope cl s3 (upd H2 D (.lst [])) fp) _ s8 _ H8 (.ref D) [z] (.ref D) [ev] (fun _ H9=>H9=upd H8 D (.lst (ys++[z]))) I8 rfl (.cons r8 .nil) ⟨D,ys,z,rfl,rfl,oq,hz,rfl⟩) (fun _ s9 ⟨_,H9,I9,_,q9⟩=>?_) fun _ _ z=>z.elim
    subst q9
    obtain ⟨a1,a2,a3⟩:=again I9
    exact ⟨m',fY,i+1,ys++[z],_,_,_,a1,a2,a3,w8⟩
 have start:=loop (s3.toks+([]:List (Str×Value)).length)
 have es:({s3 with heap:=h₁,toks:=s3.toks+([]:List (Str×Value)).length}:Shared)={s2 with heap:=h₁,toks:=s2.toks+([]:List (Str×Value)).length}:=by rw [←fV]
 rw [es] at start
 exact wg start (T.self _ 0 _ _ _ (T.keep _ _ _ fe fun b hb o e=>c_ _ _ (eJ _ _ e)) start)
end
section
variable {X:Cx}
def Mk(K:aC):List V→Hp→VK→Prop:=fun xs H Q=>∃(p:Addr) (ns:List Int),xs=[.ref p]∧bC K H p (ns.map V.int)∧Q (.int ns.sum) H
theorem Ml:∀(ns:List Int),preSum (fun i=>ns.getD i 0) ns.length=ns.sum:=by
 intro ns;have key:∀k,k≤ns.length→preSum (fun i=>ns.getD i 0) k=(ns.take k).sum:=by
  intro k
  induction k with
  | zero=>intro _;rfl
  | succ k ih=>
   intro hk;show preSum (fun i=>ns.getD i 0) k+ns.getD k 0=_;rw [ih (by omega),List.take_add_one,List.sum_append]
   have e:ns[k]?=some ns[k]:=by simp [show k<ns.length by omega]
   rw [ei,e];simp
 rw [key ns.length (aw _),jJ]
theorem EA{K:aC}(hc:X.calm=true)(hK:X.K=K:=by rfl):eC X (.builtin "sum") (Mk K):=by
 intro pins s σ H xs us Q I r h;subst hK;obtain ⟨p,ns,rfl,hq,q⟩:=h;obtain ⟨u,rfl,ru⟩:=vals1 r;cases ru;obtain ⟨ah,rv,pl,hz⟩:=I.list hq;have uH:p≠s.heap.objs.size:=by obtain ⟨o,e,_⟩:=pl.isList;exact bE (aS e)
 have hl:ah.length=ns.length:=by rw [←rv.length,aB]
 refine call_sum_walkG (v_ pl.isList ?_);refine ⟨s.heap.objs.size,_,_,_,_,_,fun i=>ns.getD i 0,rfl,Walks.list (A:=X.A.in1) (show X.A.in1.handled=none from I.ok.hd hc) s.heap.objs.size p uH ah.toArray,⟨⟨_,dE _ rfl,rfl,rfl⟩,pl.isList.push _⟩,?_,fun i v hv=>?_,fun h' tk t' hk=>?_⟩
 ·intro b hb
  rw [Heap.size_push];simp only [b3,nG,or_false] at hb;rcases hb with rfl | rfl;·exact Nat.lt_succ_self _
  ·obtain ⟨o,e,_⟩:=pl.isList
   exact jK (aS e)
 ·have ju:ah[i]?=some v:=by simpa using hv
  cases eb:ns[i]? with
  | none=>
   have:=rv.none_of (i:=i) (by rw [bt,eb];rfl)
   rw [this] at ju;cases ju
  | some b=>
   obtain ⟨u,hu,ru⟩:=rv.get (i:=i) (x:=V.int b) (by rw [bt,eb];rfl)
   rw [hu] at ju;cases ju;obtain ⟨t,rfl⟩:=ru;exact ⟨t,by show Value.int b t=Value.int (ns.getD i 0) t;rw [ei,eb];rfl⟩
 ·refine ⟨.int ns.sum,H,I.kept fun b o e=>hk b o (fun z=>?_) (bW _ e),⟨t',?_⟩,q⟩
  ·exact absurd (aS e) (by rw [cg.mp z];exact dm _)
  ·congr 1
   rw [bP,hl];exact Ml ns
end
theorem boot_sum:bootBuiltins "sum"=some (.builtin "sum"):=by decide +kernel
section
variable {M:Model} {A:Around} {E:aE} {s:Shared}
end
section
variable {X:Cx} {N:List Str} {scope:Scope} {cl:List (Str×Addr)} {x:Str} {px pos:Pos} {iter elt:Expr} {ifs:List Expr} {wi:TI} {ρ:St→St} {tt:TT} {te:TE}
end
theorem EB{v:V}(h:jl v=true):iI v v=true:=by
 cases v with
 | aN=>rfl
 | bl b=>show (b == b)=true;simp
 | int i=>show (i == i)=true;simp
 | str x=>show (x == x)=true;simp
 | _=>cases h
theorem all_range(n:Nat):(List.range n).all (fun _=>true)=true:=by simp
section
variable {X:Cx} {pins:aP} {σ:St} {H:Hp} {s:Shared}
end
section
variable {X:Cx}
end
section
variable {X:Cx} {N:List Str} {scope:Scope} {cl:List (Str×Addr)} {x:Str} {px pos:Pos} {iter elt:Expr} {ifs:List Expr} {wi:TI} {ρ:St→St} {tt:TT} {te:TE}
end
structure EC (J:It) (zs:List (V×V)) (H1:Hp):Prop where
 go:∀i Hc,ai H1 Hc→i<zs.length→J.go i Hc
 cV:∀i Hc v H',ai H1 Hc→J.cV i Hc v H'→∃T x y,v=.ref T∧Hc T=none∧H'=upd Hc T (.tup [x,y])∧(i<zs.length→zs[i]?=some (x,y))
 stop:∀i Hc,ai H1 Hc→zs.length≤i→J.stop i Hc
theorem qZ(eU:∀R:It→Hp→Prop,(∀J H1,ai H H1→jY J xs H1→R J H1)→wi σ H R)(hn:xs.length<sizeLine)
  (P:Addr→Nat→V→Hp→Prop) (mono:∀D i y H H' ys,P D i y H→H D=some (.lst ys)→(∀b o,b≠D→H b=some o→H' b=some o)→P D i y H')
  (step:∀D i x,xs[i]?=some x→∀(Hc:Hp) (R:VK),ai H Hc→(∃ys,Hc D=some (.lst ys))→(∀y H3,ai Hc H3→P D i y H3→R y H3)→te (some x::ρ σ) Hc R)
  (fin:∀D ys Hc,H D=none→ai H Hc→ys.length=xs.length→(∀(i:Nat) (y:V),ys[i]?=some y→P D i y Hc)→Hc D=some (.lst ys)→Q (.ref D) Hc):jo wi ρ (fun _ H Q=>Q true H) te σ H Q:=by
 refine eU _ fun J H1 s1 js=>?_;intro D nD;have hD:H D=none:=by
  cases e:H D with
  | none=>rfl
  | some o=>rw [s1 _ _ e] at nD;cases nD
 exact Ex (ρσ:=ρ σ) (te:=te) (Q:=Q) js nD hn (P D) (mono D) (fun i x hx Hc R sc=>step D i x hx Hc R (s1.trans sc)) (fun ys Hc sc=>fin D ys Hc hD (s1.trans sc))
section
variable {X:Cx} {K:aC}
theorem xh(hK:X.K=K:=by rfl):uw X (D9 K):=by subst hK;exact dv
def Mm(K:aC):List V→Hp→VK→Prop:=fun xs H Q=>∃p ys,xs=[.ref p]∧(bC K H p ys∨dt K H p ys)∧Q (.int (ys.length:Int)) H
theorem ED(hK:X.K=K:=by rfl):eC X (.builtin "len") (Mm K):=by subst hK;exact jm
end
end L2
namespace My
open PySem L2
variable {te:TE} {σ:St} {H:Hp} {Q:VK}
theorem xi{r:List V→Hp→VK→Prop}(h:te σ H fun x H1=>r [x] H1 Q):wR r (uu te Ah) σ H Q:=h
theorem AK{D:Ends}(h:te σ H D.rt):Dw te D σ H:=h
theorem Mn{vs:List V}{b:Bool}(h:∀(i:Nat) (v:V),vs[i]?=some v→v=.bl b):vs=(List.replicate vs.length b).map V.bl:=by
 refine tP fun i=>?_;rw [bt];by_cases hi:i<vs.length
 ·rw [show vs[i]?=some vs[i] by simp [hi],h i vs[i] (by simp [hi])]
  simp [hi]
 ·rw [lT (by omega),lT (by simp;omega)]
  rfl
theorem Mo(n:Nat):(List.replicate n true).all id=true:=by simp
theorem AL{r:R2}{ta tb:TE}(h:ta σ H fun x H1=>tb σ H1 fun y H2=>r x y H2 Q):mF r ta tb σ H Q:=h
variable {i:Nat}
theorem Mp{n:Nat}{v:V}(h:((List.range n).map fun i:Nat=>V.int (0+(i:Int)))[i]?=some v):i<n∧v=.int (i:Int):=by
 have aX:i<n:=by have:=(b9.mp h).1;simpa using this
 refine ⟨aX,?_⟩;rw [bt] at h;simp [aX] at h;exact h.symm
variable {H':Hp} {b:Addr}
theorem none_of(s:ai H H')(h:H' b=none):H b=none:=by
 cases e:H b with
 | none=>rfl
 | some o=>rw [s _ _ e] at h;cases h
theorem getD_at{α:Type}{xs:List α}{d:α}(hi:i<xs.length):xs.getD i d=xs[i]:=by
 rw [ei,show xs[i]?=some xs[i] by simp [hi]]
 rfl
def er(P:Addr)(H:Hp):Hp:=fun b=>if b=P then none else H b
variable {P:Addr}
theorem oA:ai (er P H) H:=fun b o e=>by
 unfold er at e
 split at e
 ·cases e
 ·exact e
theorem xj(h:b≠P):er P H b=H b:=aa h
variable {o:HO}
theorem AM(h:b≠P)(e:H b=some o):er P H b=some o:=by rw [xj h];exact e
theorem Mq(s:ai H H'):ai (er P H) (er P H'):=fun b o e=>by
 unfold er at e ⊢
 split at e
 ·cases e
 ·rename_i h
  rw [aa h];exact s _ _ e
theorem EE:er P (upd H P o)=er P H:=funext fun b=>by
 unfold er
 split
 ·rfl
 ·rename_i h
  exact aR h
def dX(H:Hp)(P a:Addr):Prop:=∃x y:Int,H P=some (.lst [.ref a,.int x,.int y])∧0≤x∧0≤y
variable {a:Addr}
theorem dX.mono(h:dX H P a)(s:ai H H'):dX H' P a:=by obtain ⟨x,y,e,h1,h2⟩:=h;exact ⟨x,y,s _ _ e,h1,h2⟩
variable {D:Addr}
theorem dX.upd(h:dX H P a)(n:D≠P):dX (L2.upd H D o) P a:=by obtain ⟨x,y,e,h1,h2⟩:=h;exact ⟨x,y,by rw [aR n.symm];exact e,h1,h2⟩
theorem dX.ne(h:dX H P a)(n:H D=none):D≠P:=fun z=>by obtain ⟨x,y,e,_⟩:=h;rw [z,e] at n;cases n
def aJ(P:Addr)(H H':Hp):Prop:=ai (er P H) (er P H')
theorem aJ.refl(H:Hp):aJ P H H:=ai.refl _
theorem aJ.trans{H2:Hp}(s:aJ P H H')(t:aJ P H' H2):aJ P H H2:=ai.trans s t
theorem aJ.of(s:ai H H'):aJ P H H':=Mq s
theorem aJ.jZ:aJ P H (upd H P o):=by unfold aJ;rw [EE];exact ai.refl _
theorem aJ.but(s:aJ P H H')(n:H D=none):aJ P H (upd H' D o):=fun b u e=>by
 have e0:=s b u e;have nb:b≠P:=fun z=>by unfold er at e;rw [ae z] at e;cases e
 rw [xj nb] at e e0 ⊢;rw [aR (jd e n)];exact e0
theorem aJ.at(s:aJ P H H')(nb:b≠P)(e:H b=some o):H' b=some o:=by have z:=s b o (AM nb e);rw [xj nb] at z;exact z
end My
namespace L2
open PySem PySem.Spec PyProof.Rows
end L2
namespace My
open PySem L2
def Mr:Sp:=fun vs H Q _=>∃c a:Int,vs=[.int c,.int a]∧0≤a∧∀r:Int,0≤r→Q (.int r) H
def Ms(K:aC):Sp:=fun vs H Q _=>∃(P a:Addr) (ns:List Int) (many:Int),vs=[.ref P,.int many]∧dX H P a∧bC K (er P H) a (ns.map V.int)∧1≤many∧iL many∧∀(r:Int) (H':Hp),0≤r→r<many→aJ P H H'→dX H' P a→Q (.int r) H'
end My
namespace L2
open PySem PySem.Spec PyProof.Rows
end L2
namespace My
open PySem L2
end My
namespace L2
open PySem PySem.Spec PyProof.Rows
def q5(K:aC)(l:Addr):It:=
  ⟨fun i H=>∃xs x,bC K H l xs∧xs[i]?=some x,
   fun i H v H'=>∃T x,H T=none∧v=.ref T∧H'=upd H T (.tup [.int (i:Int),x])∧∀xs,bC K H l xs→xs[i]?=some x,
   fun i H=>∃xs,bC K H l xs∧xs.length≤i⟩
variable {K:aC} {l:Addr}
theorem Mt{P:Program}{w:World}{elts:List Expr}{k:Nat}{pos:Pos}{e it:Addr}(EF:e≠it):Turn P w K (.Tuple elts k pos) (q5 K l) [e,it] e
  (fun i h=>(∃old,IsEnum h e it (i:Int) old)∧h.IsListIter it l i) where
 mem:=by simp
 obj:=fun i h st b hb=>by
  obtain ⟨⟨old,he⟩,h1⟩:=st;simp only [b3,nG,or_false] at hb;rcases hb with rfl | rfl;·exact ⟨_,he,fun v z=>by cases z⟩
  ·obtain ⟨o,e,c,d⟩:=h1
   exact ⟨o,e,fun v z=>by rw [d] at z;cases z⟩
 keep:=fun i h h' st k=>by obtain ⟨⟨old,he⟩,h1⟩:=st;exact ⟨⟨old,k _ (by simp) _ he⟩,h1.at fun o e=>k _ (by simp) o e⟩
 item:=by
  intro X hP hw hK hc i pins s σ H E I hf st hg;subst hP hw hK;obtain ⟨⟨old,he⟩,h1⟩:=st;obtain ⟨xs,x,q8,hx⟩:=hg;obtain ⟨ah,rv,p,_⟩:=I.list q8;obtain ⟨u,hu,ru⟩:=rv.get hx;refine wpAny_pyNext_enum_item he h1 p.isList (x:=u) (by simpa using hu) EF fun h' g1 g2 g3 g4 g5=>⟨_,rfl,?_⟩
  refine wpAny_letOwnedTupleGo_enum g1 fun xk q1 sb=>?_;have EG:H s.heap.objs.size=none:=I.au.fresh (aw _);have lt:∀b o,s.heap.get? b=some o→b≠s.heap.objs.size:=fun b o e=>bE (aS e);have keep:∀b o,b∉[e,it]→s.heap.get? b=some o→xk.get? b=some o:=fun b o nb e=>by simp only [b3,nG,or_false,not_or] at nb;exact sb.extBut _ _ nb.1 (g5 b o nb.1 nb.2 e)
  have elt:e≠s.heap.objs.size:=lt _ _ he;have pT:=sb.extBut _ _ elt.symm g3;have uL:∀{b:Addr} {o:HO} (e:H b=some o),upd H s.heap.objs.size (.tup [.int (i:Int),x]) b=some o:=fun e=>by rw [aR (jd e EG)];exact e
  have au:bY X.prog X.w (upd H s.heap.objs.size (.tup [.int (i:Int),x])) xk:=fun b o e=>by
   by_cases hb:b=s.heap.objs.size
   ·subst hb
    rw [ar] at e;cases e;exact ⟨by show 2≤sizeLine;decide,[.int i s.toks,u],.cons ⟨_,rfl⟩ (.cons ru .nil),⟨_,pT,rfl,_,rfl⟩⟩
   ·rw [aR hb] at e
    refine (I.au b o e).iB (fun c v iC q=>keep c v (fun m=>?_) q) (fun c q=>uL q) fun c xs q=>uL q;have nn:=(hf c m).1;rcases iC with rfl | iC;·rw [nn] at e;cases e
    ·rw [nn] at iC;cases iC
  have u1:Un (cj X.stack) [e,it] H (upd H s.heap.objs.size (.tup [.int (i:Int),x])) s.heap xk:=
   ⟨fun b o e n _ hx=>keep b o hx e,fun b o e n _ hx=>⟨o.slots,keep b o hx e⟩,fun b o e n hx=>by rw [aR (lt b o e)];exact n,fun b o e hx=>⟨o,keep b o hx e⟩,fun b xs e=>uL e,fun b o u e=>uL e,fun b ps e=>⟨#[],by rw [uL e];simp⟩⟩
  refine ⟨.ref s.heap.objs.size,upd H s.heap.objs.size (.tup [.int (i:Int),x]),I.mq (s':={s with heap:=xk,toks:=s.toks+1}) (ch:=[e,it]) rfl u1 au I.bare (fun b hb=>?_),rfl,⟨_,x,EG,rfl,rfl,fun as ha=>by rw [I.Du ha q8];exact hx⟩,?_,fun b hb=>?_⟩
  ·obtain ⟨f0,f1,f2,f3,f4,f5⟩:=hf b hb
   exact ⟨f3,f1,f4,f5⟩
  ·refine ⟨⟨u,?_⟩,g2.extBut sb.extBut EF.symm⟩
   have z:((i+1:Nat):Int)=(i:Int)+1:=by omega
   rw [z];exact q1
  ·have nb:b≠s.heap.objs.size:=by
    simp only [b3,nG,or_false] at hb;rcases hb with rfl | rfl;·exact lt _ _ he
    ·obtain ⟨o,e,_⟩:=h1;exact lt _ _ e
   rw [aR nb];exact (hf b hb).1
 done:=by
  intro X hP hw hK hc i pins s σ H E I hf st hg;subst hP hw hK;obtain ⟨⟨old,he⟩,h1⟩:=st;obtain ⟨xs,q8,hx⟩:=hg;obtain ⟨ah,rv,p,_⟩:=I.list q8;have hl:=rv.length;refine wpAny_pyNext_enum_end (I.ok.hd hc) he h1 p.isList (by simp;omega) fun h' g=>⟨rfl,?_⟩
  have keep:∀b o,b∉[e,it]→s.heap.get? b=some o→h'.get? b=some o:=fun b o nb e=>by simp only [b3,nG,or_false,not_or] at nb;exact g b o nb.2 e
  have au:bY X.prog X.w H h':=fun b o e=>by
   refine (I.au b o e).iB (fun c v iC q=>keep c v (fun m=>?_) q) (fun c q=>q) fun c xs q=>q;have nn:=(hf c m).1;rcases iC with rfl | iC;·rw [nn] at e;cases e
   ·rw [nn] at iC;cases iC
  have u1:Un (cj X.stack) [e,it] H H s.heap h':=
   ⟨fun b o e n _ hx=>keep b o hx e,fun b o e n _ hx=>⟨o.slots,keep b o hx e⟩,fun b o e n hx=>n,fun b o e hx=>⟨o,keep b o hx e⟩,fun b xs e=>e,fun b o u e=>e,fun b ps e=>⟨#[],by rw [e];simp⟩⟩
  refine I.mq (s':={s with heap:=h'}) (ch:=[e,it]) rfl u1 au I.bare fun b hb=>?_;obtain ⟨f0,f1,f2,f3,f4,f5⟩:=hf b hb;exact ⟨f3,f1,f4,f5⟩
 self:=fun _ _ _ _ _ st h=>by obtain ⟨⟨old,he⟩,_⟩:=st;exact wpAny_pyIter_enum he h
theorem boot_enumerate:bootBuiltins "enumerate"=some (.type "enumerate"):=by decide +kernel
def Mu(K:aC)(ta:TA):TI:=fun σ H R=>ta σ H fun vs H1=>∃l,vs=[.ref l]∧(∃xs,bC K H1 l xs)∧R (q5 K l) H1
section
variable {X:Cx}
theorem EH{elts:List Expr}{k:Nat}{wO:Pos}{a:Expr}{ta:TA}{p pos:Pos}(hg:Gl X "enumerate")(hm:X.mg "enumerate"=none)(ha:PA X [a] ta)(hs:starEach [a] X.env=[(false,eval a X.env)]:=by rfl) :
  PI X (.Tuple elts k wO) (.Call (.Name "enumerate" p) [a] [] pos) (Mu X.K ta):=by
 intro pins s σ H R I h;refine Call_ (mw I hg hm boot_enumerate (zD (aF (ha pos pins s σ H _ I h) fun us s1 ⟨vs,H1,I1,r1,q1⟩=>?_) hs rfl));obtain ⟨l,e,⟨xs,q8⟩,q⟩:=q1;subst e;obtain ⟨u,rfl,ru⟩:=vals1 r1;cases ru;obtain ⟨ah,rv,p1,_⟩:=I1.list q8;refine call_enumerate_list p1.isList fun h' z1 z2 z3 z4=>?_;refine wpAny_pyIter_enum (s:={s1 with heap:=h'}) z1 ?_;refine ⟨_,_,_,_,H1,rfl,I1.kept (t':=s1.toks) z4,Mt (Nat.succ_ne_self _),⟨⟨_,z1⟩,z2⟩,fun b hb=>?_,q⟩;have le:s1.heap.objs.size≤b:=by
  simp only [b3,nG,or_false] at hb;rcases hb with rfl | rfl;·exact Nat.le_add_right ..
  ·exact aw _
 exact I1.uh le (I1.au.fresh le)
end
theorem Mv{xs:List V}{g:TG}{tb:TS}{D:Ends}{σ:St}{H:Hp}(Pv:Nat→St→Hp→Prop)(h0:Pv 0 σ H)(hl:∀i σ H,Pv i σ H→bC K H l xs)
  (hs:∀(i:Nat) (x:V) σ H T,xs[i]?=some x→Pv i σ H→H T=none→g (.ref T) σ (upd H T (.tup [.int (i:Int),x])) fun σ2 H2=>tb {D with nx:=Pv (i+1),ct:=Pv (i+1),bk:=D.nx} σ2 H2) (hd:∀σ H,Pv xs.length σ H→D.nx σ H) :
  ∃W:Nat→Nat→St→Hp→Prop,(∃m,W 0 m σ H)∧∀i m σ H,W i m σ H→
   ((q5 K l).stop i H∧D.nx σ H)∨((q5 K l).go i H∧∃N:St→Hp→Prop,(∀σ' H',N σ' H'→∃m',m'<m∧W (i+1) m' σ' H')∧∀x H',(q5 K l).cV i H x H'→g x σ H' fun σ2 H2=>tb {D with nx:=N,ct:=N,bk:=D.nx} σ2 H2):=by
 refine ⟨fun i m σ H=>m=xs.length-i∧i≤xs.length∧Pv i σ H,⟨xs.length,by simp,bU _,h0⟩,?_⟩
 rintro i m σ H ⟨rfl,hi,p⟩;have q1:=hl i σ H p;by_cases ba:i<xs.length
 ·refine .inr ⟨⟨xs,xs[i],q1,by simp [ba]⟩,Pv (i+1),fun σ' H' p'=>⟨xs.length-(i+1),by omega,rfl,ba,p'⟩,fun v H' hy=>?_⟩
  obtain ⟨T,x,nT,rfl,rfl,hx⟩:=hy;exact hs i x σ H T (hx xs q1) p nT
 ·have e:i=xs.length:=by omega
  subst e;exact .inl ⟨⟨xs,q1,aw _⟩,hd σ H p⟩
end L2
namespace My
open PySem L2
end My
namespace L2
open PySem PySem.Spec PyProof.Rows
section
variable {X:Cx} {tg:Expr}
end
section
variable {X:Cx} {e:Expr} {te:TE} {pos p2:Pos}
end
end L2
namespace My
open PySem L2
theorem EI{wi:TI}{ρ:St→St}{te:TE}{σ:St}{H:Hp}{Q:VK}{xs:List V}{n:Nat}(hl:xs.length=n)(eU:∀R:It→Hp→Prop,(∀J H1,ai H H1→jY J xs H1→R J H1)→wi σ H R)(hn:n<sizeLine)
  (P:Addr→Nat→Addr→Hp→Prop) (mono:∀D i y H H' ys,P D i y H→y≠D→H D=some (.lst ys)→(∀b o,b≠D→H b=some o→H' b=some o)→P D i y H')
  (step:∀D (i:Nat) (x:V),xs[i]?=some x→∀(Hc:Hp) (R:VK),ai H Hc→(∃ys,Hc D=some (.lst ys))→(∀y H3,ai Hc H3→Hc y=none→(∃o,H3 y=some o)→P D i y H3→R (.ref y) H3)→te (some x::ρ σ) Hc R)
  (fin:∀D (A:Nat→Addr) Hc,H D=none→ai H Hc→(∀i j,i<n→j<n→A i=A j→i=j)→(∀i,i<n→P D i (A i) Hc∧A i≠D)→Hc D=some (.lst ((List.range n).map fun i=>V.ref (A i)))→Q (.ref D) Hc):jo wi ρ (fun _ H Q=>Q true H) te σ H Q:=by
 refine eU _ fun J H1 s1 js=>?_;intro D nD;have hD:H D=none:=by
  cases e:H D with
  | none=>rfl
  | some o=>rw [s1 _ _ e] at nD;cases nD
 refine ⟨fun i m ys Hc=>m=n-i∧i≤n∧Hc D=some (.lst ys)∧ai H1 Hc∧∃A:Nat→Addr,ys=(List.range i).map (fun j=>V.ref (A j))∧(∀a b,a<i→b<i→A a=A b→a=b)∧∀j,j<i→P D j (A j) Hc∧A j≠D∧∃o,Hc (A j)=some o,⟨_,rfl,bU _,ar,dW (ai.refl H1) nD,fun _=>D,rfl,(fun a b h=>by omega),fun j h=>by omega⟩,?_⟩
 rintro i m ys Hc ⟨rfl,hi,eD,sH,A,rfl,inj,hA⟩;refine ⟨eD,?_⟩;by_cases ba:i<n
 ·refine .inr ⟨js.go i Hc sH (by omega),fun x H' hy=>?_⟩
  obtain ⟨rfl,hx⟩:=js.cV i Hc x H' sH hy;rw [ae rfl];refine step D i x (hx (by omega)) _ _ (s1.trans sH) ⟨_,eD⟩ fun y H3 s3 ny ⟨o,ho⟩ hp=>?_
  have e3:=s3 _ _ eD;have yD:y≠D:=fun e=>by rw [e,eD] at ny;cases ny
  have cu:∀b o,b≠D→H3 b=some o→upd H3 D (.lst ((List.range i).map (fun j=>V.ref (A j))++[.ref y])) b=some o:=fun b o nb e=>by rw [aR nb];exact e
  have nA:∀j,j<i→A j≠y:=fun j hj e=>by obtain ⟨_,_,o',h'⟩:=hA j hj;rw [e,ny] at h';cases h'
  refine ⟨e3,by simp;omega,n-(i+1),by omega,rfl,ba,ar,dW (sH.trans s3) nD,fun j=>if j=i then y else A j,?_,fun a b ha hb e=>?_,fun j hj=>?_⟩
  ·rw [tQ,dR]
   congr 1
   ·refine fj fun j hj=>?_
    dsimp only;rw [aa (by have:=aQ.mp hj;omega)]
   ·simp
  ·dsimp only at e
   by_cases z1:a=i
   ·by_cases z2:b=i
    ·omega
    ·rw [ae z1,aa z2] at e
     exact absurd e.symm (nA b (by omega))
   ·by_cases z2:b=i
    ·rw [aa z1,ae z2] at e
     exact absurd e (nA a (by omega))
    ·rw [aa z1,aa z2] at e
     exact inj a b (by omega) (by omega) e
  ·dsimp only
   by_cases z:j=i
   ·rw [ae z,z]
    exact ⟨mono D i y H3 _ _ hp yD e3 cu,yD,o,cu _ _ yD ho⟩
   ·rw [aa z]
    obtain ⟨h1,h2,o',h3⟩:=hA j (by omega)
    exact ⟨mono D j (A j) H' _ _ h1 h2 eD (fun b o nb e=>cu b o nb (s3 _ _ e)),h2,o',cu _ _ h2 (s3 _ _ h3)⟩
 ·have e:i=n:=by omega
  subst e;exact .inl ⟨js.stop _ Hc sH (by omega),fin D A Hc hD (s1.trans sH) inj (fun j hj=>⟨(hA j hj).1,(hA j hj).2.1⟩) eD⟩
end My
namespace L2
open PySem PySem.Spec PyProof.Rows
theorem Mw{xs ys:List Int}(h:xs.length=ys.length):((List.range xs.length).all fun j=>iI (.int (xs.getD j 0)) (.int (ys.getD j 0)))=decide (xs=ys):=by
 by_cases e:xs=ys
 ·subst e
  rw [cf rfl,gv];intro j _;exact EB rfl
 ·rw [bV e]
  cases z:((List.range xs.length).all fun j=>iI (.int (xs.getD j 0)) (.int (ys.getD j 0))) with
  | false=>rfl
  | true=>refine absurd (i9 h fun j h1 h2=>?_) e;have:=gv.mp z j (aQ.mpr h1);have this:(xs.getD j 0 == ys.getD j 0)=true:=this;rw [beq_iff_eq,ei,ei] at this;simpa [h1,h2] using this
end L2
namespace My
open PySem L2
end My
namespace L2
open PySem PySem.Spec PyProof.Rows
end L2
namespace My
open PySem L2
end My
namespace L2
open PySem PySem.Spec PyProof.Rows
section
variable {X:Cx}
end
end L2
namespace My
open PySem L2
end My
namespace L2
open PySem PySem.Spec PyProof.Rows
end L2
namespace My
open PySem L2
end My
namespace L2
open PySem PySem.Spec PyProof.Rows
section
variable {X:Cx} {N:List Str} {scope:Scope} {cl:List (Str×Addr)} {x y:Str} {px py pos tp:Pos} {jx:Nat} {iter elt:Expr} {ifs:List Expr} {wi:TI} {ρ:St→St} {tt:TT} {te:TE}
theorem Mx{y9:Str}{q_ uK:Pos}{i0:Nat}(B:AI X N scope cl x y ρ)(hc:X.calm=true)(hN:X.N.Nodup)(AG:X.N[i0]?=some y9)(hy:Loc X.env.scope y9)(hi:PI X (.Tuple [.Name x px,.Name y py] jx tp) iter wi)(ht:∀s₃ H₃ fp,jX (X.aV N scope cl s₃ H₃ fp) ifs tt)(he:∀s₃ H₃ fp,PE (X.aV N scope cl s₃ H₃ fp) elt te)
  (AH:swapsWith (.ListComp elt [⟨.Tuple [.Name x px,.Name y py] jx tp,iter,ifs,0⟩] scope pos) (some (.Name y9 q_)) uK.line X.env=pure true:=by rfl) (hf:X.fn y9=true∨X.env.scope.names.lookup y9=some .local:=by first | exact .inl rfl | exact .inr rfl | assumption)
  (hs:∀x,foldedSetIterable iter X.env x=pure x:=by intro _;rfl):PS X (.Assign [.Name y9 q_] (.ListComp elt [⟨.Tuple [.Name x px,.Name y py] jx tp,iter,ifs,0⟩] scope pos) uK) (mB (kW X.K wi ρ tt te) (aY i0)):=by
 intro pins s σ H D0 I h
 have h:kW X.K wi ρ tt te σ H (fun v H1=>D0.nx (σ.set i0 (some v)) H1):=h
 rw [exec_Assign_Name_used _ _ _ _ AH]
 refine av (lQ (av ?_))
 show wpAny _ X.A (do let _ ←comprehension (.ListComp elt [⟨.Tuple [.Name x px,.Name y py] jx tp,iter,ifs,0⟩] scope pos) scope X.env _ (newList []) false (eval iter X.env) (some (assign (.Name y9 q_) X.env))) _ _ s
 refine av (bo (Q:=fun _ s'=>SP X pins D0 .next s') ?_ (fun _ s' hq=>bG (bG hq)) fun _ _ e=>e)
 refine wb (use:=some (assign (.Name y9 q_) X.env)) rfl hs B.uE B.kind B.names (aF (hi pins s σ H _ I h) fun v s1 h1=>aF h1 fun qR s2 h2=>?_)
 obtain ⟨it,fp,tn,J,H2,rfl,I2,T,fe,f2,q2⟩:=h2
 have nD:H2 s2.heap.objs.size=none:=I2.au.fresh (aw _)
 obtain ⟨W,⟨m0,w0⟩,turn⟩:=q2 _ nD
 refine tI (wc B.uF (by intro y hy;simp at hy) (fun h₁ eF eG=>?_) B.kind)
 dsimp only at eF eG ⊢
 generalize hD:s2.heap.objs.size=D at nD w0 turn eF eG ⊢
 generalize fV:({s2 with heap:=s2.heap.push {cls:=.type "list",dict:=none,data:=.seq ([]:List Value).toArray}}:Shared)=s3
 have I3:Inv X pins σ (upd H2 D (.lst [])) s3:=by
  subst hD fV
  exact I2.laid (t':=s2.toks) (fun b u e=>bW _ e) (aw _) ⟨bU _,[],_,.nil,dE _ rfl⟩
 have e3:s3.heap=s2.heap.push {cls:=.type "list",dict:=none,data:=.seq ([]:List Value).toArray}:=by rw [←fV]
 have eJ:∀b o,s2.heap.get? b=some o→s3.heap.get? b=some o:=fun b o e=>by rw [e3];exact bW _ e
 rw [←e3] at eF eG ⊢
 have below:∀b o,s3.heap.get? b=some o→b≠s3.heap.objs.size:=fun b o e=>bE (aS e)
 have c_:∀b o,s3.heap.get? b=some o→h₁.get? b=some o:=fun b o e=>eG.extBut b o (below b o e) (bW _ e)
 have fW:∀b∈fp,∃o,s2.heap.get? b=some o∧∀v,o.data≠.cell v:=T.obj _ _ fe
 have og:∀b∈fp,b≠D:=fun b hb z=>by
  obtain ⟨o,e,_⟩:=fW b hb
  rw [z,←hD] at e
  exact absurd (aS e) (dm _)
 have cC:∀y c,cl.lookup y=some c→X.env.cells.lookup y=some c:=fun y c e=>B.sub (y,c) (jH e)
 have oi:=I3.qO
 have dC:(X.aV N scope cl s3 (upd H2 D (.lst [])) fp).Ok:=by
  refine ⟨I.ok.mod,B.kind,I.ok.glob,I.ok.blt,aw _,fun a b c e1 e2=>I.ok.inj a b c (cC a c e1) (cC b c e2),fun y hy=>B.has y hy,(fun _ _ z _=>absurd z cK),(fun _=>I.ok.hd hc),I.ok.frames,.inl rfl,fun b hb=>⟨?_,fun y c e z=>?_⟩,fun b o e=>?_,b5 I.ok.gy I3.sz,fun b o e hb=>?_,fun b hb z=>?_,I3.stack,oi⟩
  ·obtain ⟨o,e,_⟩:=fW b hb
   exact below b o (eJ b o e)
  ·exact (f2 b hb).2.2.2.2.1 y c (cC y c e) z
  ·exact I3.bs b o e
  ·rcases (f2 b hb).2.2.2.1 with z | z
   ·exact I.ok.me b o e z
   ·exact absurd (cT (aS e) (b5 I.ok.gy z)) (dm _)
  ·rcases b3.mp (I3.qN b z) with z | z
   ·exact (f2 b hb).2.1 z
   ·exact (f2 b hb).2.2.1 z
 have IB:∀tk:Nat,Inv (X.aV N scope cl s3 (upd H2 D (.lst [])) fp) [] (none::none::ρ σ) (upd H2 D (.lst [])) {s3 with heap:=h₁,toks:=tk}:=fun tk=>by
  refine ⟨dC,rfl,I3.bare,Un.kept c_,⟨_,eF,fun j y v e1 e2 e3=>?_⟩,fun y c e=>?_,?_,fun y c e=>I3.gU y c (cC y c e),(fun p hp=>nomatch hp),I3.au.kept c_,?_⟩
  ·cases j with
   | zero=>cases e2
   | succ j=>
   cases j with
   | zero=>cases e2
   | succ j=>
    obtain ⟨i,y',a1,a2,a3,a4,a5,a6⟩:=B.uG σ j v e2
    have kT:N[j+1+1]?=some y:=e1
    rw [kT] at a1
    cases a1
    obtain ⟨m,hn,hl⟩:=I3.loc
    obtain ⟨u,r,l⟩:=hl i y v a2 a3 a4
    refine ⟨u,r,.inr ⟨a6,?_⟩⟩
    obtain ⟨c,ec⟩:=B.has y a6
    rcases l with ⟨k,_⟩ | ⟨_,c',jq,z⟩
    ·rcases a5 with q | q <;> (rw [k] at q;cases q)
    ·have:=cC y c ec
     rw [this] at jq
     cases jq
     obtain ⟨o,ho,hd⟩:=z
     exact ⟨c,ec,o,c_ _ _ ho,hd⟩
  ·obtain ⟨v,o,ho,hd⟩:=I3.cell y c (cC y c e)
   exact ⟨v,o,c_ _ _ ho,hd⟩
  ·exact I3.au.fresh (aw _)
  ·show (none::none::ρ σ).length=N.length
   rw [cL,cL]
   exact B.len σ I.len
 have ot:∀b o,s3.heap.get? b=some o→b≠s3.heap.objs.size:=below
 have fin:∀{σ':St} {H':Hp} {s':Shared},Inv (X.aV N scope cl s3 (upd H2 D (.lst [])) fp) [] σ' H' s'→D0.nx (σ.set i0 (some (.ref D))) H'→compPost (model X.prog X.w) X.A X.xe (some (assign (.Name y9 q_) X.env)) (fun _ s'=>SP X pins D0 .next s') (.ref D) s3.heap.objs.size (.ok .next) s':=fun{σ' H' s'} J q=>by
  obtain ⟨m,hn,_⟩:=J.loc
  have hn:s'.heap.Ns s3.heap.objs.size m:=hn
  have JC:H' s3.heap.objs.size=none:=J.free
  have u1:Un (cj X.stack) fp (upd H2 D (.lst [])) H' s3.heap s'.heap:=by
   refine ⟨fun b o e n hb hx=>J.base.keep b o e n hb hx,fun b o e n hb hx=>J.base.slot b o e n hb hx,J.base.free,fun b o e hx=>J.base.there b o e hx,J.base.fu,J.base.fc,J.base.fv⟩
  have IX:Inv X pins σ H' s':=I3.mq (ch:=fp) (J.os) u1 J.au J.bare fun b hb=>by
   obtain ⟨g0,g1,g2,g3,g4,g5⟩:=f2 b hb
   exact ⟨g3,g1,g4,g5⟩
  have nl:X.env.locals≠s3.heap.objs.size:=by
   obtain ⟨m3,⟨o3,_,_,e3,_⟩,_⟩:=I3.loc
   exact ot _ _ e3
  have nc:∀z c,X.env.cells.lookup z=some c→c≠s3.heap.objs.size:=fun z c e=>by
   obtain ⟨v3,o3,e3,_⟩:=I3.cell z c e
   exact ot _ _ e3
  refine wpAny_assign_Name (zV (v:=.ref D) IX hN AG hy rfl (fun eE ou oz=>?_) hf)
  obtain ⟨a,oz,ha⟩:=oz
  have na:s3.heap.objs.size≠a:=by
   rcases ha with rfl | e
   ·exact fun z=>nl z.symm
   ·exact fun z=>nc _ _ e z.symm
  refine ⟨m,hn.sameBut oz na,fun h' eK=>⟨σ.set i0 (some (.ref D)),H',?_,q⟩⟩
  have u2:Un (cj X.stack) [s3.heap.objs.size] H' H' eE.heap h':=by
   refine ⟨fun b o e n hb hx=>(eK.2 b (by simpa using hx)).trans e,fun b o e n hb hx=>⟨o.slots,(eK.2 b (by simpa using hx)).trans e⟩,fun b o e n hx=>n,fun b o e hx=>⟨o,(eK.2 b (by simpa using hx)).trans e⟩,fun b xs z=>z,fun b o u z=>z,fun b ps z=>⟨#[],by simpa using z⟩⟩
  have oj:bY X.prog X.w H' h':=fun b u e=>by
   refine (ou.au b u e).iB (fun c v hc z=>(eK.2 c fun y=>?_).trans z) (fun _ z=>z) fun _ _ z=>z
   have y':c=s3.heap.objs.size:=y
   rcases hc with hc | hc
   ·rw [←hc,y',JC] at e
    cases e
   ·rw [y',JC] at hc
    cases hc
  refine ou.mq (s':={eE with heap:=h'}) (ch:=[s3.heap.objs.size]) rfl u2 oj ou.bare fun b hb=>?_
  have eb:b=s3.heap.objs.size:=by simpa using hb
  subst eb
  refine ⟨.inr I3.sz,fun z=>nl z.symm,fun z c e=>nc z c e,fun p hp=>?_⟩
  exact ot _ _ (I3.pin p hp).1
 have eA:∀{H':Hp},(∀b∈fp,H' b=none)→∀b∈fp,jS (X.aV N scope cl s3 (upd H2 D (.lst [])) fp) [] H' b:=fun hn b hb=>by
  refine ⟨hn b hb,?_,?_,.inl hb,fun y c e z=>(f2 b hb).2.2.2.2.1 y c (cC y c e) z,fun p hp=>nomatch hp⟩
  ·obtain ⟨o,e,_⟩:=fW b hb
   exact below b o (eJ b o e)
  ·exact dC.mf b hb
 have loop:∀tk:Nat,codeAny (model X.prog X.w) X.A (.compLoop (.ListComp elt [⟨.Tuple [.Name x px,.Name y py] jx tp,iter,ifs,0⟩] scope pos) 0 (.ref it) (.ref D) (compEnvC scope cl s3.heap.objs.size X.env))
   (compPost (model X.prog X.w) X.A X.xe (some (assign (.Name y9 q_) X.env)) (fun _ s'=>SP X pins D0 .next s') (.ref D) s3.heap.objs.size) {s3 with heap:=h₁,toks:=tk}:=fun tk=>by
  refine Ey (fun n s'=>∃i ys o o2 H',Inv (X.aV N scope cl s3 (upd H2 D (.lst [])) fp) [] (o::o2::ρ σ) H' s'∧tn i s'.heap∧(∀b∈fp,H' b=none)∧W i n ys H') ?_ m0
   ⟨0,[],none,none,_,IB tk,T.keep _ _ _ fe fun b hb o e=>c_ _ _ (eJ _ _ e),fun b hb=>by rw [aR (og b hb)];exact (f2 b hb).1,w0⟩
  rintro n s4 ⟨i,ys,o,o2,H4,I4,jr,jt,w4⟩
  obtain ⟨AA,om⟩:=turn i n ys H4 w4
  rcases om with ⟨stop,qn⟩ | ⟨go,step⟩
  ·refine bo (T.done (X.aV N scope cl s3 (upd H2 D (.lst [])) fp) rfl rfl rfl hc i [] s4 _ H4 (fun _ _=>False) I4 (eA jt) jr stop) (fun r s5 ⟨hr,I5⟩=>?_) fun _ _ z=>z.elim
   subst hr
   exact fin I5 qn
  ·refine bo (T.item (X.aV N scope cl s3 (upd H2 D (.lst [])) fp) rfl rfl rfl hc i [] s4 _ H4 (fun _ _=>False) I4 (eA jt) jr go) (fun r s5 ⟨u,hr,h5⟩=>?_) fun _ _ z=>z.elim
   subst hr
   refine bo h5 (fun _ s5 ⟨y0,H5,I5,r5,y5,eB,kH⟩=>?_) fun _ _ z=>z.elim
   obtain ⟨Tt,x1,x2,e0,AJ,oo⟩:=step y0 _ y5
   subst e0
   have kJ:=I5.pinned (eA kH) (T.obj _ _ eB)
   have pg:PG (X.aV N scope cl s3 (upd H2 D (.lst [])) fp) (.Tuple [.Name x px,.Name y py] jx tp) (z8 X.K 2 (uc (aY 0) (uc (aY 1) z7))):=
    ue (X:=X.aV N scope cl s3 (upd H2 D (.lst [])) fp) hc (jR (dI (i:=0) B.nd B.n0 (.inl (iw B.hx)) (.inr (iw B.hx))) (jR (dI (i:=1) B.nd B.n1 (.inl (iw B.hy)) (.inr (iw B.hy))) ud))
   have again:∀{σ7:St} {H7:Hp} {s7:Shared},Inv (X.aV N scope cl s3 (upd H2 D (.lst [])) fp) ([]++iE fp s5.heap) σ7 H7 s7→Inv (X.aV N scope cl s3 (upd H2 D (.lst [])) fp) [] σ7 H7 s7∧tn (i+1) s7.heap∧∀b∈fp,H7 b=none:=fun{σ7 H7 s7} I7=>by
    refine ⟨I7.nX,T.keep _ _ _ eB fun b hb o e=>(I7.pin (b,o) (dq _ (dq _ (jT hb e)))).1,fun b hb=>?_⟩
    obtain ⟨o,e,d⟩:=T.obj _ _ eB b hb
    exact (I7.pin (b,o) (dq _ (dq _ (jT hb e)))).2.1
   refine bo (pg _ s5 _ H5 (.ref Tt) u (fun σ2 H6=>σ2=some x1::some x2::ρ σ∧H6=H5) kJ r5 ⟨Tt,_,rfl,AJ,rfl,_,_,rfl,_,_,rfl,rfl,rfl,rfl⟩) (fun _ s6 ⟨σ6,H6,I6,q6⟩=>?_) fun _ _ z=>z.elim
   obtain ⟨rfl,rfl⟩:=q6
   have tests:∀{fX:TT},jX (X.aV N scope cl s3 (upd H2 D (.lst [])) fp) ifs fX→∀{R:Bool→Hp→Prop},fX (some x1::some x2::ρ σ) H6 R→wpAny (model X.prog X.w) X.A
     (forIn ifs true fun c r=>if r=true then do let ok ←isTrue c (compEnvC scope cl s3.heap.objs.size X.env) (eval c (compEnvC scope cl s3.heap.objs.size X.env));pure (ForInStep.yield ok) else pure (ForInStep.yield r))
     (fun ok s7=>∃H7,Inv (X.aV N scope cl s3 (upd H2 D (.lst [])) fp) ([]++iE fp s5.heap) (some x1::some x2::ρ σ) H7 s7∧R ok H7) (fun _ _=>False) s6:=fun{fX} p {R} hR=>by
    cases p with
    | nil=>exact wd ⟨_,I6,hR⟩
    | one p=>exact we (p _ s6 _ _ _ I6 hR)
   refine bo (tests (ht s3 _ fp) oo) (fun ok s7 ⟨H7,I7,q7⟩=>?_) fun _ _ z=>z.elim
   cases ok with
   | false=>
    obtain ⟨m',fY,w7⟩:=q7
    obtain ⟨a1,a2,a3⟩:=again I7
    exact ⟨m',fY,i+1,ys,_,_,H7,a1,a2,a3,w7⟩
   | true=>
    refine bo (he s3 _ fp _ s7 _ H7 _ I7 q7) (fun ev s8 ⟨z,H8,I8,r8,oq,hz,m',fY,w8⟩=>?_) fun _ _ z=>z.elim
    refine bo (iJ (X:=X.aV N scope cl s3 (upd H2 D (.lst [])) fp) _ s8 _ H8 (.ref D) [z] (.ref D) [ev] (fun _ H9=>H9=upd H8 D (.lst (ys++[z]))) I8 rfl (.cons r8 .nil) ⟨D,ys,z,rfl,rfl,oq,hz,rfl⟩) (fun _ s9 ⟨_,H9,I9,_,q9⟩=>?_) fun _ _ z=>z.elim
    subst q9
    obtain ⟨a1,a2,a3⟩:=again I9
    exact ⟨m',fY,i+1,ys++[z],_,_,_,a1,a2,a3,w8⟩
 have start:=loop (s3.toks+([]:List (Str×Value)).length)
 have es:({s3 with heap:=h₁,toks:=s3.toks+([]:List (Str×Value)).length}:Shared)={s2 with heap:=h₁,toks:=s2.toks+([]:List (Str×Value)).length}:=by rw [←fV]
 rw [es] at start
 exact wg start (T.self _ 0 _ _ _ (T.keep _ _ _ fe fun b hb o e=>c_ _ _ (eJ _ _ e)) start)
end
section
variable {X:Cx} {pins:aP} {σ:St} {H:Hp} {s:Shared}
end
end L2
namespace My
open PySem PySem.W PyProof.Rows
section
variable {n:Nat} {c:Nat→Int}
def kX(n:Nat)(p:Array Nat):Prop:=p.Perm (List.toArray (List.range n))
theorem kX.size{p:Array Nat}(h:kX n p):p.size=n:=by rw [Array.Perm.size_eq h];simp
def vN(c:Nat→Int)(p:Array Nat)(i:Nat):Int:=c (p.getD i 0)
def oB(c:Nat→Int)(p:Array Nat)(k:Nat):Prop:=∀a b,a≤b→b<k→vN c p a≤vN c p b
end
end My
namespace Tm
open PySem PySem.W PyProof.Rows
def mP:Bool→Keyed→Array Keyed→Nat→Nat→Nat→StateT SortSt Sem (Option Nat):=sortPriv% PySem.Builtin.gallop
def uN:Nat→StateT SortSt Sem Unit:=sortPriv% PySem.Builtin.setMinGallop
def AN:Array Keyed→Array Keyed→StateT SortSt Sem (Array Keyed):=sortPriv% PySem.Builtin.mergeLo
def AO:Array Keyed→Array Keyed→StateT SortSt Sem (Array Keyed):=sortPriv% PySem.Builtin.mergeHi
def oC(left:Bool)(key:Keyed)(arr:Array Keyed)(base i:Nat):StateT SortSt Sem (Option Bool):=do
 let x ←elem' arr (base+i)
 if left then lt' x key else return (←lt' key x).map (!·)
theorem Mz(left:Bool)(key:Keyed)(arr:Array Keyed)(base n hint:Nat):mP left key arr base n hint=(do
 let mut xl:=0
 let mut bg:=1
 let mut lo:=0
 let mut hi:=0
 let some right ←oC left key arr base hint | return none
 if right then
  let uO:=n-hint
  for _ in [0:n] do
   if bg≥uO then break
   let some more ←oC left key arr base (hint+bg) | return none
   if !more then break
   xl:=bg
   bg:=2*bg+1
  lo:=hint+xl+1
  hi:=hint+min bg uO
 else
  let uO:=hint+1
  for _ in [0:n] do
   if bg≥uO then break
   let some found ←oC left key arr base (hint-bg) | return none
   if found then break
   xl:=bg
   bg:=2*bg+1
  lo:=hint+1-min bg uO
  hi:=hint-xl
 for _ in [0:n] do
  if lo≥hi then break
  let m:=lo+(hi-lo) / 2
  let some more ←oC left key arr base m | return none
  if more then lo:=m+1 else hi:=m
 return some hi):=rfl
section
variable {prog:Program} {w:World} {A:Around} {E:aE} {s:Shared} {κ:SortKind} {key:Keyed→Int} {Ok:Keyed→Prop}
def g8(prog:Program)(w:World)(A:Around)(s:Shared)(κ:SortKind)(key:Keyed→Int)(Ok:Keyed→Prop):Prop:=
 ∀x y,Ok x→Ok y→∀C:Bool→Shared→Prop,C (decide (key x<key y)) s→wpAny (model prog w) A (keyLt' κ x.1 y.1) C (fun _ _=>False) s
variable {st:SortSt} {Q:Option Bool→SortSt→Prop}
theorem uP(h:g8 prog w A s κ key Ok){x y:Keyed}(ox:Ok x)(oy:Ok y)(hk:kindOf st=κ)(q:Q (some (decide (key x<key y))) st):wpS (model prog w) A E s (lt' x y) Q st:=by rw [lt'_eq];refine ak (gQ ?_);rw [hk];refine ak (wpS_lift (wpAny_attempt (bo (h x y ox oy (fun c s'=>s'=s∧wpS (model prog w) A E s (pure (some c)) Q st) ⟨rfl,aj q⟩) (fun c s' hc=>?_) fun _ _ hF=>hF.elim)));exact hc
def nn:Keyed:=(Value.none,Value.none)
variable {arr:Array Keyed} {i:Nat}
theorem bh(hi:i<arr.size){Q:Keyed→SortSt→Prop}(q:Q (arr.getD i nn) st):wpS (model prog w) A E s (elem' arr i) Q st:=by
 rw [elem'_eq];have e:arr[i]?=some (arr.getD i nn):=by simp [Array.getD,hi]
 rw [e];exact aj q
def d9(Ok:Keyed→Prop)(arr:Array Keyed):Prop:=∀i,i<arr.size→Ok (arr.getD i nn)
def bB(left:Bool)(k a:Int):Bool:=if left=true then decide (a<k) else !decide (k<a)
variable {left:Bool} {kx:Keyed} {base:Nat}
theorem gE(h:g8 prog w A s κ key Ok)(hi:base+i<arr.size)(ha:d9 Ok arr)(ox:Ok kx)(hk:kindOf st=κ)(q:Q (some (bB left (key kx) (key (arr.getD (base+i) nn)))) st):wpS (model prog w) A E s (oC left kx arr base i) Q st:=by
 unfold oC;refine ak (bh hi ?_);unfold bB at q;cases left with
 | true=>rw [ae rfl] at q ⊢;exact uP h (ha _ hi) ox hk q
 | false=>
  rw [aa (by simp)] at q ⊢
  exact ak (uP h ox (ha _ hi) hk (aj q))
theorem gF{n hint:Nat}{f:Nat→Bool}
  (hb:∀i,i<n→∀Q:Option Bool→SortSt→Prop,Q (some (f i)) st→wpS (model prog w) A E s (oC left kx arr base i) Q st)
  (hh:hint<n) (mono:∀i j,i≤j→j<n→f j=true→f i=true) {Q:Option Nat→SortSt→Prop}
  (k:∀m,m≤n→(∀i,i<m→f i=true)→(∀i,m≤i→i<n→f i=false)→Q (some m) st):wpS (model prog w) A E s (mP left kx arr base n hint) Q st:=by
 rw [Mz];refine ak (hb hint hh _ ?_);dsimp only;have AQ:∀i j,i≤j→j<n→f i=false→f j=false:=fun i j h1 h2 h3=>by
  cases e:f j with
  | false=>rfl
  | true=>rw [mono i j h1 h2 e] at h3;cases h3
 have bs:∀(lo hi:Nat) (body:Nat→Option (Option Nat)×Nat×Nat→StateT SortSt Sem (ForInStep (Option (Option Nat)×Nat×Nat))) (R:Option (Option Nat)×Nat×Nat→SortSt→Prop),lo≤hi→hi≤n→(∀i,i<lo→f i=true)→(∀i,hi≤i→i<n→f i=false)→
   (∀x lo hi (R:ForInStep (Option (Option Nat)×Nat×Nat)→SortSt→Prop),lo≥hi→R (.done (none,lo,hi)) st→wpS (model prog w) A E s (body x (none,lo,hi)) R st)→
   (∀x lo hi (R:ForInStep (Option (Option Nat)×Nat×Nat)→SortSt→Prop),lo<hi→hi≤n→R (.yield (if f (lo+(hi-lo) / 2)=true then (none,lo+(hi-lo) / 2+1,hi) else (none,lo,lo+(hi-lo) / 2))) st→wpS (model prog w) A E s (body x (none,lo,hi)) R st)→
   (∀m,m≤n→(∀i,i<m→f i=true)→(∀i,m≤i→i<n→f i=false)→R (none,m,m) st)→
   wpS (model prog w) A E s (forIn [0:n] (none,lo,hi) body) R st:=fun lo hi body R h1 h2 h3 h4 b1 b2 kk=>by
  refine eO (I:=fun x c aq=>aq=st∧∃lo hi,c=(none,lo,hi)∧lo≤hi∧hi≤n∧hi-lo+x≤n∧(∀i,i<lo→f i=true)∧(∀i,hi≤i→i<n→f i=false)) ?_ ?_ ⟨rfl,lo,hi,rfl,h1,h2,by omega,h3,h4⟩
  ·rintro x c aq _ hx ⟨rfl,lo,hi,rfl,g1,g2,g3,g4,g5⟩
   by_cases z:lo≥hi
   ·refine b1 x lo hi _ z ?_
    obtain rfl:lo=hi:=by omega
    exact kk lo g2 g4 g5
   ·refine b2 x lo hi _ (by omega) g2 ?_
    cases e:f (lo+(hi-lo) / 2) with
    | true=>rw [ae rfl];exact ⟨rfl,_,_,rfl,by omega,g2,by omega,fun i aX=>mono i (lo+(hi-lo) / 2) (by omega) (by omega) e,g5⟩
    | false=>
     rw [aa (by simp)]
     exact ⟨rfl,_,_,rfl,by omega,by omega,by omega,g4,fun i h1 h2=>AQ (lo+(hi-lo) / 2) i h1 h2 e⟩
  ·rintro c aq ⟨rfl,lo,hi,rfl,g1,g2,g3,g4,g5⟩
   have:lo=hi:=by
    have:max 0 n=n:=by omega
    omega
   subst this;exact kk lo g2 g4 g5
 cases e:f hint with
 | true=>
  rw [ae rfl]
  refine ak (fb (eO (I:=fun x c aq=>aq=st∧∃la bg,c=(none,la,bg)∧x+1≤bg∧la<bg∧la<n-hint∧f (hint+la)=true)
   (Q:=fun c aq=>aq=st∧∃la bg,c=(none,la,bg)∧la<bg∧la<n-hint∧f (hint+la)=true∧(bg≥n-hint∨f (hint+bg)=false)) ?_ ?_ ⟨rfl,0,1,rfl,aw _,by omega,by omega,by simpa using e⟩) ?_)
  ·rintro x c aq _ hx ⟨rfl,la,bg,rfl,g1,g2,g3,g4⟩
   dsimp only;by_cases z:bg≥n-hint
   ·rw [ae z]
    exact aj ⟨rfl,la,bg,rfl,g2,g3,g4,.inl z⟩
   ·rw [aa z]
    refine ak (hb _ (by omega) _ ?_)
    dsimp only;cases e':f (hint+bg) with
    | true=>
     rw [aa (by simp)]
     exact aj ⟨rfl,_,_,rfl,by omega,by omega,by omega,e'⟩
    | false=>
     rw [ae (by simp)]
     exact aj ⟨rfl,la,bg,rfl,g2,g3,g4,.inr e'⟩
  ·rintro c aq ⟨rfl,la,bg,rfl,g1,g2,g3,g4⟩
   have:max 0 n=n:=by omega
   exact ⟨rfl,la,bg,rfl,g2,g3,g4,.inl (by omega)⟩
  ·rintro c aq ⟨rfl,la,bg,rfl,g2,g3,g4,g5⟩
   refine ak (bs (hint+la+1) (hint+min bg (n-hint)) _ _ (by omega) (by omega) (fun i hi=>mono i (hint+la) (by omega) (by omega) g4) (fun i h1 h2=>?_) ?_ ?_ ?_)
   ·rcases g5 with g5 | g5
    ·omega
    ·by_cases z:bg≥n-hint
     ·omega
     ·exact AQ (hint+bg) i (by omega) h2 g5
   ·intro x lo hi R z hR
    dsimp only;rw [ae z];exact aj hR
   ·intro x lo hi R z z2 hR
    dsimp only;rw [aa (by omega)]
    refine ak (hb _ (by omega) _ ?_)
    dsimp only;cases e:f (lo+(hi-lo) / 2) with
    | true=>rw [e,ae rfl] at hR;rw [ae rfl];exact aj hR
    | false=>
     rw [e,aa (by simp)] at hR
     rw [aa (by simp)]
     exact aj hR
   ·exact fun m m1 m2 m3=>aj (k m m1 m2 m3)
 | false=>
  rw [aa (by simp)]
  refine ak (fb (eO (I:=fun x c aq=>aq=st∧∃la bg,c=(none,la,bg)∧x+1≤bg∧la<bg∧la≤hint∧f (hint-la)=false)
   (Q:=fun c aq=>aq=st∧∃la bg,c=(none,la,bg)∧la<bg∧la≤hint∧f (hint-la)=false∧(bg≥hint+1∨f (hint-bg)=true)) ?_ ?_ ⟨rfl,0,1,rfl,aw _,by omega,by omega,by simpa using e⟩) ?_)
  ·rintro x c aq _ hx ⟨rfl,la,bg,rfl,g1,g2,g3,g4⟩
   dsimp only;by_cases z:bg≥hint+1
   ·rw [ae z]
    exact aj ⟨rfl,la,bg,rfl,g2,g3,g4,.inl z⟩
   ·rw [aa z]
    refine ak (hb _ (by omega) _ ?_)
    dsimp only;cases e':f (hint-bg) with
    | true=>rw [ae rfl];exact aj ⟨rfl,la,bg,rfl,g2,g3,g4,.inr e'⟩
    | false=>
     rw [aa (by simp)]
     exact aj ⟨rfl,_,_,rfl,by omega,by omega,by omega,e'⟩
  ·rintro c aq ⟨rfl,la,bg,rfl,g1,g2,g3,g4⟩
   have:max 0 n=n:=by omega
   exact ⟨rfl,la,bg,rfl,g2,g3,g4,.inl (by omega)⟩
  ·rintro c aq ⟨rfl,la,bg,rfl,g2,g3,g4,g5⟩
   refine ak (bs (hint+1-min bg (hint+1)) (hint-la) _ _ (by omega) (by omega) (fun i hi=>?_) (fun i h1 h2=>AQ (hint-la) i (by omega) h2 g4) ?_ ?_ ?_)
   ·rcases g5 with g5 | g5
    ·omega
    ·by_cases z:bg≥hint+1
     ·omega
     ·exact mono i (hint-bg) (by omega) (by omega) g5
   ·intro x lo hi R z hR
    dsimp only;rw [ae z];exact aj hR
   ·intro x lo hi R z z2 hR
    dsimp only;rw [aa (by omega)]
    refine ak (hb _ (by omega) _ ?_)
    dsimp only;cases e:f (lo+(hi-lo) / 2) with
    | true=>rw [e,ae rfl] at hR;rw [ae rfl];exact aj hR
    | false=>
     rw [e,aa (by simp)] at hR
     rw [aa (by simp)]
     exact aj hR
   ·exact fun m m1 m2 m3=>aj (k m m1 m2 m3)
end
def a_(K:Keyed→Int)(l:List Keyed):Prop:=l.Pairwise fun x y=>K x≤K y
variable {K:Keyed→Int} {l:List Keyed}
theorem a_.take(h:a_ K l)(k:Nat):a_ K (l.take k):=List.Pairwise.sublist (List.take_sublist k l) h
theorem a_.drop(h:a_ K l)(k:Nat):a_ K (l.drop k):=List.Pairwise.sublist (List.drop_sublist k l) h
variable {m:List Keyed}
theorem a_.app(h:a_ K l)(h':a_ K m)(k:∀x∈l,∀y∈m,K x≤K y):a_ K (l++m):=tR.mpr ⟨h,h',k⟩
structure MI (K:Keyed→Int) (A B O:List Keyed) (i j:Nat):Prop where
 pm:O.Perm (A.take i++B.take j)
 so:a_ K O
 ca:∀x∈O,∀y∈A.drop i,K x≤K y
 cb:∀x∈O,∀y∈B.drop j,K x≤K y
variable {A B O:List Keyed} {i j:Nat}
theorem MI.flip(h:MI K A B O i j):MI K B A O j i:=⟨h.pm.trans tS,h.so,h.cb,h.ca⟩
theorem MI.xm(h:MI K A B O i j)(sA:a_ K A)(k:Nat)(hk:∀x∈(A.drop i).take k,∀y∈B.drop j,K x≤K y):MI K A B (O++(A.drop i).take k) (i+k) j:=by
 have e:A.take (i+k)=A.take i++(A.drop i).take k:=List.take_add;have d:A.drop (i+k)=(A.drop i).drop k:=by rw [List.drop_drop]
 have sd:=sA.drop i;have sp:(A.drop i).take k++(A.drop i).drop k=A.drop i:=qv ..;have cr:∀x∈(A.drop i).take k,∀y∈(A.drop i).drop k,K x≤K y:=by have:=sd;rw [←sp] at this;exact (tR.mp this).2.2
 refine ⟨?_,h.so.app (sd.take k) fun x hx y hy=>h.ca x hx y (List.mem_of_mem_take hy),fun x hx y hy=>?_,fun x hx y hy=>?_⟩
 ·rw [e]
  refine (h.pm.append_right _).trans ?_;rw [fP,fP];exact zJ _ tS
 ·rw [d] at hy
  rcases dQ.mp hx with hx | hx;·exact h.ca x hx y (List.mem_of_mem_drop hy)
  ·exact cr x hx y hy
 ·rcases dQ.mp hx with hx | hx
  ·exact h.cb x hx y hy
  ·exact hk x hx y hy
theorem MI.AR(h:MI K A B O i j)(sB:a_ K B)(k:Nat)(hk:∀x∈(B.drop j).take k,∀y∈A.drop i,K x≤K y):MI K A B (O++(B.drop j).take k) i (j+k):=(h.flip.xm sB k hk).flip
theorem MI.done(h:MI K A B O i j)(sA:a_ K A)(sB:a_ K B)(k:∀x∈A.drop i,∀y∈B.drop j,K x≤K y):(O++A.drop i++B.drop j).Perm (A++B)∧a_ K (O++A.drop i++B.drop j):=by
 refine ⟨?_,(h.so.app (sA.drop i) h.ca).app (sB.drop j) fun x hx y hy=>?_⟩
 ·have e1:A.take i++A.drop i=A:=qv ..
  have e2:B.take j++B.drop j=B:=qv ..;have:(A.take i++B.take j++A.drop i++B.drop j).Perm ((A.take i++A.drop i)++(B.take j++B.drop j)):=by rw [fP,fP,fP];refine zJ _ ?_;rw [←fP,←fP];exact List.Perm.append_right _ tS
  rw [e1,e2] at this;exact ((h.pm.append_right _).append_right _).trans this
 ·rcases dQ.mp hx with hx | hx
  ·exact h.cb x hx y hy
  ·exact k x hx y hy
theorem MI.EJ(h:MI K A B O i j)(sA:a_ K A)(sB:a_ K B)(k:∀x∈A.drop i,∀y∈B.drop j,K y≤K x):(O++B.drop j++A.drop i).Perm (A++B)∧a_ K (O++B.drop j++A.drop i):=by have:=h.flip.done sB sA fun x hx y hy=>k y hy x hx;exact ⟨this.1.trans tS,this.2⟩
theorem MA(a b:Array Keyed):AN a b=(do
 rule "list.sort.merge-lo"
 let total:=a.size+b.size
 let done (out:Array Keyed) (ia ib:Nat):=out++a.extract ia a.size++b.extract ib b.size
 let xo (out:Array Keyed) (ia ib:Nat):=out++b.extract ib b.size++a.extract ia a.size
 let mut out:Array Keyed:=#[←elem' b 0]
 let mut ia:=0
 let mut ib:=1
 if ib == b.size then return done out ia ib
 if ia+1 == a.size then return xo out ia ib
 let mut minGallop:=gallopOf (←get)
 for _ in [0:total] do
  let mut g9:=0
  let mut g_:=0
  for _ in [0:total] do
   let some MB ←lt' (←elem' b ib) (←elem' a ia) | return done out ia ib
   if MB then
    out:=out.push (←elem' b ib);ib:=ib+1;g_:=g_+1;g9:=0
    if ib == b.size then return done out ia ib
    if g_≥minGallop then break
   else
    out:=out.push (←elem' a ia);ia:=ia+1;g9:=g9+1;g_:=0
    if ia+1 == a.size then return xo out ia ib
    if g9≥minGallop then break
  rule "list.sort.gallop"
  minGallop:=minGallop+1
  for _ in [0:total] do
   if minGallop>1 then minGallop:=minGallop-1
   uN minGallop
   let some k ←mP false (←elem' b ib) a ia (a.size-ia) 0 | return done out ia ib
   g9:=k
   if k>0 then
    out:=out++a.extract ia (ia+k);ia:=ia+k
    if ia+1 == a.size then return xo out ia ib
    if ia == a.size then return done out ia ib
   out:=out.push (←elem' b ib);ib:=ib+1
   if ib == b.size then return done out ia ib
   let some k ←mP true (←elem' a ia) b ib (b.size-ib) 0 | return done out ia ib
   g_:=k
   if k>0 then
    out:=out++b.extract ib (ib+k);ib:=ib+k
    if ib == b.size then return done out ia ib
   out:=out.push (←elem' a ia);ia:=ia+1
   if ia+1 == a.size then return xo out ia ib
   if g9<7 && g_<7 then break
  minGallop:=minGallop+1
  uN minGallop
 unsupported "internal:list.sort.merge-bound"):=rfl
section
variable {prog:Program} {w:World} {A:Around} {E:aE} {s:Shared} {κ:SortKind} {key:Keyed→Int} {Ok:Keyed→Prop}
def setG(st:SortSt)(g:Nat):SortSt:=SortSt.mk' (kindOf st) (arrOf st) (pendingOf st) g (failedOf st)
variable {a:Array Keyed}
theorem uQ(hi:i<a.size):(a.toList.drop i).take 1=[a.getD i nn]:=by
 have hl:i<a.toList.length:=by simpa using hi
 rw [List.drop_eq_getElem_cons hl];simp [Array.getD,hi]
theorem iO(a:Array Keyed)(i j:Nat):(a.extract i j).toList=(a.toList.drop i).take (j-i):=by rw [Array.toList_extract,List.extract_eq_take_drop]
theorem xq(a:Array Keyed)(i:Nat):(a.extract i a.size).toList=a.toList.drop i:=by rw [iO];refine tT ?_;simp
variable {x:Keyed}
theorem oD(h:x∈a.toList.drop i):∃j,i≤j∧j<a.size∧x=a.getD j nn:=by
 obtain ⟨j,hj,rfl⟩:=qw h;have dD:i+j<a.size:=by simp at hj;omega
 refine ⟨i+j,by omega,dD,?_⟩
 rw [List.getElem_drop];simp [Array.getD,dD]
theorem AS{k:Nat}(h:x∈(a.toList.drop i).take k):∃j,j<k∧i+j<a.size∧x=a.getD (i+j) nn:=by
 obtain ⟨j,hj,rfl⟩:=qw h;have dD:i+j<a.size∧j<k:=by simp at hj;omega
 refine ⟨j,dD.2,dD.1,?_⟩;rw [List.getElem_take,List.getElem_drop];simp [Array.getD,dD.1]
theorem eW(h:a_ key a.toList)(qQ:i≤j)(hj:j<a.size):key (a.getD i nn)≤key (a.getD j nn):=by
 have hi:i<a.size:=by omega
 by_cases e:i=j;·subst e;exact iy _
 ·have:=nH.mp h i j (by simpa using hi) (by simpa using hj) (by omega)
  simpa [Array.getD,hi,hj] using this
variable {st:SortSt}
theorem dY{c:Prop}[Decidable c]{α:Type}{m1 m2:StateT SortSt Sem α}{Q:α→SortSt→Prop}(h1:c→wpS (model prog w) A E s m1 Q st)(h2:¬c→wpS (model prog w) A E s m2 Q st):wpS (model prog w) A E s (if c then m1 else m2) Q st:=by
 by_cases h:c;·rw [ae h];exact h1 h
 ·rw [aa h];exact h2 h
theorem rb{g:Nat}{Q:Unit→SortSt→Prop}(q:Q () (setG st g)):wpS (model prog w) A E s (uN g) Q st:=i_ q
variable {k:Int}
theorem fZ{a:Int}(h:bB true k a=true):a<k:=d7 h
theorem gG{a:Int}(h:bB true k a=false):k≤a:=Int.not_lt.mp (of_decide_eq_false h)
theorem j4{a:Int}(h:bB false k a=true):a≤k:=by have:(!decide (k<a))=true:=h;simpa using this
theorem mQ{a:Int}(h:bB false k a=false):k<a:=by have:(!decide (k<a))=false:=h;simpa using this
variable {b:Array Keyed} {o:Nat}
theorem mR(sb:a_ key b.toList):∀i j,i≤j→j<b.size-o→bB true k (key (b.getD (o+j) nn))=true→bB true k (key (b.getD (o+i) nn))=true:=fun i j h1 h2 h3=>cf (Int.lt_of_le_of_lt (eW sb (by omega) (by omega)) (fZ h3))
theorem xr(sb:a_ key b.toList):∀i j,i≤j→j<b.size-o→bB false k (key (b.getD (o+j) nn))=true→bB false k (key (b.getD (o+i) nn))=true:=fun i j h1 h2 h3=>by
 have:key (b.getD (o+i) nn)≤k:=cF (eW sb (by omega) (by omega)) (j4 h3)
 show (!decide (k<key (b.getD (o+i) nn)))=true;simpa using this
section
variable {a b:Array Keyed} (sa:a_ key a.toList) (sb:a_ key b.toList) {out:Array Keyed} {ia ib:Nat}
include sa sb
theorem rd(m:MI key a.toList b.toList out.toList ia ib)(hb:ib<b.size)(k:∀j,ia≤j→j<a.size→key (b.getD ib nn)≤key (a.getD j nn)):MI key a.toList b.toList (out.push (b.getD ib nn)).toList ia (ib+1):=by
 have:=m.AR sb 1 fun x hx y hy=>by rw [uQ hb,cg] at hx;subst hx;obtain ⟨j,h1,h2,rfl⟩:=oD hy;exact k j h1 h2
 rw [uQ hb] at this;rw [lU];exact this
theorem kY(m:MI key a.toList b.toList out.toList ia ib)(ha:ia<a.size)(k:∀j,ib≤j→j<b.size→key (a.getD ia nn)≤key (b.getD j nn)):MI key a.toList b.toList (out.push (a.getD ia nn)).toList (ia+1) ib:=by
 have:=m.xm sa 1 fun x hx y hy=>by rw [uQ ha,cg] at hx;subst hx;obtain ⟨j,h1,h2,rfl⟩:=oD hy;exact k j h1 h2
 rw [uQ ha] at this;rw [lU];exact this
variable {n:Nat}
theorem EK(m:MI key a.toList b.toList out.toList ia ib)(k:∀i j,i<n→ia+i<a.size→ib≤j→j<b.size→key (a.getD (ia+i) nn)≤key (b.getD j nn)):MI key a.toList b.toList (out++a.extract ia (ia+n)).toList (ia+n) ib:=by
 have:=m.xm sa n fun x hx y hy=>by obtain ⟨i,h3,h4,rfl⟩:=AS hx;obtain ⟨j,h1,h2,rfl⟩:=oD hy;exact k i j h3 h4 h1 h2
 rw [jL,iO,show ia+n-ia=n by omega]
 exact this
theorem xt(m:MI key a.toList b.toList out.toList ia ib)(k:∀i j,i<n→ib+i<b.size→ia≤j→j<a.size→key (b.getD (ib+i) nn)≤key (a.getD j nn)):MI key a.toList b.toList (out++b.extract ib (ib+n)).toList ia (ib+n):=by
 have:=m.AR sb n fun x hx y hy=>by obtain ⟨i,h3,h4,rfl⟩:=AS hx;obtain ⟨j,h1,h2,rfl⟩:=oD hy;exact k i j h3 h4 h1 h2
 rw [jL,iO,show ib+n-ib=n by omega]
 exact this
theorem iP(m:MI key a.toList b.toList out.toList ia ib)(e:ib=b.size∨ia=a.size):(out++a.extract ia a.size++b.extract ib b.size).toList.Perm (a.toList++b.toList)∧a_ key (out++a.extract ia a.size++b.extract ib b.size).toList:=by rw [jL,jL,xq,xq];refine m.done sa sb fun x hx y hy=>?_;obtain ⟨i,h1,h2,_⟩:=oD hx;obtain ⟨j,h3,h4,_⟩:=oD hy;omega
theorem iQ(m:MI key a.toList b.toList out.toList ia ib)(hl:∀y∈b.toList,key y≤key (a.getD (a.size-1) nn))(e:ia+1=a.size):(out++b.extract ib b.size++a.extract ia a.size).toList.Perm (a.toList++b.toList)∧a_ key (out++b.extract ib b.size++a.extract ia a.size).toList:=by
 rw [jL,jL,xq,xq];refine m.EJ sa sb fun x hx y hy=>?_;obtain ⟨i,h1,h2,rfl⟩:=oD hx;have:=hl y (List.mem_of_mem_drop hy);rw [show i=a.size-1 by omega]
 exact this
end
theorem MC(h:g8 prog w A s κ key Ok)(oa:d9 Ok a)(ob:d9 Ok b)(sa:a_ key a.toList)(sb:a_ key b.toList)(a1:1≤a.size)(b1:1≤b.size)
  (h0:∀x∈a.toList,key (b.getD 0 nn)≤key x) (hl:∀y∈b.toList,key y≤key (a.getD (a.size-1) nn)) (hk:kindOf st=κ) {Q:Array Keyed→SortSt→Prop}
  (q:∀m g,m.toList.Perm (a.toList++b.toList)→a_ key m.toList→Q m (setG st g)):wpS (model prog w) A E s (AN a b) Q st:=by
 rw [MA];refine ak (wpS_lift (i7 ⟨rfl,?_⟩));refine ak (bh (by omega) ?_)
 dsimp only;have m0:MI key a.toList b.toList (#[b.getD 0 nn]:Array Keyed).toList 0 1:=by
  have:MI key a.toList b.toList (#[]:Array Keyed).toList 0 0:=⟨by simp,List.Pairwise.nil,fun x hx=>by simp at hx,fun x hx=>by simp at hx⟩
  exact rd sa sb this (by omega) fun j _ hj=>h0 _ (by simp [Array.getD,hj])
 have cw:∀g,kindOf (setG st g)=κ:=fun _=>hk;by_cases e1:(1 == b.size)=true
 ·rw [ae e1]
  have:=iP sa sb m0 (.inl (eq_of_beq e1));exact aj (q _ (gallopOf st) this.1 this.2)
 rw [aa e1];by_cases e2:(0+1 == a.size)=true
 ·rw [ae e2]
  have:=iQ sa sb m0 hl (eq_of_beq e2);exact aj (q _ (gallopOf st) this.1 this.2)
 rw [aa e2];have b2:1<b.size:=by
  have:1≠b.size:=fun e=>e1 (by simp [←e])
  omega
 have a2:0+1<a.size:=by
  have:0+1≠a.size:=fun e=>e2 (by simp [←e])
  omega
 refine ak (gQ ?_)
 refine ak (fb (eO (I:=fun x c aq=>∃out ia ib mg g,c=(none,out,ia,ib,mg)∧aq=setG st g∧MI key a.toList b.toList out.toList ia ib∧ia+1<a.size∧ib<b.size∧x≤ia+ib)
  (Q:=fun c aq=>∃m g,c.1=some m∧aq=setG st g∧m.toList.Perm (a.toList++b.toList)∧a_ key m.toList) ?_ ?_ ⟨_,_,_,_,gallopOf st,rfl,rfl,m0,a2,b2,bU _⟩) ?_)
 ·rintro x c aq _ hx ⟨out,ia,ib,mg,g,rfl,rfl,mi,ha,hb,AU⟩
  dsimp only
  refine ak (fb (eO (I:=fun y c aq=>∃out fD f9 ac bc,c=(none,out,fD,f9,ac,bc)∧aq=setG st g∧MI key a.toList b.toList out.toList fD f9∧fD+1<a.size∧f9<b.size∧ia+ib+y≤fD+f9)
   (Q:=fun c aq=>aq=setG st g∧((∃m,c.1=some m∧m.toList.Perm (a.toList++b.toList)∧a_ key m.toList)∨∃out fD f9 ac bc,c=(none,out,fD,f9,ac,bc)∧MI key a.toList b.toList out.toList fD f9∧fD+1<a.size∧f9<b.size∧ia+ib+1≤fD+f9)) ?_ ?_ ⟨_,_,_,_,_,rfl,rfl,mi,ha,hb,aw _⟩) ?_)
  ·rintro y c aq _ hy ⟨out,fD,f9,ac,bc,rfl,rfl,mi,ha,hb,f_⟩
   dsimp only;refine ak (bh hb (ak (bh (by omega) (ak (uP h (ob _ hb) (oa fD (by omega)) (cw _) ?_)))))
   dsimp only;by_cases z:key (b.getD f9 nn)<key (a.getD fD nn)
   ·rw [cf z,ae rfl]
    refine ak (bh hb ?_);have gc:=rd sa sb mi hb fun j h1 h2=>cF (cE z) (eW sa h1 h2);by_cases z1:(f9+1 == b.size)=true
    ·rw [ae z1]
     exact aj ⟨rfl,.inl ⟨_,rfl,iP sa sb gc (.inl (eq_of_beq z1))⟩⟩
    ·rw [aa z1]
     have xu:f9+1≠b.size:=fun e=>z1 (by simp [←e])
     by_cases z2:bc+1≥mg
     ·rw [ae z2]
      exact aj ⟨rfl,.inr ⟨_,_,_,_,_,rfl,gc,ha,by omega,by omega⟩⟩
     ·rw [aa z2]
      exact aj ⟨_,_,_,_,_,rfl,rfl,gc,ha,by omega,by omega⟩
   ·rw [bV z,aa (by simp)]
    refine ak (bh (by omega) ?_)
    have gc:=kY sa sb mi (by omega) fun j h1 h2=>cF (Int.not_lt.mp z) (eW sb h1 h2)
    by_cases z1:(fD+1+1 == a.size)=true
    ·rw [ae z1]
     exact aj ⟨rfl,.inl ⟨_,rfl,iQ sa sb gc hl (eq_of_beq z1)⟩⟩
    ·rw [aa z1]
     have xu:fD+1+1≠a.size:=fun e=>z1 (by simp [←e])
     by_cases z2:ac+1≥mg
     ·rw [ae z2]
      exact aj ⟨rfl,.inr ⟨_,_,_,_,_,rfl,gc,by omega,hb,by omega⟩⟩
     ·rw [aa z2]
      exact aj ⟨_,_,_,_,_,rfl,rfl,gc,by omega,hb,by omega⟩
  ·rintro c aq ⟨out,fD,f9,ac,bc,rfl,rfl,mi,ha,hb,f_⟩
   exact ⟨rfl,.inr ⟨_,_,_,_,_,rfl,mi,ha,hb,by omega⟩⟩
  ·rintro c aq ⟨rfl,⟨m,e,pm⟩ | ⟨out,fD,f9,ac,bc,rfl,mi,ha,hb,f_⟩⟩
   ·obtain ⟨c1,c2⟩:=c
    dsimp only at e;subst e;exact aj ⟨m,g,rfl,rfl,pm⟩
   ·dsimp only
    refine ak (wpS_lift (i7 ⟨rfl,?_⟩))
    refine ak (fb (eO (I:=fun y c aq=>∃out i j mg ac bc g,c=(none,out,i,j,mg,ac,bc)∧aq=setG st g∧MI key a.toList b.toList out.toList i j∧i+1<a.size∧j<b.size∧x+1≤i+j)
     (Q:=fun c aq=>(∃m g,c.1=some m∧aq=setG st g∧m.toList.Perm (a.toList++b.toList)∧a_ key m.toList)∨∃out i j mg ac bc g,c=(none,out,i,j,mg,ac,bc)∧aq=setG st g∧MI key a.toList b.toList out.toList i j∧i+1<a.size∧j<b.size∧x+1≤i+j) ?_ ?_ ⟨_,_,_,_,_,_,g,rfl,rfl,mi,ha,hb,by omega⟩) ?_)
    ·clear mi ha hb f_
     rintro y c aq _ hy ⟨out,ia,ib,mg,ac,bc,g,rfl,rfl,mi,ha,hb,f_⟩;dsimp only;rcases qy 1 mg with zm | zm
     ·rw [ae zm]
      refine ak (rb ?_);refine ak (bh hb (ak (gF (f:=fun i=>bB false (key (b.getD ib nn)) (key (a.getD (ia+i) nn))) (fun i hi Q q=>gE h (by omega) oa (ob _ hb) (cw _) q) (by omega) (xr sa) fun k k1 k2 k3=>?_)))
      dsimp only;by_cases zk:k>0
      ·rw [ae zk]
       have gf:=EK sa sb mi (n:=k) fun i j hi aX hj dD=>cF (j4 (k2 i hi)) (eW sb hj dD);by_cases w1:(ia+k+1 == a.size)=true
       ·rw [ae w1]
        exact aj (.inl ⟨_,_,rfl,rfl,iQ sa sb gf hl (eq_of_beq w1)⟩)
       ·rw [aa w1]
        have AV:ia+k+1≠a.size:=fun e=>w1 (by simp [←e])
        by_cases w2:(ia+k == a.size)=true
        ·rw [ae w2]
         exact aj (.inl ⟨_,_,rfl,rfl,iP sa sb gf (.inr (eq_of_beq w2))⟩)
        ·rw [aa w2]
         have MD:ia+k≠a.size:=fun e=>w2 (by simp [←e])
         refine ak (bh hb ?_);have b7:=rd sa sb gf hb fun j h1 h2=>by have:=mQ (k3 (j-ia) (by omega) (by omega));rw [show ia+(j-ia)=j by omega] at this;exact cE this
         by_cases x1:(ib+1 == b.size)=true
         ·rw [ae x1]
          exact aj (.inl ⟨_,_,rfl,rfl,iP sa sb b7 (.inl (eq_of_beq x1))⟩)
         ·rw [aa x1]
          have oE:ib+1≠b.size:=fun e=>x1 (by simp [←e])
          refine ak (bh (by omega) (ak (gF (f:=fun i=>bB true (key (a.getD (ia+k) nn)) (key (b.getD (ib+1+i) nn))) (fun i hi Q q=>gE h (by omega) ob (oa _ (by omega)) (cw _) q) (by omega) (mR sb) fun k' q1 q2 q3=>?_)))
          dsimp only;by_cases dG:k'>0
          ·rw [ae dG]
           have da:=xt sa sb b7 (n:=k') fun i j hi aX hj dD=>cF (cE (fZ (q2 i hi))) (eW sa hj dD);by_cases x2:(ib+1+k' == b.size)=true
           ·rw [ae x2]
            exact aj (.inl ⟨_,_,rfl,rfl,iP sa sb da (.inl (eq_of_beq x2))⟩)
           ·rw [aa x2]
            have oF:ib+1+k'≠b.size:=fun e=>x2 (by simp [←e])
            refine ak (bh (by omega) ?_)
            have aT:=kY sa sb da (by omega) fun j h1 h2=>by have:=gG (q3 (j-(ib+1)) (by omega) (by omega));rwa [show ib+1+(j-(ib+1))=j by omega] at this
            by_cases y1:(ia+k+1+1 == a.size)=true
            ·rw [ae y1]
             exact aj (.inl ⟨_,_,rfl,rfl,iQ sa sb aT hl (eq_of_beq y1)⟩)
            ·rw [aa y1]
             have gg:ia+k+1+1≠a.size:=fun e=>y1 (by simp [←e])
             exact dY (fun _=>aj (.inr ⟨_,_,_,_,_,_,_,rfl,rfl,aT,by omega,by omega,by omega⟩)) (fun _=>aj ⟨_,_,_,_,_,_,_,rfl,rfl,aT,by omega,by omega,by omega⟩)
          ·rw [aa dG]
           obtain rfl:k'=0:=by omega
           refine ak (bh (by omega) ?_)
           have aT:=kY sa sb b7 (by omega) fun j h1 h2=>by have:=gG (q3 (j-(ib+1)) (by omega) (by omega));rwa [show ib+1+(j-(ib+1))=j by omega] at this
           by_cases y1:(ia+k+1+1 == a.size)=true
           ·rw [ae y1]
            exact aj (.inl ⟨_,_,rfl,rfl,iQ sa sb aT hl (eq_of_beq y1)⟩)
           ·rw [aa y1]
            have gg:ia+k+1+1≠a.size:=fun e=>y1 (by simp [←e])
            exact dY (fun _=>aj (.inr ⟨_,_,_,_,_,_,_,rfl,rfl,aT,by omega,by omega,by omega⟩)) (fun _=>aj ⟨_,_,_,_,_,_,_,rfl,rfl,aT,by omega,by omega,by omega⟩)
      ·rw [aa zk]
       obtain rfl:k=0:=by omega
       refine ak (bh hb ?_);have b7:=rd sa sb mi hb fun j h1 h2=>by have:=mQ (k3 (j-ia) (by omega) (by omega));rw [show ia+(j-ia)=j by omega] at this;exact cE this
       by_cases x1:(ib+1 == b.size)=true
       ·rw [ae x1]
        exact aj (.inl ⟨_,_,rfl,rfl,iP sa sb b7 (.inl (eq_of_beq x1))⟩)
       ·rw [aa x1]
        have oE:ib+1≠b.size:=fun e=>x1 (by simp [←e])
        refine ak (bh (by omega) (ak (gF (f:=fun i=>bB true (key (a.getD (ia) nn)) (key (b.getD (ib+1+i) nn))) (fun i hi Q q=>gE h (by omega) ob (oa _ (by omega)) (cw _) q) (by omega) (mR sb) fun k' q1 q2 q3=>?_)))
        dsimp only;by_cases dG:k'>0
        ·rw [ae dG]
         have da:=xt sa sb b7 (n:=k') fun i j hi aX hj dD=>cF (cE (fZ (q2 i hi))) (eW sa hj dD);by_cases x2:(ib+1+k' == b.size)=true
         ·rw [ae x2]
          exact aj (.inl ⟨_,_,rfl,rfl,iP sa sb da (.inl (eq_of_beq x2))⟩)
         ·rw [aa x2]
          have oF:ib+1+k'≠b.size:=fun e=>x2 (by simp [←e])
          refine ak (bh (by omega) ?_)
          have aT:=kY sa sb da (by omega) fun j h1 h2=>by have:=gG (q3 (j-(ib+1)) (by omega) (by omega));rwa [show ib+1+(j-(ib+1))=j by omega] at this
          by_cases y1:(ia+1+1 == a.size)=true
          ·rw [ae y1]
           exact aj (.inl ⟨_,_,rfl,rfl,iQ sa sb aT hl (eq_of_beq y1)⟩)
          ·rw [aa y1]
           have gg:ia+1+1≠a.size:=fun e=>y1 (by simp [←e])
           exact dY (fun _=>aj (.inr ⟨_,_,_,_,_,_,_,rfl,rfl,aT,by omega,by omega,by omega⟩)) (fun _=>aj ⟨_,_,_,_,_,_,_,rfl,rfl,aT,by omega,by omega,by omega⟩)
        ·rw [aa dG]
         obtain rfl:k'=0:=by omega
         refine ak (bh (by omega) ?_)
         have aT:=kY sa sb b7 (by omega) fun j h1 h2=>by have:=gG (q3 (j-(ib+1)) (by omega) (by omega));rwa [show ib+1+(j-(ib+1))=j by omega] at this
         by_cases y1:(ia+1+1 == a.size)=true
         ·rw [ae y1]
          exact aj (.inl ⟨_,_,rfl,rfl,iQ sa sb aT hl (eq_of_beq y1)⟩)
         ·rw [aa y1]
          have gg:ia+1+1≠a.size:=fun e=>y1 (by simp [←e])
          exact dY (fun _=>aj (.inr ⟨_,_,_,_,_,_,_,rfl,rfl,aT,by omega,by omega,by omega⟩)) (fun _=>aj ⟨_,_,_,_,_,_,_,rfl,rfl,aT,by omega,by omega,by omega⟩)
     ·rw [aa (by omega)]
      refine ak (rb ?_);refine ak (bh hb (ak (gF (f:=fun i=>bB false (key (b.getD ib nn)) (key (a.getD (ia+i) nn))) (fun i hi Q q=>gE h (by omega) oa (ob _ hb) (cw _) q) (by omega) (xr sa) fun k k1 k2 k3=>?_)))
      dsimp only;by_cases zk:k>0
      ·rw [ae zk]
       have gf:=EK sa sb mi (n:=k) fun i j hi aX hj dD=>cF (j4 (k2 i hi)) (eW sb hj dD);by_cases w1:(ia+k+1 == a.size)=true
       ·rw [ae w1]
        exact aj (.inl ⟨_,_,rfl,rfl,iQ sa sb gf hl (eq_of_beq w1)⟩)
       ·rw [aa w1]
        have AV:ia+k+1≠a.size:=fun e=>w1 (by simp [←e])
        by_cases w2:(ia+k == a.size)=true
        ·rw [ae w2]
         exact aj (.inl ⟨_,_,rfl,rfl,iP sa sb gf (.inr (eq_of_beq w2))⟩)
        ·rw [aa w2]
         have MD:ia+k≠a.size:=fun e=>w2 (by simp [←e])
         refine ak (bh hb ?_);have b7:=rd sa sb gf hb fun j h1 h2=>by have:=mQ (k3 (j-ia) (by omega) (by omega));rw [show ia+(j-ia)=j by omega] at this;exact cE this
         by_cases x1:(ib+1 == b.size)=true
         ·rw [ae x1]
          exact aj (.inl ⟨_,_,rfl,rfl,iP sa sb b7 (.inl (eq_of_beq x1))⟩)
         ·rw [aa x1]
          have oE:ib+1≠b.size:=fun e=>x1 (by simp [←e])
          refine ak (bh (by omega) (ak (gF (f:=fun i=>bB true (key (a.getD (ia+k) nn)) (key (b.getD (ib+1+i) nn))) (fun i hi Q q=>gE h (by omega) ob (oa _ (by omega)) (cw _) q) (by omega) (mR sb) fun k' q1 q2 q3=>?_)))
          dsimp only;by_cases dG:k'>0
          ·rw [ae dG]
           have da:=xt sa sb b7 (n:=k') fun i j hi aX hj dD=>cF (cE (fZ (q2 i hi))) (eW sa hj dD);by_cases x2:(ib+1+k' == b.size)=true
           ·rw [ae x2]
            exact aj (.inl ⟨_,_,rfl,rfl,iP sa sb da (.inl (eq_of_beq x2))⟩)
           ·rw [aa x2]
            have oF:ib+1+k'≠b.size:=fun e=>x2 (by simp [←e])
            refine ak (bh (by omega) ?_)
            have aT:=kY sa sb da (by omega) fun j h1 h2=>by have:=gG (q3 (j-(ib+1)) (by omega) (by omega));rwa [show ib+1+(j-(ib+1))=j by omega] at this
            by_cases y1:(ia+k+1+1 == a.size)=true
            ·rw [ae y1]
             exact aj (.inl ⟨_,_,rfl,rfl,iQ sa sb aT hl (eq_of_beq y1)⟩)
            ·rw [aa y1]
             have gg:ia+k+1+1≠a.size:=fun e=>y1 (by simp [←e])
             exact dY (fun _=>aj (.inr ⟨_,_,_,_,_,_,_,rfl,rfl,aT,by omega,by omega,by omega⟩)) (fun _=>aj ⟨_,_,_,_,_,_,_,rfl,rfl,aT,by omega,by omega,by omega⟩)
          ·rw [aa dG]
           obtain rfl:k'=0:=by omega
           refine ak (bh (by omega) ?_)
           have aT:=kY sa sb b7 (by omega) fun j h1 h2=>by have:=gG (q3 (j-(ib+1)) (by omega) (by omega));rwa [show ib+1+(j-(ib+1))=j by omega] at this
           by_cases y1:(ia+k+1+1 == a.size)=true
           ·rw [ae y1]
            exact aj (.inl ⟨_,_,rfl,rfl,iQ sa sb aT hl (eq_of_beq y1)⟩)
           ·rw [aa y1]
            have gg:ia+k+1+1≠a.size:=fun e=>y1 (by simp [←e])
            exact dY (fun _=>aj (.inr ⟨_,_,_,_,_,_,_,rfl,rfl,aT,by omega,by omega,by omega⟩)) (fun _=>aj ⟨_,_,_,_,_,_,_,rfl,rfl,aT,by omega,by omega,by omega⟩)
      ·rw [aa zk]
       obtain rfl:k=0:=by omega
       refine ak (bh hb ?_);have b7:=rd sa sb mi hb fun j h1 h2=>by have:=mQ (k3 (j-ia) (by omega) (by omega));rw [show ia+(j-ia)=j by omega] at this;exact cE this
       by_cases x1:(ib+1 == b.size)=true
       ·rw [ae x1]
        exact aj (.inl ⟨_,_,rfl,rfl,iP sa sb b7 (.inl (eq_of_beq x1))⟩)
       ·rw [aa x1]
        have oE:ib+1≠b.size:=fun e=>x1 (by simp [←e])
        refine ak (bh (by omega) (ak (gF (f:=fun i=>bB true (key (a.getD (ia) nn)) (key (b.getD (ib+1+i) nn))) (fun i hi Q q=>gE h (by omega) ob (oa _ (by omega)) (cw _) q) (by omega) (mR sb) fun k' q1 q2 q3=>?_)))
        dsimp only;by_cases dG:k'>0
        ·rw [ae dG]
         have da:=xt sa sb b7 (n:=k') fun i j hi aX hj dD=>cF (cE (fZ (q2 i hi))) (eW sa hj dD);by_cases x2:(ib+1+k' == b.size)=true
         ·rw [ae x2]
          exact aj (.inl ⟨_,_,rfl,rfl,iP sa sb da (.inl (eq_of_beq x2))⟩)
         ·rw [aa x2]
          have oF:ib+1+k'≠b.size:=fun e=>x2 (by simp [←e])
          refine ak (bh (by omega) ?_)
          have aT:=kY sa sb da (by omega) fun j h1 h2=>by have:=gG (q3 (j-(ib+1)) (by omega) (by omega));rwa [show ib+1+(j-(ib+1))=j by omega] at this
          by_cases y1:(ia+1+1 == a.size)=true
          ·rw [ae y1]
           exact aj (.inl ⟨_,_,rfl,rfl,iQ sa sb aT hl (eq_of_beq y1)⟩)
          ·rw [aa y1]
           have gg:ia+1+1≠a.size:=fun e=>y1 (by simp [←e])
           exact dY (fun _=>aj (.inr ⟨_,_,_,_,_,_,_,rfl,rfl,aT,by omega,by omega,by omega⟩)) (fun _=>aj ⟨_,_,_,_,_,_,_,rfl,rfl,aT,by omega,by omega,by omega⟩)
        ·rw [aa dG]
         obtain rfl:k'=0:=by omega
         refine ak (bh (by omega) ?_)
         have aT:=kY sa sb b7 (by omega) fun j h1 h2=>by have:=gG (q3 (j-(ib+1)) (by omega) (by omega));rwa [show ib+1+(j-(ib+1))=j by omega] at this
         by_cases y1:(ia+1+1 == a.size)=true
         ·rw [ae y1]
          exact aj (.inl ⟨_,_,rfl,rfl,iQ sa sb aT hl (eq_of_beq y1)⟩)
         ·rw [aa y1]
          have gg:ia+1+1≠a.size:=fun e=>y1 (by simp [←e])
          exact dY (fun _=>aj (.inr ⟨_,_,_,_,_,_,_,rfl,rfl,aT,by omega,by omega,by omega⟩)) (fun _=>aj ⟨_,_,_,_,_,_,_,rfl,rfl,aT,by omega,by omega,by omega⟩)
    ·rintro c aq ⟨out,i,j,mg,ac,bc,g,rfl,rfl,mi,ha,hb,f_⟩
     exact .inr ⟨_,_,_,_,_,_,_,rfl,rfl,mi,ha,hb,f_⟩
    ·rintro c aq (⟨m,g,e,rfl,pm⟩ | ⟨out,i,j,mg,ac,bc,g,rfl,rfl,mi,ha,hb,f_⟩)
     ·obtain ⟨c1,c2⟩:=c
      dsimp only at e;subst e;exact aj ⟨m,g,rfl,rfl,pm⟩
     ·dsimp only
      exact ak (rb (aj ⟨_,_,_,_,_,rfl,rfl,mi,ha,hb,by omega⟩))
 ·rintro c aq ⟨out,ia,ib,mg,g,rfl,rfl,mi,ha,hb,AU⟩
  exfalso
  omega
 ·rintro c aq ⟨m,g,e,rfl,pm,sm⟩
  obtain ⟨c1,c2⟩:=c;dsimp only at e;subst e;exact aj (q m g pm sm)
end
theorem ME(a b:Array Keyed):AO a b=(do
 rule "list.sort.merge-hi"
 let total:=a.size+b.size
 let done (out:Array Keyed) (na nb:Nat):=a.extract 0 na++b.extract 0 nb++out.reverse
 let xv (out:Array Keyed) (na nb:Nat):=b.extract 0 nb++a.extract 0 na++out.reverse
 let mut na:=a.size-1
 let mut nb:=b.size
 let mut out:Array Keyed:=#[←elem' a na]
 if na == 0 then return done out na nb
 if nb == 1 then return xv out na nb
 let mut minGallop:=gallopOf (←get)
 for _ in [0:total] do
  let mut g9:=0
  let mut g_:=0
  for _ in [0:total] do
   let some MF ←lt' (←elem' b (nb-1)) (←elem' a (na-1)) | return done out na nb
   if MF then
    na:=na-1;out:=out.push (←elem' a na);g9:=g9+1;g_:=0
    if na == 0 then return done out na nb
    if g9≥minGallop then break
   else
    nb:=nb-1;out:=out.push (←elem' b nb);g_:=g_+1;g9:=0
    if nb == 1 then return xv out na nb
    if g_≥minGallop then break
  rule "list.sort.gallop"
  minGallop:=minGallop+1
  for _ in [0:total] do
   if minGallop>1 then minGallop:=minGallop-1
   uN minGallop
   let some at_ ←mP false (←elem' b (nb-1)) a 0 na (na-1) | return done out na nb
   let k:=na-at_
   g9:=k
   if k>0 then
    out:=out++(a.extract at_ na).reverse;na:=at_
    if na == 0 then return done out na nb
   nb:=nb-1;out:=out.push (←elem' b nb)
   if nb == 1 then return xv out na nb
   let some at_ ←mP true (←elem' a (na-1)) b 0 nb (nb-1) | return done out na nb
   let k:=nb-at_
   g_:=k
   if k>0 then
    out:=out++(b.extract at_ nb).reverse;nb:=at_
    if nb == 1 then return xv out na nb
    if nb == 0 then return done out na nb
   na:=na-1;out:=out.push (←elem' a na)
   if na == 0 then return done out na nb
   if g9<7 && g_<7 then break
  minGallop:=minGallop+1
  uN minGallop
 unsupported "internal:list.sort.merge-bound"):=rfl
section
variable {key:Keyed→Int}
theorem rf(h:a_ key l):a_ (fun x=>-key x) l.reverse:=by unfold a_;rw [zK];exact List.Pairwise.imp (fun h=>Int.neg_le_neg h) h
theorem EL(h:a_ (fun x=>-key x) l):a_ key l.reverse:=by unfold a_;rw [zK];exact List.Pairwise.imp (fun h=>Int.le_of_neg_le_neg h) h
variable {a:Array Keyed} {n:Nat}
theorem jy(h:n≤a.size):a.toList.reverse.drop (a.size-n)=(a.extract 0 n).toList.reverse:=by rw [List.drop_reverse,iO,List.drop_zero,Nat.sub_zero,ee,show a.size-(a.size-n)=n by omega]
theorem xw{m:Nat}(h:n≤a.size)(hm:m≤n):(a.toList.reverse.drop (a.size-n)).take (n-m)=(a.extract m n).reverse.toList:=by rw [jy h,qz,iO,iO,List.drop_zero,Nat.sub_zero,List.take_reverse,nF,ee,show min n a.size-(n-m)=m by omega,List.drop_take]
theorem kZ{m:Nat}(h:n≤a.size){x:Keyed}(hx:x∈(a.extract m n).toList):∃j,m≤j∧j<n∧x=a.getD j nn:=by rw [iO] at hx;obtain ⟨j,h1,h2,rfl⟩:=AS hx;exact ⟨m+j,by omega,by omega,rfl⟩
theorem EM(h:n≤a.size)(h1:1≤n):(a.extract (n-1) n).reverse.toList=[a.getD (n-1) nn]:=by
 rw [qz,iO,show n-(n-1)=1 by omega,uQ (by omega)]
 rfl
def MH(key:Keyed→Int)(a b out:Array Keyed)(na nb:Nat):Prop:=MI (fun x=>-key x) a.toList.reverse b.toList.reverse out.toList (a.size-na) (b.size-nb)∧na≤a.size∧nb≤b.size
variable {a b:Array Keyed} (sa:a_ key a.toList) (sb:a_ key b.toList) {out:Array Keyed} {na nb:Nat}
include sa sb
variable {k:Nat}
theorem AW(m:MH key a b out na nb)(hk:k≤na)(c:∀i j,k≤i→i<na→j<nb→key (b.getD j nn)≤key (a.getD i nn)):MH key a b (out++(a.extract k na).reverse) k nb:=by
 obtain ⟨m,ha,hb⟩:=m;refine ⟨?_,by omega,hb⟩
 have:=m.xm (rf sa) (na-k) fun x hx y hy=>by rw [xw ha hk,qz,lV] at hx;rw [jy hb,lV] at hy;obtain ⟨i,i1,i2,rfl⟩:=kZ ha hx;obtain ⟨j,j1,j2,rfl⟩:=kZ hb hy;have:=c i j i1 i2 j2;omega
 rw [xw ha hk,show a.size-na+(na-k)=a.size-k by omega] at this
 rw [jL];exact this
theorem uR(m:MH key a b out na nb)(hk:k≤nb)(c:∀i j,k≤i→i<nb→j<na→key (a.getD j nn)≤key (b.getD i nn)):MH key a b (out++(b.extract k nb).reverse) na k:=by
 obtain ⟨m,ha,hb⟩:=m;refine ⟨?_,ha,by omega⟩
 have:=m.AR (rf sb) (nb-k) fun x hx y hy=>by rw [xw hb hk,qz,lV] at hx;rw [jy ha,lV] at hy;obtain ⟨i,i1,i2,rfl⟩:=kZ hb hx;obtain ⟨j,j1,j2,rfl⟩:=kZ ha hy;have:=c i j i1 i2 j2;omega
 rw [xw hb hk,show b.size-nb+(nb-k)=b.size-k by omega] at this
 rw [jL];exact this
theorem j6(m:MH key a b out na nb)(h1:1≤na)(c:∀j,j<nb→key (b.getD j nn)≤key (a.getD (na-1) nn)):MH key a b (out.push (a.getD (na-1) nn)) (na-1) nb:=by
 have:=AW sa sb m (k:=na-1) (by omega) fun i j i1 i2 j1=>by
  rw [show i=na-1 by omega]
  exact c j j1
 have e:out++(a.extract (na-1) na).reverse=out.push (a.getD (na-1) nn):=by apply Array.toList_inj.mp;rw [jL,EM m.2.1 h1,lU]
 rw [e] at this;exact this
theorem uS(m:MH key a b out na nb)(h1:1≤nb)(c:∀j,j<na→key (a.getD j nn)≤key (b.getD (nb-1) nn)):MH key a b (out.push (b.getD (nb-1) nn)) na (nb-1):=by
 have:=uR sa sb m (k:=nb-1) (by omega) fun i j i1 i2 j1=>by
  rw [show i=nb-1 by omega]
  exact c j j1
 have e:out++(b.extract (nb-1) nb).reverse=out.push (b.getD (nb-1) nn):=by apply Array.toList_inj.mp;rw [jL,EM m.2.2 h1,lU]
 rw [e] at this;exact this
theorem fE(m:MH key a b out na nb)(e:na=0∨nb=0):(a.extract 0 na++b.extract 0 nb++out.reverse).toList.Perm (a.toList++b.toList)∧a_ key (a.extract 0 na++b.extract 0 nb++out.reverse).toList:=by
 obtain ⟨m,ha,hb⟩:=m;have:=m.EJ (rf sa) (rf sb) fun x hx y hy=>by rw [jy ha,lV] at hx;rw [jy hb,lV] at hy;obtain ⟨i,i1,i2,_⟩:=kZ ha hx;obtain ⟨j,j1,j2,_⟩:=kZ hb hy;omega
 rw [jy ha,jy hb] at this;have er:(a.extract 0 na++b.extract 0 nb++out.reverse).toList=(out.toList++(b.extract 0 nb).toList.reverse++(a.extract 0 na).toList.reverse).reverse:=by simp
 rw [er];refine ⟨(lW _).trans (this.1.trans ?_),EL this.2⟩;exact (lW _).append (lW _)
theorem j7(m:MH key a b out na nb)(h0:∀x∈a.toList,key (b.getD 0 nn)≤key x)(e:nb=1):(b.extract 0 nb++a.extract 0 na++out.reverse).toList.Perm (a.toList++b.toList)∧a_ key (b.extract 0 nb++a.extract 0 na++out.reverse).toList:=by
 obtain ⟨m,ha,hb⟩:=m;have:=m.done (rf sa) (rf sb) fun x hx y hy=>by
  rw [jy ha,lV] at hx;rw [jy hb,lV] at hy;obtain ⟨i,i1,i2,rfl⟩:=kZ ha hx;obtain ⟨j,j1,j2,rfl⟩:=kZ hb hy;have:=h0 (a.getD i nn) (by simp [Array.getD,show i<a.size by omega])
  rw [show j=0 by omega]
  omega
 rw [jy ha,jy hb] at this;have er:(b.extract 0 nb++a.extract 0 na++out.reverse).toList=(out.toList++(a.extract 0 na).toList.reverse++(b.extract 0 nb).toList.reverse).reverse:=by simp
 rw [er];refine ⟨(lW _).trans (this.1.trans ?_),EL this.2⟩;exact (lW _).append (lW _)
end
section
variable {prog:Program} {w:World} {A:Around} {E:aE} {s:Shared} {κ:SortKind} {key:Keyed→Int} {Ok:Keyed→Prop}
theorem MG(h:g8 prog w A s κ key Ok){a b:Array Keyed}(oa:d9 Ok a)(ob:d9 Ok b)(sa:a_ key a.toList)(sb:a_ key b.toList)(a1:1≤a.size)(b1:1≤b.size)
  (h0:∀x∈a.toList,key (b.getD 0 nn)≤key x) (hl:∀y∈b.toList,key y≤key (a.getD (a.size-1) nn)) {st:SortSt} (hk:kindOf st=κ) {Q:Array Keyed→SortSt→Prop}
  (q:∀m g,m.toList.Perm (a.toList++b.toList)→a_ key m.toList→Q m (setG st g)):wpS (model prog w) A E s (AO a b) Q st:=by
 rw [ME];refine ak (wpS_lift (i7 ⟨rfl,?_⟩));refine ak (bh (by omega) ?_)
 dsimp only;have m0:MH key a b (#[a.getD (a.size-1) nn]:Array Keyed) (a.size-1) b.size:=by
  have:MH key a b (#[]:Array Keyed) a.size b.size:=⟨⟨by simp,List.Pairwise.nil,fun x hx=>by simp at hx,fun x hx=>by simp at hx⟩,aw _,aw _⟩
  exact j6 sa sb this a1 fun j hj=>hl _ (by simp [Array.getD,hj])
 have cw:∀g,kindOf (setG st g)=κ:=fun _=>hk;by_cases e1:(a.size-1 == 0)=true
 ·rw [ae e1]
  have:=fE sa sb m0 (.inl (eq_of_beq e1));exact aj (q _ (gallopOf st) this.1 this.2)
 rw [aa e1];by_cases e2:(b.size == 1)=true
 ·rw [ae e2]
  have:=j7 sa sb m0 h0 (eq_of_beq e2);exact aj (q _ (gallopOf st) this.1 this.2)
 rw [aa e2];have a2:1≤a.size-1:=by
  have:a.size-1≠0:=fun e=>e1 (by simp [e])
  omega
 have b2:2≤b.size:=by
  have:b.size≠1:=fun e=>e2 (by simp [e])
  omega
 refine ak (gQ ?_)
 refine ak (fb (eO (I:=fun x c aq=>∃(out:Array Keyed) (na nb mg g:Nat),c=(none,na,nb,out,mg)∧aq=setG st g∧MH key a b out na nb∧1≤na∧2≤nb∧x+na+nb≤a.size+b.size)
  (Q:=fun c aq=>∃(m:Array Keyed) (g:Nat),c.1=some m∧aq=setG st g∧m.toList.Perm (a.toList++b.toList)∧a_ key m.toList) ?_ ?_ ⟨_,a.size-1,b.size,_,gallopOf st,rfl,rfl,m0,a2,b2,show 0+(a.size-1)+b.size≤a.size+b.size by omega⟩) ?_)
 ·rintro x c aq _ hx ⟨out,na,nb,mg,g,rfl,rfl,mi,ha,hb,AU⟩
  dsimp only
  refine ak (fb (eO (I:=fun y c aq=>∃(out:Array Keyed) (bb bT ac bc:Nat),c=(none,bb,bT,out,ac,bc)∧aq=setG st g∧MH key a b out bb bT∧1≤bb∧2≤bT∧y+bb+bT≤na+nb)
   (Q:=fun c aq=>aq=setG st g∧((∃m:Array Keyed,c.1=some m∧m.toList.Perm (a.toList++b.toList)∧a_ key m.toList)∨∃(out:Array Keyed) (bb bT ac bc:Nat),c=(none,bb,bT,out,ac,bc)∧MH key a b out bb bT∧1≤bb∧2≤bT∧1+bb+bT≤na+nb)) ?_ ?_ ⟨_,na,nb,_,_,rfl,rfl,mi,ha,hb,show 0+na+nb≤na+nb by omega⟩) ?_)
  ·rintro y c aq _ hy ⟨out,bb,bT,ac,bc,rfl,rfl,mi,ha,hb,f_⟩
   have uT:=mi.2.1;have n6:=mi.2.2;dsimp only;refine ak (bh (by omega) (ak (bh (by omega) (ak (uP h (ob (bT-1) (by omega)) (oa (bb-1) (by omega)) (cw _) ?_)))))
   dsimp only;by_cases z:key (b.getD (bT-1) nn)<key (a.getD (bb-1) nn)
   ·rw [cf z,ae rfl]
    refine ak (bh (by omega) ?_)
    have gc:=j6 sa sb mi ha fun j hj=>cF (eW sb (by omega) (by omega)) (cE z)
    by_cases z1:(bb-1 == 0)=true
    ·rw [ae z1]
     exact aj ⟨rfl,.inl ⟨_,rfl,fE sa sb gc (.inl (eq_of_beq z1))⟩⟩
    ·rw [aa z1]
     have xu:bb-1≠0:=fun e=>z1 (by simp [e])
     exact dY (fun _=>aj ⟨rfl,.inr ⟨_,_,_,_,_,rfl,gc,by omega,hb,by omega⟩⟩) (fun _=>aj ⟨_,_,_,_,_,rfl,rfl,gc,by omega,hb,by omega⟩)
   ·rw [bV z,aa (by simp)]
    refine ak (bh (by omega) ?_)
    have gc:=uS sa sb mi (by omega) fun j hj=>cF (eW sa (by omega) (by omega)) (Int.not_lt.mp z)
    by_cases z1:(bT-1 == 1)=true
    ·rw [ae z1]
     exact aj ⟨rfl,.inl ⟨_,rfl,j7 sa sb gc h0 (eq_of_beq z1)⟩⟩
    ·rw [aa z1]
     have xu:bT-1≠1:=fun e=>z1 (by simp [e])
     exact dY (fun _=>aj ⟨rfl,.inr ⟨_,_,_,_,_,rfl,gc,ha,by omega,by omega⟩⟩) (fun _=>aj ⟨_,_,_,_,_,rfl,rfl,gc,ha,by omega,by omega⟩)
  ·rintro c aq ⟨out,bb,bT,ac,bc,rfl,rfl,mi,ha,hb,f_⟩
   exact ⟨rfl,.inr ⟨_,_,_,_,_,rfl,mi,ha,hb,by omega⟩⟩
  ·rintro c aq ⟨rfl,⟨m,e,pm⟩ | ⟨out,bb,bT,ac,bc,rfl,mi,ha,hb,f_⟩⟩
   ·obtain ⟨c1,c2⟩:=c
    dsimp only at e;subst e;exact aj ⟨m,g,rfl,rfl,pm⟩
   ·dsimp only
    refine ak (wpS_lift (i7 ⟨rfl,?_⟩))
    refine ak (fb (eO (I:=fun y c aq=>∃(out:Array Keyed) (i j mg ac bc g:Nat),c=(none,i,j,out,mg,ac,bc)∧aq=setG st g∧MH key a b out i j∧1≤i∧2≤j∧x+1+i+j≤a.size+b.size)
     (Q:=fun c aq=>(∃(m:Array Keyed) (g:Nat),c.1=some m∧aq=setG st g∧m.toList.Perm (a.toList++b.toList)∧a_ key m.toList)∨∃(out:Array Keyed) (i j mg ac bc g:Nat),c=(none,i,j,out,mg,ac,bc)∧aq=setG st g∧MH key a b out i j∧1≤i∧2≤j∧x+1+i+j≤a.size+b.size) ?_ ?_ ⟨_,bb,bT,_,_,_,g,rfl,rfl,mi,ha,hb,by omega⟩) ?_)
    ·clear mi ha hb f_
     rintro y c aq _ hy ⟨out,na,nb,mg,ac,bc,g,rfl,rfl,mi,ha,hb,f_⟩;have uT:=mi.2.1;have n6:=mi.2.2;dsimp only;rcases qy 1 mg with zm | zm
     ·rw [ae zm]
      refine ak (rb ?_);refine ak (bh (by omega) (ak (gF (f:=fun i=>bB false (key (b.getD (nb-1) nn)) (key (a.getD (0+i) nn))) (fun i hi Q q=>gE h (by omega) oa (ob _ (by omega)) (cw _) q) (by omega) (fun i j h1 h2 h3=>xr sa (o:=0) i j h1 (by omega) h3) fun k k1 k2 k3=>?_)))
      dsimp only;by_cases zk:na-k>0
      ·rw [ae zk]
       have gf:=AW sa sb mi (k:=k) k1 fun i j hi aX hj=>by have:=mQ (k3 i hi aX);rw [dF] at this;exact cF (eW sb (by omega) (by omega)) (cE this)
       by_cases w1:(k == 0)=true
       ·rw [ae w1]
        exact aj (.inl ⟨_,_,rfl,rfl,fE sa sb gf (.inl (eq_of_beq w1))⟩)
       ·rw [aa w1]
        have AV:k≠0:=fun e=>w1 (by simp [e])
        refine ak (bh (by have:=gf.2.2;omega) ?_)
        have b7:=uS sa sb gf (by omega) fun j h1=>by have:=j4 (k2 j h1);rw [dF] at this;exact this
        by_cases x1:(nb-1 == 1)=true
        ·rw [ae x1]
         exact aj (.inl ⟨_,_,rfl,rfl,j7 sa sb b7 h0 (eq_of_beq x1)⟩)
        ·rw [aa x1]
         have oE:nb-1≠1:=fun e=>x1 (by simp [e])
         have n6:=b7.2.2;refine ak (bh (by omega) (ak (gF (f:=fun i=>bB true (key (a.getD (k-1) nn)) (key (b.getD (0+i) nn))) (fun i hi Q q=>gE h (by omega) ob (oa _ (by omega)) (cw _) q) (by omega) (fun i j h1 h2 h3=>mR sb (o:=0) i j h1 (by omega) h3) fun k' q1 q2 q3=>?_)))
         dsimp only;by_cases dG:nb-1-k'>0
         ·rw [ae dG]
          have da:=uR sa sb b7 (k:=k') q1 fun i j hi aX hj=>by have:=gG (q3 i hi aX);rw [dF] at this;exact cF (eW sa (by omega) (by omega)) this
          by_cases x2:(k' == 1)=true
          ·rw [ae x2]
           exact aj (.inl ⟨_,_,rfl,rfl,j7 sa sb da h0 (eq_of_beq x2)⟩)
          ·rw [aa x2]
           have oF:k'≠1:=fun e=>x2 (by simp [e])
           by_cases x3:(k' == 0)=true
           ·rw [ae x3]
            exact aj (.inl ⟨_,_,rfl,rfl,fE sa sb da (.inr (eq_of_beq x3))⟩)
           ·rw [aa x3]
            have AX:k'≠0:=fun e=>x3 (by simp [e])
            refine ak (bh (by omega) ?_)
            have aT:=j6 sa sb da (by omega) fun j h1=>by have:=fZ (q2 j h1);rw [dF] at this;exact cE this
            by_cases y1:(k-1 == 0)=true
            ·rw [ae y1]
             exact aj (.inl ⟨_,_,rfl,rfl,fE sa sb aT (.inl (eq_of_beq y1))⟩)
            ·rw [aa y1]
             have gg:k-1≠0:=fun e=>y1 (by simp [e])
             exact dY (fun _=>aj (.inr ⟨_,_,_,_,_,_,_,rfl,rfl,aT,by omega,by omega,by omega⟩)) (fun _=>aj ⟨_,_,_,_,_,_,_,rfl,rfl,aT,by omega,by omega,by omega⟩)
         ·rw [aa dG]
          obtain rfl:k'=nb-1:=by omega
          refine ak (bh (by omega) ?_)
          have aT:=j6 sa sb b7 (by omega) fun j h1=>by have:=fZ (q2 j h1);rw [dF] at this;exact cE this
          by_cases y1:(k-1 == 0)=true
          ·rw [ae y1]
           exact aj (.inl ⟨_,_,rfl,rfl,fE sa sb aT (.inl (eq_of_beq y1))⟩)
          ·rw [aa y1]
           have gg:k-1≠0:=fun e=>y1 (by simp [e])
           exact dY (fun _=>aj (.inr ⟨_,_,_,_,_,_,_,rfl,rfl,aT,by omega,by omega,by omega⟩)) (fun _=>aj ⟨_,_,_,_,_,_,_,rfl,rfl,aT,by omega,by omega,by omega⟩)
      ·rw [aa zk]
       obtain rfl:k=na:=by omega
       refine ak (bh (by have:=mi.2.2;omega) ?_)
       have b7:=uS sa sb mi (by omega) fun j h1=>by have:=j4 (k2 j h1);rw [dF] at this;exact this
       by_cases x1:(nb-1 == 1)=true
       ·rw [ae x1]
        exact aj (.inl ⟨_,_,rfl,rfl,j7 sa sb b7 h0 (eq_of_beq x1)⟩)
       ·rw [aa x1]
        have oE:nb-1≠1:=fun e=>x1 (by simp [e])
        have n6:=b7.2.2;refine ak (bh (by omega) (ak (gF (f:=fun i=>bB true (key (a.getD (k-1) nn)) (key (b.getD (0+i) nn))) (fun i hi Q q=>gE h (by omega) ob (oa _ (by omega)) (cw _) q) (by omega) (fun i j h1 h2 h3=>mR sb (o:=0) i j h1 (by omega) h3) fun k' q1 q2 q3=>?_)))
        dsimp only;by_cases dG:nb-1-k'>0
        ·rw [ae dG]
         have da:=uR sa sb b7 (k:=k') q1 fun i j hi aX hj=>by have:=gG (q3 i hi aX);rw [dF] at this;exact cF (eW sa (by omega) (by omega)) this
         by_cases x2:(k' == 1)=true
         ·rw [ae x2]
          exact aj (.inl ⟨_,_,rfl,rfl,j7 sa sb da h0 (eq_of_beq x2)⟩)
         ·rw [aa x2]
          have oF:k'≠1:=fun e=>x2 (by simp [e])
          by_cases x3:(k' == 0)=true
          ·rw [ae x3]
           exact aj (.inl ⟨_,_,rfl,rfl,fE sa sb da (.inr (eq_of_beq x3))⟩)
          ·rw [aa x3]
           have AX:k'≠0:=fun e=>x3 (by simp [e])
           refine ak (bh (by omega) ?_)
           have aT:=j6 sa sb da (by omega) fun j h1=>by have:=fZ (q2 j h1);rw [dF] at this;exact cE this
           by_cases y1:(k-1 == 0)=true
           ·rw [ae y1]
            exact aj (.inl ⟨_,_,rfl,rfl,fE sa sb aT (.inl (eq_of_beq y1))⟩)
           ·rw [aa y1]
            have gg:k-1≠0:=fun e=>y1 (by simp [e])
            exact dY (fun _=>aj (.inr ⟨_,_,_,_,_,_,_,rfl,rfl,aT,by omega,by omega,by omega⟩)) (fun _=>aj ⟨_,_,_,_,_,_,_,rfl,rfl,aT,by omega,by omega,by omega⟩)
        ·rw [aa dG]
         obtain rfl:k'=nb-1:=by omega
         refine ak (bh (by omega) ?_)
         have aT:=j6 sa sb b7 (by omega) fun j h1=>by have:=fZ (q2 j h1);rw [dF] at this;exact cE this
         by_cases y1:(k-1 == 0)=true
         ·rw [ae y1]
          exact aj (.inl ⟨_,_,rfl,rfl,fE sa sb aT (.inl (eq_of_beq y1))⟩)
         ·rw [aa y1]
          have gg:k-1≠0:=fun e=>y1 (by simp [e])
          exact dY (fun _=>aj (.inr ⟨_,_,_,_,_,_,_,rfl,rfl,aT,by omega,by omega,by omega⟩)) (fun _=>aj ⟨_,_,_,_,_,_,_,rfl,rfl,aT,by omega,by omega,by omega⟩)
     ·rw [aa (by omega)]
      refine ak (rb ?_);refine ak (bh (by omega) (ak (gF (f:=fun i=>bB false (key (b.getD (nb-1) nn)) (key (a.getD (0+i) nn))) (fun i hi Q q=>gE h (by omega) oa (ob _ (by omega)) (cw _) q) (by omega) (fun i j h1 h2 h3=>xr sa (o:=0) i j h1 (by omega) h3) fun k k1 k2 k3=>?_)))
      dsimp only;by_cases zk:na-k>0
      ·rw [ae zk]
       have gf:=AW sa sb mi (k:=k) k1 fun i j hi aX hj=>by have:=mQ (k3 i hi aX);rw [dF] at this;exact cF (eW sb (by omega) (by omega)) (cE this)
       by_cases w1:(k == 0)=true
       ·rw [ae w1]
        exact aj (.inl ⟨_,_,rfl,rfl,fE sa sb gf (.inl (eq_of_beq w1))⟩)
       ·rw [aa w1]
        have AV:k≠0:=fun e=>w1 (by simp [e])
        refine ak (bh (by have:=gf.2.2;omega) ?_)
        have b7:=uS sa sb gf (by omega) fun j h1=>by have:=j4 (k2 j h1);rw [dF] at this;exact this
        by_cases x1:(nb-1 == 1)=true
        ·rw [ae x1]
         exact aj (.inl ⟨_,_,rfl,rfl,j7 sa sb b7 h0 (eq_of_beq x1)⟩)
        ·rw [aa x1]
         have oE:nb-1≠1:=fun e=>x1 (by simp [e])
         have n6:=b7.2.2;refine ak (bh (by omega) (ak (gF (f:=fun i=>bB true (key (a.getD (k-1) nn)) (key (b.getD (0+i) nn))) (fun i hi Q q=>gE h (by omega) ob (oa _ (by omega)) (cw _) q) (by omega) (fun i j h1 h2 h3=>mR sb (o:=0) i j h1 (by omega) h3) fun k' q1 q2 q3=>?_)))
         dsimp only;by_cases dG:nb-1-k'>0
         ·rw [ae dG]
          have da:=uR sa sb b7 (k:=k') q1 fun i j hi aX hj=>by have:=gG (q3 i hi aX);rw [dF] at this;exact cF (eW sa (by omega) (by omega)) this
          by_cases x2:(k' == 1)=true
          ·rw [ae x2]
           exact aj (.inl ⟨_,_,rfl,rfl,j7 sa sb da h0 (eq_of_beq x2)⟩)
          ·rw [aa x2]
           have oF:k'≠1:=fun e=>x2 (by simp [e])
           by_cases x3:(k' == 0)=true
           ·rw [ae x3]
            exact aj (.inl ⟨_,_,rfl,rfl,fE sa sb da (.inr (eq_of_beq x3))⟩)
           ·rw [aa x3]
            have AX:k'≠0:=fun e=>x3 (by simp [e])
            refine ak (bh (by omega) ?_)
            have aT:=j6 sa sb da (by omega) fun j h1=>by have:=fZ (q2 j h1);rw [dF] at this;exact cE this
            by_cases y1:(k-1 == 0)=true
            ·rw [ae y1]
             exact aj (.inl ⟨_,_,rfl,rfl,fE sa sb aT (.inl (eq_of_beq y1))⟩)
            ·rw [aa y1]
             have gg:k-1≠0:=fun e=>y1 (by simp [e])
             exact dY (fun _=>aj (.inr ⟨_,_,_,_,_,_,_,rfl,rfl,aT,by omega,by omega,by omega⟩)) (fun _=>aj ⟨_,_,_,_,_,_,_,rfl,rfl,aT,by omega,by omega,by omega⟩)
         ·rw [aa dG]
          obtain rfl:k'=nb-1:=by omega
          refine ak (bh (by omega) ?_)
          have aT:=j6 sa sb b7 (by omega) fun j h1=>by have:=fZ (q2 j h1);rw [dF] at this;exact cE this
          by_cases y1:(k-1 == 0)=true
          ·rw [ae y1]
           exact aj (.inl ⟨_,_,rfl,rfl,fE sa sb aT (.inl (eq_of_beq y1))⟩)
          ·rw [aa y1]
           have gg:k-1≠0:=fun e=>y1 (by simp [e])
           exact dY (fun _=>aj (.inr ⟨_,_,_,_,_,_,_,rfl,rfl,aT,by omega,by omega,by omega⟩)) (fun _=>aj ⟨_,_,_,_,_,_,_,rfl,rfl,aT,by omega,by omega,by omega⟩)
      ·rw [aa zk]
       obtain rfl:k=na:=by omega
       refine ak (bh (by have:=mi.2.2;omega) ?_)
       have b7:=uS sa sb mi (by omega) fun j h1=>by have:=j4 (k2 j h1);rw [dF] at this;exact this
       by_cases x1:(nb-1 == 1)=true
       ·rw [ae x1]
        exact aj (.inl ⟨_,_,rfl,rfl,j7 sa sb b7 h0 (eq_of_beq x1)⟩)
       ·rw [aa x1]
        have oE:nb-1≠1:=fun e=>x1 (by simp [e])
        have n6:=b7.2.2;refine ak (bh (by omega) (ak (gF (f:=fun i=>bB true (key (a.getD (k-1) nn)) (key (b.getD (0+i) nn))) (fun i hi Q q=>gE h (by omega) ob (oa _ (by omega)) (cw _) q) (by omega) (fun i j h1 h2 h3=>mR sb (o:=0) i j h1 (by omega) h3) fun k' q1 q2 q3=>?_)))
        dsimp only;by_cases dG:nb-1-k'>0
        ·rw [ae dG]
         have da:=uR sa sb b7 (k:=k') q1 fun i j hi aX hj=>by have:=gG (q3 i hi aX);rw [dF] at this;exact cF (eW sa (by omega) (by omega)) this
         by_cases x2:(k' == 1)=true
         ·rw [ae x2]
          exact aj (.inl ⟨_,_,rfl,rfl,j7 sa sb da h0 (eq_of_beq x2)⟩)
         ·rw [aa x2]
          have oF:k'≠1:=fun e=>x2 (by simp [e])
          by_cases x3:(k' == 0)=true
          ·rw [ae x3]
           exact aj (.inl ⟨_,_,rfl,rfl,fE sa sb da (.inr (eq_of_beq x3))⟩)
          ·rw [aa x3]
           have AX:k'≠0:=fun e=>x3 (by simp [e])
           refine ak (bh (by omega) ?_)
           have aT:=j6 sa sb da (by omega) fun j h1=>by have:=fZ (q2 j h1);rw [dF] at this;exact cE this
           by_cases y1:(k-1 == 0)=true
           ·rw [ae y1]
            exact aj (.inl ⟨_,_,rfl,rfl,fE sa sb aT (.inl (eq_of_beq y1))⟩)
           ·rw [aa y1]
            have gg:k-1≠0:=fun e=>y1 (by simp [e])
            exact dY (fun _=>aj (.inr ⟨_,_,_,_,_,_,_,rfl,rfl,aT,by omega,by omega,by omega⟩)) (fun _=>aj ⟨_,_,_,_,_,_,_,rfl,rfl,aT,by omega,by omega,by omega⟩)
        ·rw [aa dG]
         obtain rfl:k'=nb-1:=by omega
         refine ak (bh (by omega) ?_)
         have aT:=j6 sa sb b7 (by omega) fun j h1=>by have:=fZ (q2 j h1);rw [dF] at this;exact cE this
         by_cases y1:(k-1 == 0)=true
         ·rw [ae y1]
          exact aj (.inl ⟨_,_,rfl,rfl,fE sa sb aT (.inl (eq_of_beq y1))⟩)
         ·rw [aa y1]
          have gg:k-1≠0:=fun e=>y1 (by simp [e])
          exact dY (fun _=>aj (.inr ⟨_,_,_,_,_,_,_,rfl,rfl,aT,by omega,by omega,by omega⟩)) (fun _=>aj ⟨_,_,_,_,_,_,_,rfl,rfl,aT,by omega,by omega,by omega⟩)
    ·rintro c aq ⟨out,i,j,mg,ac,bc,g,rfl,rfl,mi,ha,hb,f_⟩
     exact .inr ⟨_,_,_,_,_,_,_,rfl,rfl,mi,ha,hb,f_⟩
    ·rintro c aq (⟨m,g,e,rfl,pm⟩ | ⟨out,i,j,mg,ac,bc,g,rfl,rfl,mi,ha,hb,f_⟩)
     ·obtain ⟨c1,c2⟩:=c
      dsimp only at e;subst e;exact aj ⟨m,g,rfl,rfl,pm⟩
     ·dsimp only
      exact ak (rb (aj ⟨_,_,_,_,_,rfl,rfl,mi,ha,hb,by omega⟩))
 ·rintro c aq ⟨out,ia,ib,mg,g,rfl,rfl,mi,ha,hb,AU⟩
  exfalso
  omega
 ·rintro c aq ⟨m,g,e,rfl,pm,sm⟩
  obtain ⟨c1,c2⟩:=c;dsimp only at e;subst e;exact aj (q m g pm sm)
end
section
variable {prog:Program} {w:World} {A:Around} {E:aE} {s:Shared} {κ:SortKind} {key:Keyed→Int} {Ok:Keyed→Prop}
def vA(key:Keyed→Int)(arr:Array Keyed)(i:Nat):Int:=key (arr.getD i nn)
def cx(key:Keyed→Int)(arr:Array Keyed)(lo hi:Nat):Prop:=∀i j,lo≤i→i≤j→j<hi→vA key arr i≤vA key arr j
def iR(key:Keyed→Int)(arr:Array Keyed)(lo hi:Nat):Prop:=∀i j,lo≤i→i≤j→j<hi→vA key arr j≤vA key arr i
structure Rl (arr aO:Array Keyed) (lo hi:Nat):Prop where
 pm:aO.Perm arr
 out:∀k,k<lo∨hi≤k→aO[k]?=arr[k]?
theorem Rl.refl(arr:Array Keyed)(lo hi:Nat):Rl arr arr lo hi:=⟨Array.Perm.refl _,fun _ _=>rfl⟩
variable {arr aO:Array Keyed} {lo hi:Nat}
theorem Rl.trans{aA:Array Keyed}(h:Rl arr aO lo hi)(h':Rl aO aA lo hi):Rl arr aA lo hi:=⟨h'.pm.trans h.pm,fun k hk=>(h'.out k hk).trans (h.out k hk)⟩
theorem Rl.size(h:Rl arr aO lo hi):aO.size=arr.size:=h.pm.size_eq
theorem Rl.wide{EN aX:Nat}(h:Rl arr aO lo hi)(h1:EN≤lo)(h2:hi≤aX):Rl arr aO EN aX:=⟨h.pm,fun k hk=>h.out k (by omega)⟩
theorem jz(arr:Array Keyed)(i:Nat):arr.getD i nn=arr[i]?.getD nn:=by by_cases z:i<arr.size <;> simp [Array.getD,z]
variable {k:Nat}
theorem Rl.v(h:Rl arr aO lo hi)(hk:k<lo∨hi≤k):vA key aO k=vA key arr k:=by unfold vA;rw [jz,jz,h.out k hk]
theorem rg(h:d9 Ok arr)(p:aO.Perm arr):d9 Ok aO:=fun i hi=>by
 have e:aO.getD i nn=aO[i]:=by simp [Array.getD,hi]
 rw [e];have m:aO[i]∈arr:=(Array.Perm.mem_iff p).mp (Array.getElem_mem hi);obtain ⟨j,hj,ej⟩:=Array.getElem_of_mem m;rw [←ej];have:=h j hj;simpa [Array.getD,hj] using this
theorem Rl.ok(h:Rl arr aO lo hi)(ok:d9 Ok arr):d9 Ok aO:=rg ok h.pm
theorem jA(hj:j≤arr.size):Rl arr (mirror arr i j ((j-i) / 2)) i j:=⟨mirror_perm ..,fun k hk=>by rw [getElem?_mirror_all hj,aa (by omega)]⟩
theorem xx(hj:j≤arr.size)(h1:i≤k)(h2:k<j):vA key (mirror arr i j ((j-i) / 2)) k=vA key arr (i+j-1-k):=by unfold vA;rw [jz,jz,getElem?_mirror_all hj,ae ⟨h1,h2⟩]
abbrev a7 (κ:SortKind) (arr:Array Keyed) (pend:Array (Nat×Nat×Nat)) (g:Nat):SortSt:=SortSt.mk' κ arr pend g none
variable {arr:Array Keyed} {pend:Array (Nat×Nat×Nat)} {g:Nat}
theorem jB(h:g8 prog w A s κ key Ok)(ok:d9 Ok arr)(hi:i<arr.size)(hj:j<arr.size){Q:Option Bool→SortSt→Prop}(q:Q (some (decide (vA key arr i<vA key arr j))) (a7 κ arr pend g)):wpS (model prog w) A E s (ltAt' i j) Q (a7 κ arr pend g):=by rw [ltAt'_eq];refine ak (gQ ?_);exact ak (bh hi (ak (bh hj (uP h (ok _ hi) (ok _ hj) rfl q))))
theorem k4{Q:Unit→SortSt→Prop}(q:Q () (a7 κ (mirror arr i j ((j-i) / 2)) pend g)):wpS (model prog w) A E s (reverseSlice' i j) Q (a7 κ arr pend g):=by rw [reverseSlice'_eq];exact i_ q
variable {n:Nat}
theorem cx.more(h:cx key arr lo (lo+n))(n1:1≤n)(c:vA key arr (lo+n-1)≤vA key arr (lo+n)):cx key arr lo (lo+(n+1)):=fun i j h1 h2 h3=>by
 by_cases z:j<lo+n;·exact h i j h1 h2 z
 ·obtain rfl:j=lo+n:=by omega
  by_cases y:i=lo+n;·rw [y];exact iy _
  ·exact cF (h i (lo+n-1) h1 (by omega) (by omega)) c
theorem iR.more(h:iR key arr lo (lo+n))(n1:1≤n)(c:vA key arr (lo+n)≤vA key arr (lo+n-1)):iR key arr lo (lo+(n+1)):=fun i j h1 h2 h3=>by
 by_cases z:j<lo+n;·exact h i j h1 h2 z
 ·obtain rfl:j=lo+n:=by omega
  by_cases y:i=lo+n;·rw [y];exact iy _
  ·exact cF c (h i (lo+n-1) h1 (by omega) (by omega))
def uU(key:Keyed→Int)(arr:Array Keyed)(lo n q:Nat):Prop:=q+1≤n∧∀i,lo+n-(q+1)≤i→i<lo+n→vA key arr i=vA key arr (lo+n-1)
theorem xB{q:Nat}(hz:lo+n≤arr.size)(d:iR key arr lo (lo+n))(e:uU key arr lo n q):iR key (mirror arr (lo+n-(q+1)) (lo+n) ((lo+n-(lo+n-(q+1))) / 2)) lo (lo+n)∧∀k,vA key (mirror arr (lo+n-(q+1)) (lo+n) ((lo+n-(lo+n-(q+1))) / 2)) k=vA key arr k:=by
 have hv:∀k,vA key (mirror arr (lo+n-(q+1)) (lo+n) ((lo+n-(lo+n-(q+1))) / 2)) k=vA key arr k:=fun k=>by
  by_cases z:lo+n-(q+1)≤k∧k<lo+n;·rw [xx hz z.1 z.2,e.2 _ (by have:=e.1;omega) (by omega),e.2 k z.1 z.2]
  ·exact (jA hz).v (by omega)
 refine ⟨fun i j h1 h2 h3=>?_,hv⟩;rw [hv,hv];exact d i j h1 h2 h3
theorem xC(hz:lo+n≤arr.size)(d:iR key arr lo (lo+n)):cx key (mirror arr lo (lo+n) ((lo+n-lo) / 2)) lo (lo+n):=fun i j h1 h2 h3=>by
 rw [xx hz h1 (by omega),xx hz (by omega) h3]
 exact d _ _ (by omega) (by omega) (by omega)
end
section
variable {prog:Program} {w:World} {A:Around} {E:aE} {s:Shared} {κ:SortKind} {key:Keyed→Int} {Ok:Keyed→Prop} {arr:Array Keyed} {pend:Array (Nat×Nat×Nat)} {g:Nat}
variable {lo b8:Nat}
theorem uV(h:g8 prog w A s κ key Ok)(ok:d9 Ok arr){m:Nat}(hz:lo+b8≤arr.size)(m1:1≤m)(mn:m≤b8)(sg:cx key arr lo (lo+m)){body:Nat→Option (Option Nat)×Nat→StateT SortSt Sem (ForInStep (Option (Option Nat)×Nat))}{R:Option (Option Nat)×Nat→SortSt→Prop}
  (hb:∀x n (R:ForInStep (Option (Option Nat)×Nat)→SortSt→Prop),1≤n→n<b8→R (if vA key arr (lo+n)<vA key arr (lo+n-1) then .done (none,n) else .yield (none,n+1)) (a7 κ arr pend g)→wpS (model prog w) A E s (body x (none,n)) R (a7 κ arr pend g))
  (k:∀n,m≤n→n≤b8→cx key arr lo (lo+n)→(n<b8→vA key arr (lo+n)<vA key arr (lo+n-1))→R (none,n) (a7 κ arr pend g)) :
  wpS (model prog w) A E s (forIn [m:b8] (none,m) body) R (a7 κ arr pend g):=by
 refine eO (I:=fun x c aq=>aq=a7 κ arr pend g∧c=(none,x)∧m≤x∧x≤b8∧cx key arr lo (lo+x)) ?_ ?_ ⟨rfl,rfl,aw _,mn,sg⟩
 ·rintro x c aq _ hx ⟨rfl,rfl,g1,g2,g3⟩
  refine hb x x _ (by omega) hx ?_
  by_cases z:vA key arr (lo+x)<vA key arr (lo+x-1)
  ·rw [ae z]
   exact k x g1 g2 g3 fun _=>z
  ·rw [aa z]
   exact ⟨rfl,rfl,by omega,by omega,g3.more (by omega) (Int.not_lt.mp z)⟩
 ·rintro c aq ⟨rfl,rfl,g1,g2,g3⟩
  have e:max m b8=b8:=by omega
  rw [e] at g3 ⊢;exact k b8 mn (aw _) g3 fun z=>absurd z (dm _)
theorem MJ(h:g8 prog w A s κ key Ok)(ok:d9 Ok arr)(hz:lo+b8≤arr.size)(n1:1≤b8){Q:Option Nat→SortSt→Prop}
  (k:∀n aO,1≤n→n≤b8→Rl arr aO lo (lo+b8)→cx key aO lo (lo+n)→Q (some n) (a7 κ aO pend g)):wpS (model prog w) A E s (countRun' lo b8) Q (a7 κ arr pend g):=by
 rw [countRun'_eq];refine ak (uV h ok hz (aw 1) n1 (fun i j h1 h2 h3=>by rw [show i=j by omega];exact iy _) ?_ fun n m1 mn sg br=>?_)
 ·intro x n R a1 a2 r
  dsimp only;refine ak (jB h ok (by omega) (by omega) ?_)
  dsimp only;by_cases z:vA key arr (lo+n)<vA key arr (lo+n-1)
  ·rw [ae z] at r
   rw [cf z,ae rfl];exact aj r
  ·rw [aa z] at r
   rw [bV z,aa (by simp)]
   exact aj r
 dsimp only;by_cases e1:(n == b8)=true
 ·rw [ae e1]
  exact aj (k n arr m1 mn (Rl.refl ..) sg)
 rw [aa e1];have ba:n<b8:=by
  have:n≠b8:=fun e=>e1 (by simp [e])
  omega
 have EO:=br ba;by_cases e2:n>1
 ·rw [ae e2]
  refine ak (jB h ok (by omega) (by omega) ?_)
  dsimp only;by_cases z:vA key arr lo<vA key arr (lo+n-1)
  ·rw [cf z,ae rfl]
   exact aj (k n arr m1 mn (Rl.refl ..) sg)
  ·rw [bV z,aa (by simp)]
   refine ak (k4 ?_);have ev:∀i,lo≤i→i<lo+n→vA key arr i=vA key arr (lo+n-1):=fun i h1 h2=>by
    have a1:=sg lo i (aw _) h1 h2;have a2:=sg i (lo+n-1) h1 (by omega) (by omega)
    omega
   have hv:∀i,vA key (mirror arr lo (lo+n) ((lo+n-lo) / 2)) i=vA key arr i:=fun i=>by
    by_cases y:lo≤i∧i<lo+n;·rw [xx (by omega) y.1 y.2,ev _ (by omega) (by omega),ev i y.1 y.2]
    ·exact (jA (by omega)).v (by omega)
   have d1:iR key (mirror arr lo (lo+n) ((lo+n-lo) / 2)) lo (lo+n):=fun i j h1 h2 h3=>by
    rw [hv,hv,ev i h1 (by omega),ev j (by omega) h3]
    exact iy _
   have xD:Rl arr (mirror arr lo (lo+n) ((lo+n-lo) / 2)) lo (lo+b8):=(jA (by omega)).wide (aw _) (by omega)
   have ER:vA key (mirror arr lo (lo+n) ((lo+n-lo) / 2)) (lo+n)<vA key (mirror arr lo (lo+n) ((lo+n-lo) / 2)) (lo+n-1):=by rw [hv,hv];exact EO
   generalize mirror arr lo (lo+n) ((lo+n-lo) / 2)=MK at d1 xD ER ⊢;refine ak (wpS_lift (i7 ⟨rfl,?_⟩))
   refine ak (fb (eO (I:=fun x c aq=>∃(aA:Array Keyed) (q:Nat),aq=a7 κ aA pend g∧c=(none,x,q)∧Rl arr aA lo (lo+b8)∧iR key aA lo (lo+x)∧uU key aA lo x q∧x≤b8∧1≤x)
    (Q:=fun c aq=>∃(aA:Array Keyed) (n q:Nat),aq=a7 κ aA pend g∧c=(none,n,q)∧Rl arr aA lo (lo+b8)∧iR key aA lo (lo+n)∧uU key aA lo n q∧n≤b8∧1≤n) ?_ ?_ ⟨MK,0,rfl,rfl,xD,d1.more (by omega) (cE ER),⟨by omega,fun i h1 h2=>by rw [show i=lo+(n+1)-1 by omega]⟩,by omega,by omega⟩) ?_)
   ·rintro x c aq _ hx ⟨aA,q,rfl,rfl,dA,d2,e2,x1,x2⟩
    have k6:=dA.ok ok;have z2:=dA.size;dsimp only;refine ak (jB h k6 (by omega) (by omega) ?_)
    dsimp only;by_cases z:vA key aA (lo+x)<vA key aA (lo+x-1)
    ·rw [cf z,ae rfl]
     by_cases y:q>0
     ·rw [ae y]
      refine ak (k4 (aj ?_));obtain ⟨d3,hv⟩:=xB (by omega) d2 e2
      refine ⟨_,0,rfl,rfl,dA.trans ((jA (by omega)).wide (by have:=e2.1;omega) (by omega)),d3.more (by omega) (by rw [hv,hv];exact cE z),⟨by omega,fun i h1 h2=>by rw [show i=lo+(x+1)-1 by omega]⟩,by omega,by omega⟩
     ·rw [aa y]
      exact aj ⟨_,0,rfl,rfl,dA,d2.more (by omega) (cE z),⟨by omega,fun i h1 h2=>by rw [show i=lo+(x+1)-1 by omega]⟩,by omega,by omega⟩
    ·rw [bV z,aa (by simp)]
     refine ak (jB h k6 (by omega) (by omega) ?_)
     dsimp only;by_cases y:vA key aA (lo+x-1)<vA key aA (lo+x)
     ·rw [cf y,ae rfl]
      exact aj ⟨_,_,_,rfl,rfl,dA,d2,e2,x1,x2⟩
     ·rw [bV y,aa (by simp)]
      have ev:vA key aA (lo+x)=vA key aA (lo+x-1):=by omega
      refine aj ⟨_,_,rfl,rfl,dA,d2.more (by omega) (by omega),⟨by have:=e2.1;omega,fun i h1 h2=>?_⟩,by omega,by omega⟩
      rw [show lo+(x+1)-1=lo+x by omega]
      by_cases w:i=lo+x;·rw [w]
      ·rw [ev]
       exact e2.2 i (by omega) (by omega)
   ·rintro c aq ⟨aA,q,rfl,rfl,dA,d2,e2,x1,x2⟩
    exact ⟨aA,_,q,rfl,rfl,dA,d2,e2,x1,x2⟩
   ·rintro c aq ⟨aA,n2,q2,rfl,rfl,dA,d2,e2,x1,x2⟩
    have z2:=dA.size;dsimp only;by_cases y:q2>0
    ·rw [ae y]
     obtain ⟨d3,hv⟩:=xB (by omega) d2 e2
     refine ak (k4 (ak (k4 ?_)));have jC:=dA.trans ((jA (arr:=aA) (i:=lo+n2-(q2+1)) (j:=lo+n2) (by omega)).wide (by have:=e2.1;omega) (show lo+n2≤lo+b8 by omega))
     generalize mirror aA (lo+n2-(q2+1)) (lo+n2) _=cm at d3 jC ⊢;have z3:=jC.size;have fh:=xC (by omega) d3
     have bK:=jC.trans ((jA (arr:=cm) (i:=lo) (j:=lo+n2) (by omega)).wide (aw lo) (show lo+n2≤lo+b8 by omega))
     generalize mirror cm lo (lo+n2) _=aU at fh bK ⊢;have jD:=Rl.ok bK ok;have z4:=Rl.size bK;refine ak (uV h jD (by omega) (by omega) (by omega) fh ?_ fun m m1 mn oG _=>aj (k m aU (by omega) mn bK oG))
     intro x n R a1 a2 r;dsimp only;refine ak (jB h jD (by omega) (by omega) ?_)
     dsimp only;by_cases z:vA key aU (lo+n)<vA key aU (lo+n-1)
     ·rw [ae z] at r
      rw [cf z,ae rfl];exact aj r
     ·rw [aa z] at r
      rw [bV z,aa (by simp)]
      exact aj r
    ·rw [aa y]
     refine ak (k4 ?_);have fh:=xC (by omega) d2
     have bK:=dA.trans ((jA (arr:=aA) (i:=lo) (j:=lo+n2) (by omega)).wide (aw lo) (show lo+n2≤lo+b8 by omega))
     generalize mirror aA lo (lo+n2) _=aU at fh bK ⊢;have jD:=Rl.ok bK ok;have z4:=Rl.size bK;refine ak (uV h jD (by omega) (by omega) (by omega) fh ?_ fun m m1 mn oG _=>aj (k m aU (by omega) mn bK oG))
     intro x n R a1 a2 r;dsimp only;refine ak (jB h jD (by omega) (by omega) ?_)
     dsimp only;by_cases z:vA key aU (lo+n)<vA key aU (lo+n-1)
     ·rw [ae z] at r
      rw [cf z,ae rfl];exact aj r
     ·rw [aa z] at r
      rw [bV z,aa (by simp)]
      exact aj r
 ·rw [aa e2]
  have d1:iR key arr lo (lo+n):=fun i j h1 h2 h3=>by
   rw [show i=j by omega]
   exact iy _
  have xD:Rl arr arr lo (lo+b8):=Rl.refl ..;refine ak (wpS_lift (i7 ⟨rfl,?_⟩))
  refine ak (fb (eO (I:=fun x c aq=>∃(aA:Array Keyed) (q:Nat),aq=a7 κ aA pend g∧c=(none,x,q)∧Rl arr aA lo (lo+b8)∧iR key aA lo (lo+x)∧uU key aA lo x q∧x≤b8∧1≤x)
   (Q:=fun c aq=>∃(aA:Array Keyed) (n q:Nat),aq=a7 κ aA pend g∧c=(none,n,q)∧Rl arr aA lo (lo+b8)∧iR key aA lo (lo+n)∧uU key aA lo n q∧n≤b8∧1≤n) ?_ ?_ ⟨arr,0,rfl,rfl,xD,d1.more (by omega) (cE EO),⟨by omega,fun i h1 h2=>by rw [show i=lo+(n+1)-1 by omega]⟩,by omega,by omega⟩) ?_)
  ·rintro x c aq _ hx ⟨aA,q,rfl,rfl,dA,d2,e2,x1,x2⟩
   have k6:=dA.ok ok;have z2:=dA.size;dsimp only;refine ak (jB h k6 (by omega) (by omega) ?_)
   dsimp only;by_cases z:vA key aA (lo+x)<vA key aA (lo+x-1)
   ·rw [cf z,ae rfl]
    by_cases y:q>0
    ·rw [ae y]
     refine ak (k4 (aj ?_));obtain ⟨d3,hv⟩:=xB (by omega) d2 e2
     refine ⟨_,0,rfl,rfl,dA.trans ((jA (by omega)).wide (by have:=e2.1;omega) (by omega)),d3.more (by omega) (by rw [hv,hv];exact cE z),⟨by omega,fun i h1 h2=>by rw [show i=lo+(x+1)-1 by omega]⟩,by omega,by omega⟩
    ·rw [aa y]
     exact aj ⟨_,0,rfl,rfl,dA,d2.more (by omega) (cE z),⟨by omega,fun i h1 h2=>by rw [show i=lo+(x+1)-1 by omega]⟩,by omega,by omega⟩
   ·rw [bV z,aa (by simp)]
    refine ak (jB h k6 (by omega) (by omega) ?_)
    dsimp only;by_cases y:vA key aA (lo+x-1)<vA key aA (lo+x)
    ·rw [cf y,ae rfl]
     exact aj ⟨_,_,_,rfl,rfl,dA,d2,e2,x1,x2⟩
    ·rw [bV y,aa (by simp)]
     have ev:vA key aA (lo+x)=vA key aA (lo+x-1):=by omega
     refine aj ⟨_,_,rfl,rfl,dA,d2.more (by omega) (by omega),⟨by have:=e2.1;omega,fun i h1 h2=>?_⟩,by omega,by omega⟩
     rw [show lo+(x+1)-1=lo+x by omega]
     by_cases w:i=lo+x;·rw [w]
     ·rw [ev]
      exact e2.2 i (by omega) (by omega)
  ·rintro c aq ⟨aA,q,rfl,rfl,dA,d2,e2,x1,x2⟩
   exact ⟨aA,_,q,rfl,rfl,dA,d2,e2,x1,x2⟩
  ·rintro c aq ⟨aA,n2,q2,rfl,rfl,dA,d2,e2,x1,x2⟩
   have z2:=dA.size;dsimp only;by_cases y:q2>0
   ·rw [ae y]
    obtain ⟨d3,hv⟩:=xB (by omega) d2 e2
    refine ak (k4 (ak (k4 ?_)));have jC:=dA.trans ((jA (arr:=aA) (i:=lo+n2-(q2+1)) (j:=lo+n2) (by omega)).wide (by have:=e2.1;omega) (show lo+n2≤lo+b8 by omega))
    generalize mirror aA (lo+n2-(q2+1)) (lo+n2) _=cm at d3 jC ⊢;have z3:=jC.size;have fh:=xC (by omega) d3
    have bK:=jC.trans ((jA (arr:=cm) (i:=lo) (j:=lo+n2) (by omega)).wide (aw lo) (show lo+n2≤lo+b8 by omega))
    generalize mirror cm lo (lo+n2) _=aU at fh bK ⊢;have jD:=Rl.ok bK ok;have z4:=Rl.size bK;refine ak (uV h jD (by omega) (by omega) (by omega) fh ?_ fun m m1 mn oG _=>aj (k m aU (by omega) mn bK oG))
    intro x n R a1 a2 r;dsimp only;refine ak (jB h jD (by omega) (by omega) ?_)
    dsimp only;by_cases z:vA key aU (lo+n)<vA key aU (lo+n-1)
    ·rw [ae z] at r
     rw [cf z,ae rfl];exact aj r
    ·rw [aa z] at r
     rw [bV z,aa (by simp)]
     exact aj r
   ·rw [aa y]
    refine ak (k4 ?_);have fh:=xC (by omega) d2
    have bK:=dA.trans ((jA (arr:=aA) (i:=lo) (j:=lo+n2) (by omega)).wide (aw lo) (show lo+n2≤lo+b8 by omega))
    generalize mirror aA lo (lo+n2) _=aU at fh bK ⊢;have jD:=Rl.ok bK ok;have z4:=Rl.size bK;refine ak (uV h jD (by omega) (by omega) (by omega) fh ?_ fun m m1 mn oG _=>aj (k m aU (by omega) mn bK oG))
    intro x n R a1 a2 r;dsimp only;refine ak (jB h jD (by omega) (by omega) ?_)
    dsimp only;by_cases z:vA key aU (lo+n)<vA key aU (lo+n-1)
    ·rw [ae z] at r
     rw [cf z,ae rfl];exact aj r
    ·rw [aa z] at r
     rw [bV z,aa (by simp)]
     exact aj r
end
section
variable {prog:Program} {w:World} {A:Around} {E:aE} {s:Shared} {κ:SortKind} {key:Keyed→Int} {Ok:Keyed→Prop} {arr:Array Keyed} {pend:Array (Nat×Nat×Nat)} {g:Nat}
theorem ML{Q:Unit→SortSt→Prop}(q:Q () (a7 κ (bubble arr i (i-j)) pend g)):wpS (model prog w) A E s (moveDown' i j) Q (a7 κ arr pend g):=by rw [moveDown'_eq];exact i_ q
variable {d:Nat}
theorem ES{k:Nat}(hi:i<arr.size)(hd:d≤i):vA key (bubble arr i d) k=if k=i-d then vA key arr i else if i-d<k∧k≤i then vA key arr (k-1) else vA key arr k:=by
 unfold vA;rw [jz,getElem?_bubble hi d hd,jz arr i,jz arr (k-1),jz arr k];by_cases a:k=i-d;·rw [ae a,ae a]
 ·rw [aa a,aa a]
  by_cases b:i-d<k∧k≤i;·rw [ae b,ae b]
  ·rw [aa b,aa b]
variable {lo:Nat}
theorem MM{hi:Nat}(h:i<arr.size)(hd:d≤i)(h1:lo≤i-d)(h2:i<hi):Rl arr (bubble arr i d) lo hi:=⟨bubble_perm ..,fun k hk=>by rw [getElem?_bubble h d hd,aa (by omega),aa (by omega)]⟩
theorem MN(h:g8 prog w A s κ key Ok)(ok:d9 Ok arr){n m:Nat}(hz:lo+n≤arr.size)(m1:1≤m)(mn:m≤n)(sg:cx key arr lo (lo+m)){Q:Bool→SortSt→Prop}
  (k:∀aO,Rl arr aO lo (lo+n)→cx key aO lo (lo+n)→Q true (a7 κ aO pend g)):wpS (model prog w) A E s (binarySort' lo n m) Q (a7 κ arr pend g):=by
 rw [binarySort'_eq];have em:max m 1=m:=by omega
 rw [em]
 refine ak (fb (eO (I:=fun x c aq=>∃aA:Array Keyed,aq=a7 κ aA pend g∧c=(none,())∧Rl arr aA lo (lo+n)∧cx key aA lo (lo+x)∧m≤x∧x≤n)
  (Q:=fun c aq=>∃aA:Array Keyed,aq=a7 κ aA pend g∧c=(none,())∧Rl arr aA lo (lo+n)∧cx key aA lo (lo+n)) ?_ ?_ ⟨arr,rfl,rfl,Rl.refl ..,sg,aw _,mn⟩) ?_)
 ·rintro x c aq _ hx ⟨aA,rfl,rfl,rl,sg,x1,x2⟩
  have k6:=rl.ok ok;have z2:=rl.size;dsimp only
  refine ak (fb (eO (I:=fun y c aq=>∃l r:Nat,aq=a7 κ aA pend g∧c=(none,l,r)∧l≤r∧r≤x∧r-l+y≤x∧(∀i,i<l→vA key aA (lo+i)≤vA key aA (lo+x))∧(∀i,r≤i→i<x→vA key aA (lo+x)≤vA key aA (lo+i)))
   (Q:=fun c aq=>∃l:Nat,aq=a7 κ aA pend g∧c=(none,l,l)∧l≤x∧(∀i,i<l→vA key aA (lo+i)≤vA key aA (lo+x))∧(∀i,l≤i→i<x→vA key aA (lo+x)≤vA key aA (lo+i))) ?_ ?_ ⟨0,x,rfl,rfl,by omega,aw _,show x-0+0≤x by omega,fun i hi=>absurd hi (tU _),fun i h1 h2=>by omega⟩) ?_)
  ·rintro y c aq _ hy ⟨l,r,rfl,rfl,g1,g2,g3,g4,g5⟩
   dsimp only;by_cases z:l≥r
   ·rw [ae z]
    obtain rfl:l=r:=by omega
    exact aj ⟨l,rfl,rfl,g2,g4,g5⟩
   ·rw [aa z]
    refine ak (jB h k6 (by omega) (by omega) ?_)
    dsimp only;by_cases w:vA key aA (lo+x)<vA key aA (lo+(l+r) / 2)
    ·rw [cf w,ae rfl]
     exact aj ⟨l,_,rfl,rfl,by omega,by omega,by omega,g4,fun i h1 h2=>cF (cE w) (sg _ _ (by omega) (by omega) (by omega))⟩
    ·rw [bV w,aa (by simp)]
     exact aj ⟨_,r,rfl,rfl,by omega,g2,by omega,fun i h1=>cF (sg _ _ (by omega) (by omega) (by omega)) (Int.not_lt.mp w),g5⟩
  ·rintro c aq ⟨l,r,rfl,rfl,g1,g2,g3,g4,g5⟩
   have:max 0 x=x:=by omega
   obtain rfl:l=r:=by omega
   exact ⟨l,rfl,rfl,g2,g4,g5⟩
  ·rintro c aq ⟨l,rfl,rfl,g2,g4,g5⟩
   dsimp only;refine ak (ML (aj ?_));have ed:lo+x-(lo+l)=x-l:=by omega
   rw [ed];refine ⟨_,rfl,rfl,rl.trans (MM (by omega) (by omega) (by omega) (by omega)),fun i j h1 h2 h3=>?_,by omega,by omega⟩
   have e0:lo+x-(x-l)=lo+l:=by omega
   rw [ES (by omega) (by omega),ES (by omega) (by omega),e0]
   have f4:∀i,lo≤i→i<lo+l→vA key aA i≤vA key aA (lo+x):=fun i a b=>by have:=g4 (i-lo) (by omega);rwa [show lo+(i-lo)=i by omega] at this
   have f5:∀i,lo+l≤i→i<lo+x→vA key aA (lo+x)≤vA key aA i:=fun i a b=>by have:=g5 (i-lo) (by omega) (by omega);rwa [show lo+(i-lo)=i by omega] at this
   by_cases a1:i=lo+l
   ·rw [ae a1]
    by_cases b1:j=lo+l;·rw [ae b1];exact iy _
    ·rw [aa b1,ae (by omega)]
     exact f5 _ (by omega) (by omega)
   ·rw [aa a1]
    by_cases a2:lo+l<i∧i≤lo+x
    ·rw [ae a2,aa (by omega),ae (by omega)]
     exact sg _ _ (by omega) (by omega) (by omega)
    ·rw [aa a2]
     by_cases b1:j=lo+l
     ·rw [ae b1]
      exact f4 i h1 (by omega)
     ·rw [aa b1]
      by_cases b2:lo+l<j∧j≤lo+x
      ·rw [ae b2]
       exact cF (f4 i h1 (by omega)) (f5 _ (by omega) (by omega))
      ·rw [aa b2]
       exact sg _ _ (by omega) (by omega) (by omega)
 ·rintro c aq ⟨aA,rfl,rfl,rl,sg,x1,x2⟩
  have:max m n=n:=by omega
  rw [this] at sg;exact ⟨aA,rfl,rfl,rl,sg⟩
 ·rintro c aq ⟨aA,rfl,rfl,rl,sg⟩
  exact aj (k aA rl sg)
end
theorem MO(i:Nat):mergeAt' i=(do
 let s ←get
 let (some (sa,na,power),some (sb,nb,_)):=((pendingOf s)[i]?,(pendingOf s)[i+1]?) | unsupported "internal:list.sort.pending"
 set (setPending s (((pendingOf s).setIfInBounds i (sa,na+nb,power)).eraseIdxIfInBounds (i+1)))
 let some k ←mP false (←elem' (arrOf s) sb) (arrOf s) sa na 0 | return false
 let (sa,na):=(sa+k,na-k)
 if na == 0 then return true
 let some nb ←mP true (←elem' (arrOf s) (sa+na-1)) (arrOf s) sb nb (nb-1) | return false
 if nb == 0 then return true
 let x:=(arrOf s).extract sa sb
 let y:=(arrOf s).extract sb (sb+nb)
 let merged ←if na≤nb then AN x y else AO x y
 modify fun s=>setArr s (merged.toList.zipIdx.foldl (fun a (p,j)=>a.setIfInBounds (sa+j) p) (arrOf s))
 return (failedOf (←get)).isNone):=rfl
def putL(m:List Keyed)(o:Nat)(arr:Array Keyed)(n:Nat):Array Keyed:=(m.zipIdx n).foldl (fun a (p,j)=>a.setIfInBounds (o+j) p) arr
theorem ET(m:List Keyed)(o:Nat):∀(arr:Array Keyed) (n k:Nat),o+n+m.length≤arr.size→(putL m o arr n)[k]?=if o+n≤k∧k<o+n+m.length then m[k-(o+n)]? else arr[k]?:=by
 induction m with
 | nil=>
  intro arr n k _;rw [aa (by simp)]
  rfl
 | cons x m ih=>
  intro arr n k hz;rw [cL] at hz ⊢;show (putL m o (arr.setIfInBounds (o+n) x) (n+1))[k]?=_;rw [ih _ _ _ (by simp;omega)]
  by_cases a:o+(n+1)≤k∧k<o+(n+1)+m.length
  ·rw [ae a,ae (by omega),show k-(o+n)=(k-(o+(n+1)))+1 by omega]
   rfl
  ·rw [aa a]
   by_cases b:k=o+n
   ·subst b
    rw [ae (by omega),qu]
    simp [show o+n<arr.size by omega]
   ·rw [aa (by omega)]
    rw [Array.getElem?_setIfInBounds_ne (by omega)]
theorem MP{o:Nat}{arr:Array Keyed}(hz:o+m.length≤arr.size):(putL m o arr 0).toList=arr.toList.take o++m++arr.toList.drop (o+m.length):=by
 refine tP fun k=>?_;have e:(putL m o arr 0).toList[k]?=(putL m o arr 0)[k]?:=by simp
 rw [e,ET m o arr 0 k (by omega),tV]
 by_cases a:k<o
 ·rw [aa (by omega),fP,ir (by simp;omega),List.getElem?_take_of_lt a]
  simp
 ·by_cases b:k<o+m.length
  ·rw [ae (by omega),fP,iq (by simp;omega),ir (by simp;omega)]
   congr 1
   simp;omega
  ·rw [aa (by omega),iq (by simp;omega),List.getElem?_drop]
   have:o+m.length+(k-(arr.toList.take o++m).length)=k:=by simp;omega
   rw [this];simp
section
variable {prog:Program} {w:World} {A:Around} {E:aE} {s:Shared} {κ:SortKind} {key:Keyed→Int} {Ok:Keyed→Prop} {arr:Array Keyed} {pend:Array (Nat×Nat×Nat)} {g:Nat}
variable {lo hi:Nat}
theorem EU(h:cx key arr lo hi)(hz:hi≤arr.size):a_ key (arr.extract lo hi).toList:=by
 unfold a_;rw [nH];intro i j aX hj qQ;have h1:i<hi-lo∧j<hi-lo:=by simp at aX hj;omega
 have:=h (lo+i) (lo+j) (by omega) (by omega) (by omega)
 unfold vA at this;simpa [Array.getD,show lo+i<arr.size by omega,show lo+j<arr.size by omega] using this
theorem AY(hz:hi≤arr.size)(aX:lo+i<hi):(arr.extract lo hi).getD i nn=arr.getD (lo+i) nn:=by simp [Array.getD,show lo+i<arr.size by omega,show i<min hi arr.size-lo by omega]
theorem EV(ok:d9 Ok arr)(hz:hi≤arr.size):d9 Ok (arr.extract lo hi):=fun i aX=>by
 have:lo+i<hi:=by simp at aX;omega
 rw [AY hz this];exact ok _ (by omega)
theorem ext_mem(hz:hi≤arr.size){x:Keyed}(hx:x∈(arr.extract lo hi).toList):∃j,lo≤j∧j<hi∧x=arr.getD j nn:=kZ hz hx
theorem MQ{σ:Type}{st aq:σ}{Q:PUnit→σ→Prop}{M:Model}(q:Q ⟨⟩ aq):wpS M A E s (set aq:StateT σ Sem PUnit) Q st:=by unfold wpS;rw [StateT.run_set];exact bG ⟨rfl,q⟩
variable {sa na nb:Nat}
theorem MR{sb bb bT:Nat}{m:Array Keyed}(hz:sb+nb≤arr.size)(h0:sa+na=sb)(hk:bb≤na)(hb:bT≤nb)(pm:m.toList.Perm ((arr.extract (sa+bb) sb).toList++(arr.extract sb (sb+bT)).toList))(sm:a_ key m.toList)
  (s1:cx key arr sa sb) (s2:cx key arr sb (sb+nb)) (uW:bb<na) (EW:1≤nb)
  (c1:∀i,i<bb→vA key arr (sa+i)≤vA key arr sb) (c2:∀i,bT≤i→i<nb→vA key arr (sb-1)≤vA key arr (sb+i)) :
  Rl arr (putL m.toList (sa+bb) arr 0) sa (sb+nb)∧cx key (putL m.toList (sa+bb) arr 0) sa (sb+nb):=by
 have lm:m.toList.length=(na-bb)+bT:=by rw [pm.length_eq,dh,iO,iO];simp;omega
 have hsz:sa+bb+m.toList.length≤arr.size:=by omega
 have at':=ET m.toList (sa+bb) arr 0;have rl:Rl arr (putL m.toList (sa+bb) arr 0) sa (sb+nb):=by
  refine ⟨qA.mpr ?_,fun k cw=>?_⟩
  ·rw [MP hsz]
   have e:arr.toList=arr.toList.take (sa+bb)++((arr.extract (sa+bb) sb).toList++(arr.extract sb (sb+bT)).toList)++arr.toList.drop (sa+bb+m.toList.length):=by
    rw [iO,iO,show sa+bb+m.toList.length=sb+bT by omega,show sb+bT-sb=bT by omega]
    have t1:arr.toList.drop (sa+bb)=(arr.toList.drop (sa+bb)).take (sb-(sa+bb))++arr.toList.drop sb:=by
     have:=(qv (sb-(sa+bb)) (arr.toList.drop (sa+bb))).symm;rw [List.drop_drop,show sa+bb+(sb-(sa+bb))=sb by omega] at this
     exact this
    have t2:arr.toList.drop sb=(arr.toList.drop sb).take bT++arr.toList.drop (sb+bT):=by have:=(qv bT (arr.toList.drop sb)).symm;rw [List.drop_drop] at this;exact this
    have t0:=(qv (sa+bb) arr.toList).symm;rw [t1,t2] at t0;rw [fP,fP];exact t0
   refine List.Perm.trans ?_ (List.Perm.of_eq e.symm);exact List.Perm.append_right _ (zJ _ pm)
  ·rw [at' k (by omega),aa (by omega)]
 have vo:∀k,k<sa+bb∨sb+bT≤k→vA key (putL m.toList (sa+bb) arr 0) k=vA key arr k:=fun k cw=>by unfold vA;rw [jz,at' k (by omega),aa (by omega),jz]
 have vm:∀k,sa+bb≤k→k<sb+bT→∃hj:k-(sa+bb)<m.toList.length,vA key (putL m.toList (sa+bb) arr 0) k=key (m.toList[k-(sa+bb)]'hj):=fun k h1 h2=>by
  have hj:k-(sa+bb)<m.toList.length:=by omega
  refine ⟨hj,?_⟩;unfold vA;rw [jz,at' k (by omega),ae (by omega),tV,bQ hj]
  rfl
 have vq:∀k,sa+bb≤k→k<sb+bT→∃q,sa+bb≤q∧q<sb+bT∧vA key (putL m.toList (sa+bb) arr 0) k=vA key arr q:=fun k h1 h2=>by
  obtain ⟨hj,e⟩:=vm k h1 h2;have mm:=pm.mem_iff.mp (dH hj);rcases dQ.mp mm with mm | mm
  ·obtain ⟨q,q1,q2,eq⟩:=ext_mem (by omega) mm
   exact ⟨q,q1,by omega,by rw [e,eq];rfl⟩
  ·obtain ⟨q,q1,q2,eq⟩:=ext_mem (by omega) mm
   exact ⟨q,by omega,q2,by rw [e,eq];rfl⟩
 have d1:∀i,sa≤i→i<sa+bb→vA key arr i≤vA key arr sb:=fun i a b=>by
  have:=c1 (i-sa) (by omega)
  rwa [show sa+(i-sa)=i by omega] at this
 have d2:∀j,sb+bT≤j→j<sb+nb→vA key arr (sb-1)≤vA key arr j:=fun j a b=>by
  have:=c2 (j-sb) (by omega) (by omega)
  rwa [show sb+(j-sb)=j by omega] at this
 refine ⟨rl,fun i j h1 h2 h3=>?_⟩;by_cases i1:i<sa+bb
 ·rw [vo i (.inl i1)]
  by_cases j1:j<sa+bb
  ·rw [vo j (.inl j1)]
   exact s1 i j h1 h2 (by omega)
  ·by_cases j2:j<sb+bT
   ·obtain ⟨q,q1,q2,e⟩:=vq j (by omega) j2
    rw [e];by_cases q3:q<sb;·exact s1 i q h1 (by omega) q3
    ·exact cF (d1 i h1 i1) (s2 sb q (aw _) (by omega) (by omega))
   ·rw [vo j (.inr (by omega))]
    exact cF (d1 i h1 i1) (s2 sb j (aw _) (by omega) h3)
 ·by_cases i2:i<sb+bT
  ·by_cases j2:j<sb+bT
   ·obtain ⟨x1,e1⟩:=vm i (by omega) i2
    obtain ⟨x2,e2⟩:=vm j (by omega) j2
    rw [e1,e2];by_cases z:i=j;·subst z;exact iy _
    ·exact nH.mp sm _ _ x1 x2 (by omega)
   ·obtain ⟨q,q1,q2,e⟩:=vq i (by omega) i2
    rw [e,vo j (.inr (by omega))]
    by_cases q3:q<sb;·exact cF (s1 q (sb-1) (by omega) (by omega) (by omega)) (d2 j (by omega) h3)
    ·exact s2 q j (by omega) (by omega) h3
  ·rw [vo i (.inr (by omega)),vo j (.inr (by omega))]
   exact s2 i j (by omega) h2 h3
theorem MS(h:g8 prog w A s κ key Ok)(ok:d9 Ok arr){pw k7:Nat}(e1:pend[i]?=some (sa,na,pw))(e2:pend[i+1]?=some (sa+na,nb,k7))(uW:1≤na)(EW:1≤nb)(hz:sa+na+nb≤arr.size)
  (s1:cx key arr sa (sa+na)) (s2:cx key arr (sa+na) (sa+na+nb)) {Q:Bool→SortSt→Prop}
  (k:∀aO g',Rl arr aO sa (sa+na+nb)→cx key aO sa (sa+na+nb)→Q true (a7 κ aO ((pend.setIfInBounds i (sa,na+nb,pw)).eraseIdxIfInBounds (i+1)) g')):wpS (model prog w) A E s (mergeAt' i) Q (a7 κ arr pend g):=by
 rw [MO];refine ak (gQ ?_);have kT:(pendingOf (a7 κ arr pend g))[i]?=some (sa,na,pw):=e1;have MT:(pendingOf (a7 κ arr pend g))[i+1]?=some (sa+na,nb,k7):=e2;rw [kT,MT];dsimp only;refine ak (MQ ?_);refine ak (bh (by show sa+na<arr.size;omega) ?_)
 refine ak (gF (f:=fun j=>bB false (vA key arr (sa+na)) (vA key arr (sa+j))) (fun j hj Q q=>gE (κ:=κ) h (by show sa+j<arr.size;omega) ok (ok _ (by omega)) rfl q) (by omega) ?_ fun t t1 t2 t3=>?_)
 ·intro i j h1 h2 h3
  have:vA key arr (sa+i)≤vA key arr (sa+na):=cF (s1 _ _ (by omega) (by omega) (by omega)) (j4 h3)
  show (!decide (vA key arr (sa+na)<vA key arr (sa+i)))=true;simpa using this
 dsimp only;by_cases z1:(na-t == 0)=true
 ·rw [ae z1]
  have tz:t=na:=by have:=eq_of_beq z1;omega
  subst tz;refine aj (k arr g (Rl.refl ..) fun i j h1 h2 h3=>?_);by_cases i1:i<sa+t
  ·by_cases j1:j<sa+t
   ·exact s1 i j h1 h2 j1
   ·have:=j4 (t2 (i-sa) (by omega))
    rw [show sa+(i-sa)=i by omega] at this
    exact cF this (s2 _ _ (aw _) (by omega) (by omega))
  ·exact s2 i j (by omega) h2 (by omega)
 rw [aa z1];have tn:t<na:=by
  have:na-t≠0:=fun e=>z1 (by simp [e])
  omega
 refine ak (bh (by show sa+t+(na-t)-1<arr.size;omega) ?_)
 have el:sa+t+(na-t)-1=sa+na-1:=by omega
 rw [el];refine ak (gF (f:=fun j=>bB true (vA key arr (sa+na-1)) (vA key arr (sa+na+j))) (fun j hj Q q=>gE (κ:=κ) h (by show sa+na+j<arr.size;omega) ok (ok _ (by omega)) rfl q) (by omega) ?_ fun u u1 u2 u3=>?_)
 ·intro i j h1 h2 h3
  exact cf (Int.lt_of_le_of_lt (s2 _ _ (by omega) (by omega) (by omega)) (fZ h3))
 dsimp only;have MU:=mQ (t3 (na-1) (by omega) (by omega))
 rw [show sa+(na-1)=sa+na-1 by omega] at MU
 by_cases z2:(u == 0)=true
 ·exfalso
  have:=gG (u3 0 (by have:=eq_of_beq z2;omega) (by omega))
  rw [tV] at this;omega
 rw [aa z2];have un:1≤u:=by
  have:u≠0:=fun e=>z2 (by simp [e])
  omega
 have ox:=EV ok (lo:=sa+t) (hi:=sa+na) (by omega)
 have oy:=EV ok (lo:=sa+na) (hi:=sa+na+u) (by omega)
 have sx:a_ key (arr.extract (sa+t) (sa+na)).toList:=EU (fun i j h1 h2 h3=>s1 i j (by omega) h2 h3) (by omega)
 have sy:a_ key (arr.extract (sa+na) (sa+na+u)).toList:=EU (fun i j h1 h2 h3=>s2 i j h1 h2 (by omega)) (by omega)
 have zx:(arr.extract (sa+t) (sa+na)).size=na-t:=by simp;omega
 have zy:(arr.extract (sa+na) (sa+na+u)).size=u:=by simp;omega
 have h0:∀x∈(arr.extract (sa+t) (sa+na)).toList,key ((arr.extract (sa+na) (sa+na+u)).getD 0 nn)≤key x:=fun x hx=>by
  obtain ⟨j,j1,j2,rfl⟩:=ext_mem (by omega) hx
  rw [AY (by omega) (by omega),tV]
  have:=mQ (t3 (j-sa) (by omega) (by omega))
  rw [show sa+(j-sa)=j by omega] at this
  exact cE this
 have hl:∀y∈(arr.extract (sa+na) (sa+na+u)).toList,key y≤key ((arr.extract (sa+t) (sa+na)).getD ((arr.extract (sa+t) (sa+na)).size-1) nn):=fun y hy=>by
  obtain ⟨j,j1,j2,rfl⟩:=ext_mem (by omega) hy
  rw [zx,AY (by omega) (by omega),show sa+t+(na-t-1)=sa+na-1 by omega]
  have:=fZ (u2 (j-(sa+na)) (by omega))
  rw [show sa+na+(j-(sa+na))=j by omega] at this
  exact cE this
 have fin:∀(m:Array Keyed) (g':Nat),m.toList.Perm ((arr.extract (sa+t) (sa+na)).toList++(arr.extract (sa+na) (sa+na+u)).toList)→a_ key m.toList→Q true (a7 κ (putL m.toList (sa+t) arr 0) ((pend.setIfInBounds i (sa,na+nb,pw)).eraseIdxIfInBounds (i+1)) g'):=fun m g' pm sm=>by obtain ⟨rl,sg⟩:=MR (sb:=sa+na) hz rfl (ky tn) u1 pm sm s1 s2 tn EW (fun i hi=>j4 (t2 i hi)) (fun i h1 h2=>gG (u3 i h1 h2));exact k _ g' rl sg
 refine dY (fun _=>?_) (fun _=>?_)
 ·refine ak (MC (κ:=κ) h ox oy sx sy (by omega) (by omega) h0 hl rfl fun m g' pm sm=>?_)
  exact ak (i_ (ak (gQ (aj (fin m g' pm sm)))))
 ·refine ak (MG (κ:=κ) h ox oy sx sy (by omega) (by omega) h0 hl rfl fun m g' pm sm=>?_)
  exact ak (i_ (ak (gQ (aj (fin m g' pm sm)))))
end
def cn(key:Keyed→Int)(arr:Array Keyed):List (Nat×Nat×Nat)→Nat→Nat→Prop
 | [],lo,hi=>lo=hi
 | p::r,lo,hi=>p.1=lo∧1≤p.2.1∧cx key arr lo (lo+p.2.1)∧cn key arr r (lo+p.2.1) hi
section
variable {key:Keyed→Int} {arr aO:Array Keyed}
theorem cn.le:∀{l:List (Nat×Nat×Nat)} {lo hi:Nat},cn key arr l lo hi→lo+l.length≤hi
 | [],lo,hi,h=>by have:lo=hi:=h;simp;omega
 | p::r,lo,hi,h=>by have:=cn.le h.2.2.2;have:=h.2.1;simp only [cL];omega
variable {hi:Nat}
theorem cx.cu{lo a b:Nat}(h:cx key arr lo hi)(rl:Rl arr aO a b)(d:hi≤a∨b≤lo):cx key aO lo hi:=fun i j h1 h2 h3=>by
 rw [rl.v (by omega),rl.v (by omega)]
 exact h i j h1 h2 h3
theorem cn.cu:∀{l:List (Nat×Nat×Nat)} {lo hi a b:Nat},cn key arr l lo hi→Rl arr aO a b→hi≤a∨b≤lo→cn key aO l lo hi
 | [],lo,hi,a,b,h,_,_=>h
 | p::r,lo,hi,a,b,h,rl,d=>by have:=h.2.2.2.le;refine ⟨h.1,h.2.1,h.2.2.1.cu rl (by omega),h.2.2.2.cu rl (by omega)⟩
theorem cn.snoc:∀{l:List (Nat×Nat×Nat)} {lo hi n pw:Nat},cn key arr l lo hi→1≤n→cx key arr hi (hi+n)→cn key arr (l++[(hi,n,pw)]) lo (hi+n)
 | [],lo,hi,n,pw,h,n1,s=>by obtain rfl:lo=hi:=h;exact ⟨rfl,n1,s,rfl⟩
 | p::r,lo,hi,n,pw,h,n1,s=>⟨h.1,h.2.1,h.2.2.1,h.2.2.2.snoc n1 s⟩
theorem cn.two:∀{l:List (Nat×Nat×Nat)} {lo hi i:Nat},cn key arr l lo hi→i+1<l.length→∃sa na pw nb k7,l[i]?=some (sa,na,pw)∧l[i+1]?=some (sa+na,nb,k7)∧1≤na∧1≤nb∧lo≤sa∧sa+na+nb≤hi∧cx key arr sa (sa+na)∧cx key arr (sa+na) (sa+na+nb) ∧
  ∀aO,Rl arr aO sa (sa+na+nb)→cx key aO sa (sa+na+nb)→cn key aO ((l.set i (sa,na+nb,pw)).eraseIdx (i+1)) lo hi
 | [],lo,hi,i,h,aX=>by simp at aX
 | [p],lo,hi,i,h,aX=>by simp at aX
 | p::q::r,lo,hi,0,h,_=>by
  obtain ⟨p1,p2,pw⟩:=p;obtain ⟨q1,q2,k7⟩:=q;obtain ⟨e1,n1,s1,e2,n2,s2,c⟩:=h;dsimp only at e1 n1 s1 e2 n2 s2 c;subst e1;subst e2;have:=c.le;refine ⟨p1,p2,pw,q2,k7,rfl,rfl,n1,n2,aw _,by omega,s1,s2,fun aO rl sg=>?_⟩
  show cn key aO ((p1,p2+q2,pw)::r) p1 hi;refine ⟨rfl,by show 1≤p2+q2;omega,by show cx key aO p1 (p1+(p2+q2));rw [←Nat.add_assoc];exact sg,?_⟩
  show cn key aO r (p1+(p2+q2)) hi;rw [←Nat.add_assoc];exact c.cu rl (.inr (aw _))
 | p::q::r,lo,hi,i+1,h,aX=>by
  obtain ⟨sa,na,pw,nb,k7,e1,e2,n1,n2,l1,l2,s1,s2,k⟩:=h.2.2.2.two (i:=i) (by simpa using aX)
  refine ⟨sa,na,pw,nb,k7,e1,e2,n1,n2,by omega,l2,s1,s2,fun aO rl sg=>?_⟩
  exact ⟨h.1,h.2.1,h.2.2.1.cu rl (.inl l1),k aO rl sg⟩
theorem cn.last:∀{l:List (Nat×Nat×Nat)} {lo hi pw:Nat},cn key arr l lo hi→cn key arr (l.modify (l.length-1) fun x=>(x.1,x.2.1,pw)) lo hi
 | [],lo,hi,pw,h=>h
 | [p],lo,hi,pw,h=>h
 | p::q::r,lo,hi,pw,h=>⟨h.1,h.2.1,h.2.2.1,h.2.2.2.last⟩
theorem cn.one{l:List (Nat×Nat×Nat)}(h:cn key arr l 0 hi)(hl:l.length≤1):cx key arr 0 hi:=by
 match l,h,hl with
 | [],h,_=>have:0=hi:=h;exact fun i j h1 h2 h3=>by omega
 | [p],h,_=>have:=h.2.2.1;have e:0+p.2.1=hi:=h.2.2.2;rw [←e];exact this
 | p::q::r,_,hl=>simp at hl
end
section
variable {prog:Program} {w:World} {A:Around} {E:aE} {s:Shared} {κ:SortKind} {key:Keyed→Int} {Ok:Keyed→Prop} {arr:Array Keyed} {pend:Array (Nat×Nat×Nat)} {g:Nat}
theorem AZ(h:g8 prog w A s κ key Ok)(ok:d9 Ok arr){hi:Nat}(c:cn key arr pend.toList 0 hi)(hz:hi≤arr.size)(aX:i+1<pend.size){Q:Bool→SortSt→Prop}
  (k:∀aO A0 g',Rl arr aO 0 hi→cn key aO A0.toList 0 hi→A0.size+1=pend.size→Q true (a7 κ aO A0 g')):wpS (model prog w) A E s (mergeAt' i) Q (a7 κ arr pend g):=by
 obtain ⟨sa,na,pw,nb,k7,e1,e2,n1,n2,l1,l2,s1,s2,kk⟩:=c.two (i:=i) (by simpa using aX)
 refine MS h ok (by simpa using e1) (by simpa using e2) n1 n2 (by omega) s1 s2 fun aO g' rl sg=>?_
 refine k _ _ _ (rl.wide (bU _) l2) ?_ ?_
 ·have:=kk aO rl sg
  simpa using this
 ·rw [←ee,Array.toList_eraseIdxIfInBounds,List.length_eraseIdx,ae (by simpa using aX)]
  simp;omega
theorem EX(h:g8 prog w A s κ key Ok)(ok:d9 Ok arr){Q:Unit→SortSt→Prop}
  (k:∀aO aq,aO.Perm arr→cx key aO 0 arr.size→arrOf aq=aO→failedOf aq=none→Q () aq):wpS (model prog w) A E s sortRuns' Q (a7 κ arr #[] g):=by
 rw [sortRuns'_eq];refine ak (gQ ?_);dsimp only;have es:(arrOf (a7 κ arr #[] g)).size=arr.size:=rfl;rw [es]
 refine ak (fb (eO (I:=fun x c aq=>∃(aA:Array Keyed) (dJ:Array (Nat×Nat×Nat)) (g2 lo:Nat),aq=a7 κ aA dJ g2∧c=(none,lo)∧aA.Perm arr∧cn key aA dJ.toList 0 lo∧lo≤arr.size∧x≤lo)
  (Q:=fun c aq=>∃(aA:Array Keyed) (dJ:Array (Nat×Nat×Nat)) (g2:Nat),aq=a7 κ aA dJ g2∧c=(none,arr.size)∧aA.Perm arr∧cn key aA dJ.toList 0 arr.size) ?_ ?_ ⟨arr,#[],g,0,rfl,rfl,Array.Perm.refl _,rfl,bU _,aw _⟩) ?_)
 ·rintro x c aq _ hx ⟨aA,dJ,g2,lo,rfl,rfl,mS,oH,l1,l2⟩
  have k6:=rg ok mS;have z2:=mS.size_eq;dsimp only;by_cases z:lo≥arr.size
  ·rw [ae z]
   obtain rfl:lo=arr.size:=by omega
   exact aj ⟨aA,dJ,g2,rfl,rfl,mS,oH⟩
  rw [aa z];refine ak (MJ h k6 (by omega) (by omega) fun n cm n1 nn jC sg=>?_)
  have dM:=jC.pm.trans mS;have EY:=rg ok dM;have z3:=dM.size_eq;have gH:=oH.cu jC (.inl (aw _));dsimp only;by_cases y:n<minRun' arr.size arr.size 0
  ·rw [ae y]
   refine ak (wpS_lift (i7 ⟨rfl,?_⟩));refine ak (MN h EY (n:=min (arr.size-lo) (minRun' arr.size arr.size 0)) (by omega) n1 (by omega) sg fun aU bK fh=>?_)
   rw [aa (by simp)]
   have fi:=gH.cu bK (.inl (aw _));have A1:=bK.pm.trans dM;clear gH dM EY z3 sg jC bK;have f1:1≤min (arr.size-lo) (minRun' arr.size arr.size 0):=by omega
   have f2:lo+min (arr.size-lo) (minRun' arr.size arr.size 0)≤arr.size:=by omega
   generalize min (arr.size-lo) (minRun' arr.size arr.size 0)=fo at fh f1 f2 ⊢
   revert fi A1 fh
   generalize aU=cm;intro gH dM fh;refine ak (gQ ?_);have eb:(pendingOf (a7 κ cm dJ g2)).back?=dJ.back?:=rfl;rw [eb];cases dJ.back? with
   | none=>dsimp only;exact ak (i_ (aj ⟨cm,dJ.push (lo,fo,0),g2,lo+fo,rfl,rfl,dM,by rw [lU];exact gH.snoc f1 fh,f2,by have:=f1;omega⟩))
   | some p=>
    obtain ⟨xE,MV,uX⟩:=p;dsimp only;have z3:=dM.size_eq
    refine ak (fb (eO (I:=fun y c aq=>∃(aU:Array Keyed) (bz:Array (Nat×Nat×Nat)) (g4:Nat),aq=a7 κ aU bz g4∧c=(none,())∧Rl cm aU 0 lo∧cn key aU bz.toList 0 lo)
     (Q:=fun c aq=>∃(aU:Array Keyed) (bz:Array (Nat×Nat×Nat)) (g4:Nat),aq=a7 κ aU bz g4∧c=(none,())∧Rl cm aU 0 lo∧cn key aU bz.toList 0 lo) ?_ (fun c aq hh=>hh) ⟨cm,dJ,g2,rfl,rfl,Rl.refl ..,gH⟩) ?_)
    ·rintro y c aq _ hy ⟨aU,bz,g4,rfl,rfl,bK,fi⟩
     have z4:=bK.size;refine ak (gQ ?_);have hx:∀o,o=(if (pendingOf (a7 κ aU bz g4)).size>1 then (pendingOf (a7 κ aU bz g4))[(pendingOf (a7 κ aU bz g4)).size-2]? else none)→o.isSome=true→bz.size>1:=fun o ho hs=>by
      by_cases z:bz.size>1;·exact z
      ·rw [aa z] at ho
       rw [ho] at hs;cases hs
     generalize eo:(if (pendingOf (a7 κ aU bz g4)).size>1 then (pendingOf (a7 κ aU bz g4))[(pendingOf (a7 κ aU bz g4)).size-2]? else none)=o
     cases o with
     | none=>exact aj ⟨aU,bz,g4,rfl,rfl,bK,fi⟩
     | some p=>
      have gt:=hx _ eo.symm rfl;obtain ⟨q1,q2,MW⟩:=p;dsimp only;refine dY (fun _=>aj ⟨aU,bz,g4,rfl,rfl,bK,fi⟩) (fun _=>?_);refine ak (AZ h (rg ok (bK.pm.trans dM)) fi (by omega) (show bz.size-2+1<bz.size by omega) fun A2 A3 g5 A4 A5 _=>?_)
      rw [aa (by simp)]
      exact aj ⟨A2,A3,g5,rfl,rfl,bK.trans A4,A5⟩
    ·rintro c aq ⟨aU,bz,g4,rfl,rfl,bK,fi⟩
     dsimp only;refine ak (i_ (ak (i_ (aj ⟨aU,_,g4,lo+fo,rfl,rfl,bK.pm.trans dM,?_,f2,by have:=f1;omega⟩))))
     rw [lU];refine cn.snoc ?_ f1 (cx.cu fh bK (.inr (aw _)));rw [Array.toList_modify];exact fi.last
  ·rw [aa y]
   have f2:lo+n≤arr.size:=by omega
   refine ak (gQ ?_);have eb:(pendingOf (a7 κ cm dJ g2)).back?=dJ.back?:=rfl;rw [eb];cases dJ.back? with
   | none=>dsimp only;exact ak (i_ (aj ⟨cm,dJ.push (lo,n,0),g2,lo+n,rfl,rfl,dM,by rw [lU];exact gH.snoc n1 sg,f2,by have:=n1;omega⟩))
   | some p=>
    obtain ⟨xE,MV,uX⟩:=p;dsimp only;have z3:=dM.size_eq
    refine ak (fb (eO (I:=fun y c aq=>∃(aU:Array Keyed) (bz:Array (Nat×Nat×Nat)) (g4:Nat),aq=a7 κ aU bz g4∧c=(none,())∧Rl cm aU 0 lo∧cn key aU bz.toList 0 lo)
     (Q:=fun c aq=>∃(aU:Array Keyed) (bz:Array (Nat×Nat×Nat)) (g4:Nat),aq=a7 κ aU bz g4∧c=(none,())∧Rl cm aU 0 lo∧cn key aU bz.toList 0 lo) ?_ (fun c aq hh=>hh) ⟨cm,dJ,g2,rfl,rfl,Rl.refl ..,gH⟩) ?_)
    ·rintro y c aq _ hy ⟨aU,bz,g4,rfl,rfl,bK,fi⟩
     have z4:=bK.size;refine ak (gQ ?_);have hx:∀o,o=(if (pendingOf (a7 κ aU bz g4)).size>1 then (pendingOf (a7 κ aU bz g4))[(pendingOf (a7 κ aU bz g4)).size-2]? else none)→o.isSome=true→bz.size>1:=fun o ho hs=>by
      by_cases z:bz.size>1;·exact z
      ·rw [aa z] at ho
       rw [ho] at hs;cases hs
     generalize eo:(if (pendingOf (a7 κ aU bz g4)).size>1 then (pendingOf (a7 κ aU bz g4))[(pendingOf (a7 κ aU bz g4)).size-2]? else none)=o
     cases o with
     | none=>exact aj ⟨aU,bz,g4,rfl,rfl,bK,fi⟩
     | some p=>
      have gt:=hx _ eo.symm rfl;obtain ⟨q1,q2,MW⟩:=p;dsimp only;refine dY (fun _=>aj ⟨aU,bz,g4,rfl,rfl,bK,fi⟩) (fun _=>?_);refine ak (AZ h (rg ok (bK.pm.trans dM)) fi (by omega) (show bz.size-2+1<bz.size by omega) fun A2 A3 g5 A4 A5 _=>?_)
      rw [aa (by simp)]
      exact aj ⟨A2,A3,g5,rfl,rfl,bK.trans A4,A5⟩
    ·rintro c aq ⟨aU,bz,g4,rfl,rfl,bK,fi⟩
     dsimp only;refine ak (i_ (ak (i_ (aj ⟨aU,_,g4,lo+n,rfl,rfl,bK.pm.trans dM,?_,f2,by have:=n1;omega⟩))))
     rw [lU];refine cn.snoc ?_ n1 (cx.cu sg bK (.inr (aw _)));rw [Array.toList_modify];exact fi.last
 ·rintro c aq ⟨aA,dJ,g2,lo,rfl,rfl,mS,oH,l1,l2⟩
  obtain rfl:lo=arr.size:=by omega
  exact ⟨aA,dJ,g2,rfl,rfl,mS,oH⟩
 ·rintro c aq ⟨aA,dJ,g2,rfl,rfl,mS,oH⟩
  dsimp only;have pz:=oH.le
  refine ak (fb (eO (I:=fun x c aq=>∃(cm:Array Keyed) (dN:Array (Nat×Nat×Nat)) (g3:Nat),aq=a7 κ cm dN g3∧c=(none,())∧cm.Perm arr∧cn key cm dN.toList 0 arr.size∧dN.size+x≤arr.size)
   (Q:=fun c aq=>∃(cm:Array Keyed) (dN:Array (Nat×Nat×Nat)) (g3:Nat),aq=a7 κ cm dN g3∧c=(none,())∧cm.Perm arr∧cn key cm dN.toList 0 arr.size∧dN.size≤1) ?_ ?_ ⟨aA,dJ,g2,rfl,rfl,mS,oH,show dJ.size+0≤arr.size by simpa using pz⟩) ?_)
  ·rintro x c aq _ hx ⟨cm,dN,g3,rfl,rfl,dM,gH,l3⟩
   have z3:=dM.size_eq;refine ak (gQ ?_);by_cases z:(pendingOf (a7 κ cm dN g3)).size≤1
   ·rw [ae z]
    exact aj ⟨cm,dN,g3,rfl,rfl,dM,gH,z⟩
   ·rw [aa z]
    have z':1<dN.size:=Nat.lt_of_not_le z;have go:∀i,i+1<dN.size→wpS (model prog w) A E s (mergeAt' i) (fun b aq=>b=true∧∃(aU:Array Keyed) (bz:Array (Nat×Nat×Nat)) (g4:Nat),aq=a7 κ aU bz g4∧aU.Perm arr∧cn key aU bz.toList 0 arr.size∧bz.size+(x+1)≤arr.size) (a7 κ cm dN g3):=fun i hi=>by refine AZ h (rg ok dM) gH (by omega) hi fun aU bz g4 bK fi sz=>⟨rfl,aU,bz,g4,rfl,bK.pm.trans dM,fi,by omega⟩
    refine ak (fb (go _ ?_) ?_)
    ·show (if _ then _ else _)+1<dN.size
     have e:(pendingOf (a7 κ cm dN g3)).size=dN.size:=rfl;rw [e];have:∀c:Bool,(if c=true then dN.size-2-1 else dN.size-2)+1<dN.size:=fun c=>by cases c <;> simp <;> omega
     exact this _
    ·rintro b aq ⟨rfl,aU,bz,g4,rfl,A1,fi,l4⟩
     rw [aa (by simp)]
     exact aj ⟨aU,bz,g4,rfl,rfl,A1,fi,l4⟩
  ·rintro c aq ⟨cm,dN,g3,rfl,rfl,dM,gH,l3⟩
   exact ⟨cm,dN,g3,rfl,rfl,dM,gH,by omega⟩
  ·rintro c aq ⟨cm,dN,g3,rfl,rfl,dM,gH,l3⟩
   exact aj (k cm _ dM (gH.one (by simpa using l3)) rfl rfl)
end
end Tm
namespace My
open PySem PySem.W PyProof.Rows Tm
section
variable {prog:Program} {w:World} {A:Around} {E:aE} {s:Shared}
def dO(h:Heap)(v:Value)(x y:Int):Prop:=∃a o t u e,v=.ref a∧h.get? a=some o∧o.cls=.type "tuple"∧o.data=.seq #[.int x t,.int y u] e
variable {x y x' y':Int}
theorem MX{v v':Value}(h1:dO s.heap v x y)(h2:dO s.heap v' x' y'){Q:Bool→Shared→Prop}(h:Q (decide (x<x'∨x=x'∧y<y')) s):wpAny (model prog w) A (keyLt' (tuples' true) v v') Q E s:=by
 obtain ⟨a,o,t,u,e,rfl,g,_,d⟩:=h1;obtain ⟨a',o',t',u',e',rfl,g',_,d'⟩:=h2;refine kat_lt g d g' d' ?_;show KatLex prog w A true (decide (2<2)) Q [(.int x t,.int x' t'),(.int y u,.int y' u')] 0 s;refine kat_cons (wpAny_eqBool_int ?_);by_cases z:x=x'
 ·subst z
  rw [show (x == x)=true by simp]
  refine kat_yes (kat_cons (wpAny_eqBool_int ?_));by_cases z2:y=y'
  ·subst z2
   rw [show (y == y)=true by simp]
   refine kat_yes (kat_nil ?_);rw [bV (by omega)] at h
   exact h
  ·rw [show (y == y')=false by simp [z2]]
   refine kat_no ?_;show wpAny (model prog w) A (oneLt' false (.int y u) (.int y' u')) Q _ s;refine kat_one _ _ (lt_int ?_);show Q (decide (y<y')) s;rw [show decide (y<y')=decide (x<x∨x=x∧y<y') from tW.mpr (by omega)]
   exact h
 ·rw [show (x == x')=false by simp [z]]
  refine kat_no ?_;show wpAny (model prog w) A (oneLt' true (.int x t) (.int x' t')) Q _ s;refine oneLt_int ?_;rw [show decide (x<x')=decide (x<x'∨x=x'∧y<y') from tW.mpr (by omega)]
  exact h
theorem EZ{h:Heap}:∀{vs:List Value},(∀v∈vs,∃x y,dO h v x y)→∃fs:List Value,KatTups h vs fs∧fs.length=vs.length∧∀f∈fs,∃n t,f=.int n t
 | [],_=>⟨[],.nil,rfl,fun f hf=>by cases hf⟩
 | v::vs,hv=>by
  obtain ⟨fs,k,l,i⟩:=EZ (vs:=vs) fun v h=>hv v (cB _ h);obtain ⟨x,y,a,o,t,u,e,rfl,g,c,d⟩:=hv v dB;refine ⟨.int x t::fs,.cons g c d rfl k,by rw [cL,cL,l],fun f hf=>?_⟩
  rcases b3.mp hf with rfl | hf;·exact ⟨x,t,rfl⟩
  ·exact i f hf
theorem perm_back{α β:Type}{f:α→β}{l m:List β}(h:l.Perm m):∀q:List α,m=q.map f→∃p:List α,p.Perm q∧l=p.map f:=by
 induction h with
 | nil=>intro q e;exact ⟨q,List.Perm.refl _,e⟩
 | cons x _ ih=>
  intro q e
  match q,e with
  | a::q,e=>obtain ⟨rfl,e'⟩:=List.cons.inj e;obtain ⟨p,hp,rfl⟩:=ih q e';exact ⟨a::p,hp.cons a,rfl⟩
 | swap x y _=>
  intro q e
  match q,e with
  | a::b::q,e=>obtain ⟨rfl,e'⟩:=List.cons.inj e;obtain ⟨rfl,rfl⟩:=List.cons.inj e';exact ⟨b::a::q,List.Perm.swap ..,rfl⟩
 | trans _ _ MY MZ=>intro q e;obtain ⟨p,hp,e1⟩:=MZ q e;obtain ⟨p',xF,e2⟩:=MY p e1;exact ⟨p',xF.trans hp,e2⟩
variable {h:Heap}
theorem dO.uniq{v:Value}(h1:dO h v x y)(h2:dO h v x' y'):x=x'∧y=y':=by obtain ⟨a,o,t,u,e,rfl,g,_,d⟩:=h1;obtain ⟨a',o',t',u',e',ev,g',_,d'⟩:=h2;cases ev;rw [g] at g';cases g';rw [d] at d';simp at d';exact ⟨d'.1.1.1,d'.1.2.1⟩
open Classical in
noncomputable def A6 (h:Heap) (k:Keyed):Int:=if e:∃z:Int×Int,dO h k.1 z.1 z.2 then (choose e).1*1000+(choose e).2 else 0
theorem xG{v u:Value}(p:dO h v x y):A6 h (v,u)=x*1000+y:=by have e:∃z:Int×Int,dO h (v,u).1 z.1 z.2:=⟨(x,y),p⟩;unfold A6;rw [dif_pos e];obtain ⟨a,b⟩:=(Classical.choose_spec e).uniq p;rw [a,b]
variable {vs:List Value}
theorem M0{x y:Nat→Int}(h2:2≤vs.length)(hv:∀i v,vs[i]?=some v→dO s.heap v (x i) (y i)∧0≤y i∧y i<1000){Q:SortSt→Shared→Prop}
  (hQ:∀(p:Array Nat) (st:SortSt),kX vs.length p→oB (fun i=>x i*1000+y i) p vs.length→(arrOf st).map (·.2)=List.toArray (p.toList.map fun i=>vs.getD i Value.none)→failedOf st=none→Q st s) :
  wpAny (model prog w) A (sortRuns'.run (SortSt.mk' (tuples' true) (vs.toArray.zip vs.toArray) #[] 7 none)) (fun r s'=>Q r.2 s') E s:=by
 have az:(vs.toArray.zip vs.toArray).size=vs.length:=by simp
 have ag:∀i,i<vs.length→(vs.toArray.zip vs.toArray).getD i nn=(vs.getD i Value.none,vs.getD i Value.none):=fun i hi=>by simp [Array.getD,hi]
 have ga:∀i (hi:i<vs.length),dO s.heap (vs.getD i Value.none) (x i) (y i)∧0≤y i∧y i<1000:=fun i hi=>by refine hv i _ ?_;simp [hi]
 have lt:g8 prog w A s (tuples' true) (A6 s.heap) (fun k=>∃a b,dO s.heap k.1 a b∧0≤b∧b<1000):=by
  rintro ⟨u,u'⟩ ⟨v,v'⟩ ⟨a,b,p1,b0,b1⟩ ⟨c,d,p2,d0,d1⟩ C hC;refine MX p1 p2 ?_;rw [xG p1,xG p2] at hC;rw [show decide (a<c∨a=c∧b<d)=decide (a*1000+b<c*1000+d) from tW.mpr (by omega)]
  exact hC
 have ok:d9 (fun k=>∃a b,dO s.heap k.1 a b∧0≤b∧b<1000) (vs.toArray.zip vs.toArray):=fun i hi=>by rw [az] at hi;rw [ag i hi];exact ⟨_,_,ga i hi⟩
 refine bo (EX (E:=E) (Q:=fun _ st=>Q st s) (g:=7) lt ok fun aO st pm sg ha hf=>?_) (fun r s' h'=>by obtain ⟨rfl,h'⟩:=h';exact h') fun _ _ e=>e
 have el:(vs.toArray.zip vs.toArray).toList=(List.range vs.length).map fun i=>(vs.getD i Value.none,vs.getD i Value.none):=by
  refine i9 (by simp) fun i h1 h2=>?_
  have hi:i<vs.length:=by simpa using h2
  simp [hi]
 obtain ⟨p,hp,ep⟩:=perm_back (qA.mp pm) _ el;have pl:p.length=vs.length:=by rw [hp.length_eq,b6]
 have A7:∀i∈p,i<vs.length:=fun i hi=>aQ.mp (hp.mem_iff.mp hi);have hsz:aO.size=vs.length:=by rw [pm.size_eq,az]
 have gd:∀i,i<vs.length→aO.getD i nn=(vs.getD (p.toArray.getD i 0) Value.none,vs.getD (p.toArray.getD i 0) Value.none)∧p.toArray.getD i 0<vs.length:=fun i hi=>by
  have e1:aO.getD i nn=aO.toList[i]'(by simp;omega):=by simp [Array.getD,show i<aO.size by omega]
  have e2:p.toArray.getD i 0=p[i]'(by omega):=by simp [Array.getD,show i<p.length by omega]
  rw [e1,e2];refine ⟨?_,A7 _ (dH _)⟩;simp [ep]
 refine hQ p.toArray st (qA.mpr (by simpa using hp)) (fun i j h1 h3=>?_) ?_ hf
 ·have:=sg i j (bU _) h1 (by rw [az];exact h3)
  unfold vA at this;obtain ⟨e1,l1⟩:=gd i (by omega)
  obtain ⟨e2,l2⟩:=gd j h3;rw [e1,e2,xG (ga _ l1).1,xG (ga _ l2).1] at this;exact this
 ·rw [ha]
  apply Array.toList_inj.mp;rw [Array.toList_map,ep,bR];rfl
theorem M1{Q:SortKind→Shared→Prop}(h1:1≤vs.length)(hv:∀v∈vs,∃x y,dO s.heap v x y)(h:Q (tuples' true) s):wpAny (model prog w) A (keyKind' vs.toArray) Q E s:=by
 obtain ⟨fs,k,l,i⟩:=EZ hv;refine kat_kind (T:=Value.type "int") k (by omega) (fun v hv=>?_) rfl h
 obtain ⟨n,t,rfl⟩:=i v hv;exact .now
theorem dO.mono{h':Heap}{v:Value}(k:∀b o,h.get? b=some o→h'.get? b=some o)(p:dO h v x y):dO h' v x y:=by obtain ⟨a,o,t,u,e,rfl,g,c,d⟩:=p;exact ⟨a,o,t,u,e,rfl,k _ _ g,c,d⟩
theorem M3{a:Addr}{n:Nat}{x y:Nat→Int}{P:PySem.Fin→Shared→Prop}(ho:s.heap.get? a=some (seqObj "list" vs.toArray n))(uY:vs.length<1000)(hv:∀i v,vs[i]?=some v→dO s.heap v (x i) (y i)∧0≤y i∧y i<1000)
  (h:∀(p:Array Nat),kX vs.length p→oB (fun i=>x i*1000+y i) p vs.length→P (.done (.ret .none)) {s with heap:=sortedHeap s.heap a vs (List.toArray (p.toList.map fun i=>vs.getD i Value.none))}) :
  wpAny (model prog w) A (Builtin.«list.sort» ⟨[.ref a],[]⟩) P E s:=by
 have sl:vs.length≤sizeLine:=by rw [gO];omega
 have lt:=aS ho
 obtain ⟨e1,g1⟩:∃e,(s.heap.update a (Obj.mapSeq fun _=>#[])).get? a=some (seqObj "list" #[] e):=⟨_,lY ho fun _=>#[]⟩
 have z1:(s.heap.update a (Obj.mapSeq fun _=>#[])).objs.size=s.heap.objs.size:=tX _ _ _
 have up:∀b u,b<s.heap.objs.size→(s.heap.update a (Obj.mapSeq fun _=>#[])).get? b=some u→(((s.heap.update a (Obj.mapSeq fun _=>#[])).push (seqObj "tuple" vs.toArray 0)).push (seqObj "list" #[] 0)).get? b=some u:=fun b u hb hu=>by
  rw [lZ _ _ _ (bE (by rw [nI,z1];exact jK hb)),lZ _ _ _ (bE (by rw [z1];exact hb))]
  exact hu
 have g3:=up a _ lt g1
 have E1:∀i v,vs[i]?=some v→dO (((s.heap.update a (Obj.mapSeq fun _=>#[])).push (seqObj "tuple" vs.toArray 0)).push (seqObj "list" #[] 0)) v (x i) (y i)∧0≤y i∧y i<1000:=fun i v hi=>by
  obtain ⟨⟨b,o,t,u,e,rfl,g,cc,d⟩,y0⟩:=hv i v hi
  have nb:b≠a:=fun q=>by
   rw [q,ho] at g
   cases g
   exact absurd (Value.type.inj cc) (by decide)
  refine ⟨⟨b,o,t,u,e,rfl,up b o (aS g) ?_,cc,d⟩,y0⟩
  rw [qB _ _ _ _ nb]
  exact g
 rw [list_sort_plain]
 refine av (listItems_at ho rfl (av (qC ho rfl ?_ (by rw [bP];omega) (bU _))))
 refine av (seqEpoch_at g1 rfl (av (wpAny_newTuple ?_ (by show vs.length≤_;omega))))
 refine av (qD (jG ?_) (bU _))
 show wpAny (model prog w) A _ P E {s with heap:=((s.heap.update a (Obj.mapSeq fun _=>#[])).push (seqObj "tuple" vs.toArray 0)).push (seqObj "list" #[] 0)}
 dsimp only
 have fin:∀(st:SortSt) (p:Array Nat),kX vs.length p→oB (fun i=>x i*1000+y i) p vs.length→(arrOf st).map (·.2)=List.toArray (p.toList.map fun i=>vs.getD i Value.none)→failedOf st=none→
   wpAny (model prog w) A (do
    let touched:=(←seqEpoch a) != e1
    Builtin.List.listUpdate (.ref a) fun _=>(arrOf st).map (·.2)
    if let some e:=failedOf st then rule "list.sort.comparison-raised";throw e
    if touched then rule "list.sort.modified";raiseError "ValueError" "list modified during sort"
    ret .none) P E {s with heap:=((s.heap.update a (Obj.mapSeq fun _=>#[])).push (seqObj "tuple" vs.toArray 0)).push (seqObj "list" #[] 0)}:=fun st p hp hu ha hf=>by
  refine av (seqEpoch_at g3 rfl (av (qC g3 rfl ?_ (bU _) ?_)))
  ·rw [hf,ha]
   simp only [bne_self_eq_false,wj,if_false]
   exact bG (h p hp hu)
  ·rw [ha,bP,aB,ee,hp.size]
   omega
 by_cases z:vs.toArray.size<2
 ·rw [ae z,ae z]
  refine av (bG ?_)
  rw [StateT.run_pure]
  refine av (bG ?_)
  have len:vs.length<2:=by simpa using z
  refine fin _ (List.toArray (List.range vs.length)) (Array.Perm.refl _) (fun a b h1 h2=>by
   obtain rfl:a=b:=by omega
   exact iy _) ?_ rfl
  match vs,len with
  | [],_=>
   show Array.map (·.2) ((#[]:Array Value).zip #[])=_
   simp
  | [v],_=>
   show Array.map (·.2) (#[v].zip #[v])=_
   simp
 ·rw [aa z,aa z]
  have len:2≤vs.length:=by simpa using z
  refine av (M1 (by omega) (fun v hm=>?_) ?_)
  ·obtain ⟨i,hi,rfl⟩:=qw hm
   exact ⟨_,_,(E1 i _ (by simp [hi])).1⟩
  ·refine av (bo (M0 (Q:=fun st s'=>s'={s with heap:=((s.heap.update a (Obj.mapSeq fun _=>#[])).push (seqObj "tuple" vs.toArray 0)).push (seqObj "list" #[] 0)}∧∃p,kX vs.length p∧oB (fun i=>x i*1000+y i) p vs.length∧(arrOf st).map (·.2)=List.toArray (p.toList.map fun i=>vs.getD i Value.none)∧failedOf st=none) len E1 fun p st a1 a2 a3 a4=>⟨rfl,p,a1,a2,a3,a4⟩) ?_ fun _ _ e=>e)
   rintro ⟨⟨⟩,st⟩ s' ⟨rfl,p,a1,a2,a3,a4⟩
   exact fin st p a1 a2 a3 a4
end
open PySem PySem.W PyProof.Rows
section
variable {prog:Program} {w:World} {A:Around} {E:aE} {s:Shared}
theorem M4{l:Addr}{vs:List Value}{x y:Nat→Int}{Q:aE}(hl:s.heap.IsList l vs.toArray)(uY:vs.length<1000)(hv:∀i v,vs[i]?=some v→dO s.heap v (x i) (y i)∧0≤y i∧y i<1000)
  (h:∀(p:Array Nat) (h':Heap) (c:Nat),kX vs.length p→oB (fun i=>x i*1000+y i) p vs.length→(∀b o,s.heap.get? b=some o→h'.get? b=some o)→h'.get? (s.heap.objs.size+1)=some (seqObj "list" (List.toArray (p.toList.map fun i=>vs.getD i Value.none)) c)→Q (.ref (s.heap.objs.size+1)) {s with heap:=h'}) :
  wpAny (model prog w) A (call (.builtin "sorted") [.ref l]) Q E s:=by
 have sl:vs.length≤sizeLine:=by rw [gO];omega
 refine Calls.call_function_entry kind_sorted plain_sorted entry_sorted (args_sorted1 _) ?_;unfold Builtin.«sorted»;refine av (m:=checkCount "sorted" 1 1 _) (bG (av (collect_list hl (av (qD ?_ sl)) sl)));have zz:((s.heap.push (seqObj "list" #[] 0)).update s.heap.objs.size (Obj.mapSeq (·++vs.toArray))).objs.size=s.heap.objs.size+1:=by rw [tX,nI]
 have kp:∀b o,s.heap.get? b=some o→(((s.heap.push (seqObj "list" #[] 0)).update s.heap.objs.size (Obj.mapSeq (·++vs.toArray))).push (seqObj "list" vs.toArray 0)).get? b=some o:=fun b o g=>by
  have lt:=aS g;rw [lZ _ _ _ (bE (by rw [zz];exact jK lt)),qB _ _ _ _ (bE lt),lZ _ _ _ (bE lt)]
  exact g
 have gL:(((s.heap.push (seqObj "list" #[] 0)).update s.heap.objs.size (Obj.mapSeq (·++vs.toArray))).push (seqObj "list" vs.toArray 0)).get? (s.heap.objs.size+1)=some (seqObj "list" vs.toArray 0):=by rw [←zz];exact dE _ rfl
 show wpAny _ _ _ _ _ {s with heap:=((s.heap.push (seqObj "list" #[] 0)).update s.heap.objs.size (Obj.mapSeq (·++vs.toArray))).push (seqObj "list" vs.toArray 0)};rw [zz];generalize ((s.heap.push (seqObj "list" #[] 0)).update s.heap.objs.size (Obj.mapSeq (·++vs.toArray))).push (seqObj "list" vs.toArray 0)=h1 at kp gL;refine av (jG (wpAny_call_entry slot_list_sort ⟨_,gL,rfl⟩ entry_list_sort (M3 (s:={s with heap:=h1}) gL uY (fun i v hi=>⟨(hv i v hi).1.mono kp,(hv i v hi).2⟩) fun p hp hu=>⟨_,rfl,?_⟩) (args_list_sort _)));have M5:=aS gL;have z1:(h1.update (s.heap.objs.size+1) (Obj.mapSeq fun _=>#[])).objs.size=h1.objs.size:=tX _ _ _;obtain ⟨e1,g1⟩:∃e,(h1.update (s.heap.objs.size+1) (Obj.mapSeq fun _=>#[])).get? (s.heap.objs.size+1)=some (seqObj "list" #[] e):=⟨_,lY gL fun _=>#[]⟩;have up:∀b u,b<h1.objs.size→(h1.update (s.heap.objs.size+1) (Obj.mapSeq fun _=>#[])).get? b=some u→(((h1.update (s.heap.objs.size+1) (Obj.mapSeq fun _=>#[])).push (seqObj "tuple" vs.toArray 0)).push (seqObj "list" #[] 0)).get? b=some u:=fun b u hb hu=>by
  rw [lZ _ _ _ (bE (by rw [nI,z1];exact jK hb)),lZ _ _ _ (bE (by rw [z1];exact hb))]
  exact hu
 have g3:=up _ _ M5 g1;refine bG ⟨_,rfl,h p _ _ hp hu (fun b o g=>?_) (lY g3 fun _=>List.toArray (p.toList.map fun i=>vs.getD i Value.none))⟩;have g':=kp b o g;have ne:b≠s.heap.objs.size+1:=bE (jK (aS g));show (Heap.update _ _ _).get? b=some o;rw [qB _ _ _ _ ne];refine up b o (aS g') ?_;rw [qB _ _ _ _ ne];exact g'
end
end My
namespace L2
open PySem PySem.W PyProof.Rows My
def M6:List V→Hp→VK→Prop:=fun xs H Q=>∃(a:Addr) (vs:List V) (x y:Nat→Int),xs=[.ref a]∧H a=some (.lst vs)∧vs.length<1000∧(∀(i:Nat) (v:V),vs[i]?=some v→(∃b,v=.ref b∧H b=some (.tup [.int (x i),.int (y i)]))∧0≤y i∧y i<1000) ∧
 ∀(p:Array Nat) (l:Addr),kX vs.length p→oB (fun i=>x i*1000+y i) p vs.length→H l=none→Q (.ref l) (upd H l (.lst (p.toList.map fun i=>vs.getD i .aN)))
theorem A8{xs:List V}{us:List Value}(r:Vals xs us):∀(ns:List Nat),(∀i∈ns,i<xs.length)→Vals (ns.map fun i=>xs.getD i .aN) (ns.map fun i=>us.getD i Value.none)
 | [],_=>.nil
 | i::ns,h=>by
  have hi:=h i dB;obtain ⟨u,e,ru⟩:=r.get (i:=i) (x:=xs[i]) (by simp [hi])
  refine .cons ?_ (A8 r ns fun j hj=>h j (cB _ hj));dsimp only;rw [show xs.getD i .aN=xs[i] by simp [hi],show us.getD i Value.none=u by rw [ei,e];rfl]
  exact ru
theorem M7{X:Cx}:eC X (.builtin "sorted") M6:=by
 intro pins s σ H xs us Q I r h;obtain ⟨a,vs,x,y,rfl,ha,uY,hv,k⟩:=h;obtain ⟨u,rfl,ru⟩:=vals1 r;cases ru;obtain ⟨ah,rv,pl,hz⟩:=I.list (.of ha);have hl:=rv.length;refine M4 (x:=x) (y:=y) pl.isList (by omega) (fun i v hi=>?_) fun p h' c hp hu kp g=>?_
 ·have aX:i<vs.length:=by have:=(b9.mp hi).1;omega
  have gi:vs[i]?=some vs[i]:=by simp [aX]
  obtain ⟨⟨b,eb,hb⟩,A9⟩:=hv i _ gi;obtain ⟨u,eu,ru⟩:=rv.get gi;rw [hi] at eu;cases eu;rw [eb] at ru;cases ru;obtain ⟨_,gB,r2,o,g,cl,e,d⟩:=(show bX X.prog X.w H s.heap b (.tup [.int (x i),.int (y i)]) from I.au b _ hb);obtain ⟨u1,u2,rfl,q1,q2⟩:=vals2 r2;obtain ⟨t1,rfl⟩:=q1;obtain ⟨t2,rfl⟩:=q2;exact ⟨⟨b,o,t1,t2,e,rfl,g,cl,d⟩,A9⟩
 ·rw [←hl] at hp hu
  have sz:=hp.size;refine ⟨.ref (s.heap.objs.size+1),_,I.laid (t':=s.toks) (o:=.lst (p.toList.map fun i=>vs.getD i .aN)) kp (lR _) ⟨?_,p.toList.map fun i=>ah.getD i Value.none,c,?_,g⟩,rfl,k p _ hp hu (I.au.fresh (lR _))⟩
  ·rw [aB,ee,sz]
   exact hz
  ·refine A8 rv _ fun i hi=>?_
   have m:i∈List.toArray (List.range vs.length):=(Array.Perm.mem_iff hp).mp (Array.mem_toList_iff.mp hi);simpa using m
end L2
namespace My
open PySem L2
def M8(K:aC):R2:=fun x y H Q=>∃a b xs,x=.ref a∧y=.ref b∧bC K H a xs∧H b=some (.lst [])∧Q (.bl (!xs.isEmpty)) H
theorem M9{X:Cx}(hu:X.A.units+64<cLine):cG X (compareOp .NotEq) (M8 X.K):=by
 intro pins s σ H x y v u Q I rx ry h;obtain ⟨a,b,xs,rfl,rfl,h1,h2,q⟩:=h;cases rx;cases ry;obtain ⟨us,r1,t1,_⟩:=I.list h1;obtain ⟨vs,r2,t2,_⟩:=I.list (bC.of h2);have l1:=r1.length;have l2:=r2.length;cases xs with
 | nil=>
  refine SeqAt.RcNeAt.lists (e:=fun _=>true) t1.isList t2.isList (by simp at l1 l2 ⊢;omega) (by omega) (fun j z1 z2=>?_) _ _ _ _ ?_
  ·simp at l1
   have:us=[]:=zL.mp l1.symm;subst this;simp at z1
  ·rw [all_range]
   exact ⟨.bl false,H,I,rfl,q⟩
 | cons w ws=>
  refine SeqAt.RcNeAt.lists_lengths t1.isList t2.isList ?_ (by omega) _ _ _ _ ⟨.bl true,H,I,rfl,q⟩
  simp at l1 l2 ⊢;omega
def M_(K:aC):Sp:=fun vs H Q _=>∃(P a l:Addr) (ns:List Int) (xs:List V),vs=[.ref P,.ref l]∧dX H P a∧bC K (er P H) a (ns.map V.int)∧l≠P∧H l=some (.lst xs)∧xs.length≤100 ∧
 ∀(r:Addr) (ys:List V) (H':Hp),aJ P H H'→dX H' P a→er P H r=none→r≠P→H' r=some (.lst ys)→ys.Perm xs→Q (.ref r) H'
theorem E2{α:Type}:∀(zs:List α) (k:Nat) (h:k<zs.length),(zs[k]::zs.eraseIdx k).Perm zs
 | _::_,0,_=>.refl _
 | z::zs,k+1,h=>(List.Perm.swap _ _ _).trans ((E2 zs k (by simpa using h)).cons z)
def bu(H:Hp)(vs:List V)(L:ax):Prop:=vs.length=L.length∧∀(k:Nat) (v:V) (p:Int×Int),vs[k]?=some v→L[k]?=some p→∃b,v=.ref b∧H b=some (.tup [.int p.1,.int p.2])
theorem bu.nil(H:Hp):bu H [] []:=⟨rfl,fun k v p h=>by simp at h⟩
variable {H H':Hp} {vs:List V} {L:ax}
theorem bu.mono(h:bu H vs L)(s:ai H H'):bu H' vs L:=⟨h.1,fun k v p h1 h2=>by obtain ⟨b,e,g⟩:=h.2 k v p h1 h2;exact ⟨b,e,s _ _ g⟩⟩
variable {xs:List V}
theorem bu.cu{r:Addr}(h:bu H vs L)(e:H r=some (.lst xs))(k:∀b o,b≠r→H b=some o→H' b=some o):bu H' vs L:=⟨h.1,fun i v p h1 h2=>by obtain ⟨b,eb,g⟩:=h.2 i v p h1 h2;refine ⟨b,eb,k b _ (fun z=>?_) g⟩;rw [z,e] at g;cases g⟩
variable {b:Addr} {p:Int×Int}
theorem bu.push(h:bu H vs L)(e:H b=some (.tup [.int p.1,.int p.2])):bu H (vs++[.ref b]) (L++[p]):=⟨by simp [h.1],fun k v q h1 h2=>by
 have hl:=h.1;by_cases z:k<vs.length
 ·rw [ir z] at h1
  rw [ir (by omega)] at h2
  exact h.2 k v q h1 h2
 ·have hk:=(b9.mp h1).1
  rw [dh,kB] at hk;obtain rfl:k=vs.length:=by omega
  rw [iq (aw _),qu] at h1;rw [iq (by omega),show vs.length-L.length=0 by omega] at h2
  cases h1;cases h2;exact ⟨b,rfl,e⟩⟩
structure hG (n:Nat) (L:ax):Prop where
 nd:L.Nodup
 lt:∀p∈L,0≤p.1∧p.1<p.2∧p.2<n
 j8:L.length≤n*n / 2
def lexLt(p q:Int×Int):Prop:=p.1<q.1∨p.1=q.1∧p.2<q.2
variable {M:ax}
theorem Na{p:Array Nat}(P:kX M.length p)(U:oB (fun i=>(M.getD i (0,0)).1*1000+(M.getD i (0,0)).2) p M.length)(nd:M.Nodup)(b:∀q∈M,0≤q.2∧q.2<1000) :
  (p.toList.map fun i=>M.getD i (0,0)).Perm M∧(p.toList.map fun i=>M.getD i (0,0)).Pairwise lexLt:=by
 have pm:p.toList.Perm (List.range M.length):=qA.mp P;have pn:p.toList.Nodup:=pm.nodup_iff.mpr dr;have lt:∀i∈p.toList,i<M.length:=fun i hi=>aQ.mp (pm.mem_iff.mp hi);refine ⟨?_,?_⟩
 ·have e:((List.range M.length).map fun i=>M.getD i (0,0))=M:=by
   refine i9 (by simp) fun i h1 h2=>?_
   rw [jM,qE,getD_at h2]
  have:=pm.map fun i=>M.getD i (0,0);rw [e] at this;exact this
 ·rw [nH]
  intro i j hi hj qQ;rw [aB] at hi hj;rw [jM,jM];have sz:=P.size;have li:p.toList[i]<M.length:=lt _ (dH _);have lj:p.toList[j]<M.length:=lt _ (dH _);have u:=U i j (by omega) (by rw [←sz,←ee];exact hj)
  unfold vN at u;have gi:p.getD i 0=p.toList[i]:=by
   have:i<p.size:=by rw [←ee];exact hi
   simp [Array.getD,this]
  have gj:p.getD j 0=p.toList[j]:=by
   have:j<p.size:=by rw [←ee];exact hj
   simp [Array.getD,this]
  rw [gi,gj] at u;dsimp only at u;rw [getD_at li,getD_at lj] at u;rw [getD_at li,getD_at lj];have ne:M[p.toList[i]]≠M[p.toList[j]]:=fun e=>by have e1:=(vY nd).mp e;have e2:=(vY pn).mp e1;omega
  have b1:=b _ (dH li);have b2:=b _ (dH lj);generalize M[p.toList[i]]=x at u ne b1;generalize M[p.toList[j]]=y at u ne b2;obtain ⟨x1,x2⟩:=x;obtain ⟨y1,y2⟩:=y;unfold lexLt;dsimp only at u b1 b2 ⊢;by_cases z:x1<y1;·exact .inl z
  ·right
   have e1:x1=y1:=by omega
   subst e1;refine ⟨rfl,?_⟩;by_cases y:x2=y2
   ·subst y
    exact absurd rfl ne
   ·omega
theorem A_{α β:Type}{f:α→β}:∀{L:List α},L.Nodup→(∀p q,p∈L→q∈L→f p=f q→p=q)→(L.map f).Nodup
 | [],_,_=>List.nodup_nil
 | x::L,h,k=>by obtain ⟨h1,h2⟩:=eh.mp h;refine eh.mpr ⟨fun m=>?_,A_ h2 fun p q hp hq=>k p q (cB _ hp) (cB _ hq)⟩;obtain ⟨y,hy,e⟩:=bS.mp m;have:=k y x (cB _ hy) dB e;rw [this] at hy;exact h1 hy
def eX(nm:Nat→Int)(p:Int×Int):Int×Int:=(min (nm p.1.toNat) (nm p.2.toNat),max (nm p.1.toNat) (nm p.2.toNat))
structure uZ (n:Nat) (nm:Nat→Int):Prop where
 lt:∀i,i<n→0≤nm i∧nm i<n
 inj:∀i j,i<n→j<n→nm i=nm j→i=j
variable {n:Nat}
theorem Nb{nm:Nat→Int}(h:hG n L)(N:uZ n nm):hG n (L.map (eX nm)) where
 nd:=by
  refine A_ h.nd fun p q hp hq e=>?_;have a:=h.lt p hp;have b:=h.lt q hq;obtain ⟨p1,p2⟩:=p;obtain ⟨q1,q2⟩:=q;obtain ⟨i,rfl⟩:=ja (show 0≤p1 by dsimp only at a;omega)
  obtain ⟨j,rfl⟩:=ja (show 0≤p2 by dsimp only at a;omega)
  obtain ⟨k,rfl⟩:=ja (show 0≤q1 by dsimp only at b;omega)
  obtain ⟨l,rfl⟩:=ja (show 0≤q2 by dsimp only at b;omega)
  dsimp only at a b;have e1:=b_ Prod.fst e;have e2:=b_ Prod.snd e;unfold eX at e1 e2;simp only [cU] at e1 e2;have ij:nm i≠nm j:=fun z=>by have:=N.inj i j (by omega) (by omega) z;omega
  have kl:nm k≠nm l:=fun z=>by have:=N.inj k l (by omega) (by omega) z;omega
  by_cases z:nm i=nm k
  ·have e3:nm j=nm l:=by omega
   have i1:=N.inj i k (by omega) (by omega) z
   have i2:=N.inj j l (by omega) (by omega) e3
   rw [i1,i2]
  ·have e3:nm i=nm l:=by omega
   have e4:nm j=nm k:=by omega
   have i1:=N.inj i l (by omega) (by omega) e3
   have i2:=N.inj j k (by omega) (by omega) e4
   omega
 lt:=fun p hp=>by
  obtain ⟨q,hq,rfl⟩:=bS.mp hp;have a:=h.lt q hq;have n1:=N.lt q.1.toNat (by omega)
  have n2:=N.lt q.2.toNat (by omega)
  have ne:nm q.1.toNat≠nm q.2.toNat:=fun z=>by have:=N.inj _ _ (by omega) (by omega) z;omega
  unfold eX;dsimp only;omega
 j8:=by rw [aB];exact h.j8
theorem hG.perm{L':ax}(h:hG n L)(p:L'.Perm L):hG n L':=⟨p.nodup_iff.mpr h.nd,fun q hq=>h.lt q (p.mem_iff.mp hq),by rw [p.length_eq];exact h.j8⟩
def eY(H:Hp)(t:Addr)(n:Nat)(L:ax):Prop:=∃(lt:Addr) (us:List V),H t=some (.tup [.int (n:Int),.ref lt])∧H lt=some (.tup us)∧bu H us L
def Nc:Sp:=fun vs H Q _=>∃(l r:Addr) (n:Nat) (us ws:List V) (L:ax) (nm:Nat→Int),vs=[.int (n:Int),.ref l,.ref r]∧H l=some (.lst us)∧bu H us L∧hG n L∧n≤30∧H r=some (.lst ws)∧ws.length=n∧(∀i,i<n→ws[i]?=some (.int (nm i)))∧uZ n nm ∧
 ∀(t:Addr) (L':ax) (H':Hp),ai H H'→H t=none→eY H' t n L'→hG n L'→L'.Pairwise lexLt→L'.Perm (L.map (eX nm))→Q (.ref t) H'
variable {us:List V}
theorem bu.pick(h:bu H us M)(ns:List Nat)(hn:∀i∈ns,i<M.length):bu H (ns.map fun i=>us.getD i .aN) (ns.map fun i=>M.getD i (0,0)):=⟨by simp,fun k v p h1 h2=>by
 have hl:=h.1;have hk:k<ns.length:=by have:=(b9.mp h1).1;simpa using this
 have hi:=hn ns[k] (dH hk);rw [bt,bQ hk] at h1 h2;cases h1;cases h2;dsimp only;have aX:ns[k]<us.length:=by omega
 rw [getD_at hi];have e:us.getD ns[k] .aN=us[ns[k]]:=by simp [aX]
 rw [e];exact h.2 ns[k] _ _ (by simp [aX]) (by simp [hi])⟩
variable {P a:Addr}
theorem Ba(p:dX H P a)(e:H b=some (.tup xs)):er P H b=some (.tup xs):=by refine AM (fun z=>?_) e;obtain ⟨x,y,eP,_⟩:=p;rw [z,eP] at e;cases e
theorem Nd(n:Nat):(aW n).Nodup:=A_ dr fun p q _ _ e=>by have:=V.int.inj e;omega
theorem Nf{ys:List V}(h:ys.Perm (aW n)):∃nm:Nat→Int,ys.length=n∧(∀i,i<n→ys[i]?=some (.int (nm i)))∧uZ n nm:=by
 have ln:ys.length=n:=by rw [h.length_eq];unfold aW;simp
 have nd:ys.Nodup:=h.nodup_iff.mpr (Nd n);have each:∀i,∃x:Int,i<n→ys[i]?=some (.int x)∧0≤x∧x<n:=fun i=>by
  by_cases hi:i<n
  ·have aX:i<ys.length:=by omega
   have m:ys[i]∈aW n:=h.mem_iff.mp (dH aX);obtain ⟨k,hk,e⟩:=bS.mp m;have:=aQ.mp hk;exact ⟨(k:Int),fun _=>⟨by rw [e];simp [aX],by omega,by omega⟩⟩
  ·exact ⟨0,fun z=>absurd z hi⟩
 obtain ⟨nm,hn⟩:=Classical.axiomOfChoice each;refine ⟨nm,ln,fun i hi=>(hn i hi).1,fun i hi=>(hn i hi).2,fun i j hi hj e=>?_⟩;have a:=(hn i hi).1;have b:=(hn j hj).1;rw [e] at a;have aX:i<ys.length:=by omega
 have dD:j<ys.length:=by omega
 rw [bQ aX] at a;rw [bQ dD] at b;exact (vY nd).mp ((Option.some.inj a).trans (Option.some.inj b).symm)
theorem bu.er(h:bu H us L)(p:dX H P a):bu (er P H) us L:=⟨h.1,fun k v q h1 h2=>by obtain ⟨b,e,g⟩:=h.2 k v q h1 h2;exact ⟨b,e,Ba p g⟩⟩
theorem eY.er{t:Addr}(h:eY H t n L)(p:dX H P a):eY (er P H) t n L:=by obtain ⟨lt,us,h1,h2,h3⟩:=h;exact ⟨lt,us,Ba p h1,Ba p h2,h3.er p⟩
theorem eY.mono{t:Addr}(h:eY H t n L)(s:ai H H'):eY H' t n L:=by obtain ⟨lt,us,h1,h2,h3⟩:=h;exact ⟨lt,us,s _ _ h1,s _ _ h2,h3.mono s⟩
theorem Ng{wi:TI}{ρ:St→St}{tt:TT}{te:TE}{σ:St}{Q:VK}(pr:Nat→Bool)(eU:∀R:It→Hp→Prop,(∀J,jY J xs H→R J H)→wi σ H R)(hn:xs.length<sizeLine)
  (P:Addr→Nat→V→Hp→Prop) (mono:∀D i y H H' ys,P D i y H→H D=some (.lst ys)→(∀b o,b≠D→H b=some o→H' b=some o)→P D i y H')
  (test:∀(i:Nat) (x:V),xs[i]?=some x→∀(Hc:Hp) (R:Bool→Hp→Prop),ai H Hc→R (pr i) Hc→tt (some x::ρ σ) Hc R)
  (step:∀D (i:Nat) (x:V),xs[i]?=some x→∀(Hc:Hp) (R:VK),ai H Hc→(∃ys,Hc D=some (.lst ys))→(∀y H3,ai Hc H3→P D i y H3→R y H3)→te (some x::ρ σ) Hc R)
  (fin:∀D ys Hc,H D=none→ai H Hc→ys.length=((List.range xs.length).filter pr).length→(∀(k i:Nat) (y:V),ys[k]?=some y→((List.range xs.length).filter pr)[k]?=some i→P D i y Hc)→Hc D=some (.lst ys)→Q (.ref D) Hc):jo wi ρ tt te σ H Q:=by
 refine eU _ fun J js=>?_;intro D nD;refine ⟨fun i m ys Hc=>m=xs.length-i∧i≤xs.length∧Hc D=some (.lst ys)∧ai H Hc∧ys.length=((List.range i).filter pr).length∧∀(k i':Nat) (y:V),ys[k]?=some y→((List.range i).filter pr)[k]?=some i'→P D i' y Hc,⟨_,rfl,bU _,ar,dW (ai.refl H) nD,rfl,fun k i y h=>by simp at h⟩,?_⟩
 rintro i m ys Hc ⟨rfl,hi,eD,sH,ly,hP⟩;refine ⟨eD,?_⟩;by_cases ba:i<xs.length
 ·refine .inr ⟨js.go i Hc sH ba,fun x H' hy=>?_⟩
  obtain ⟨rfl,hx⟩:=js.cV i Hc x H' sH hy;refine test i x (hx ba) _ _ sH ?_;have fs:(List.range (i+1)).filter pr=(List.range i).filter pr++(if pr i=true then [i] else []):=by
   rw [tQ,qF]
   congr 1
   cases e:pr i <;> simp [e]
  have fl:((List.range i).filter pr).length≤i:=b5 (qG _ _) (by simp)
  cases e:pr i with
  | true=>
   rw [ae rfl];refine step D i x (hx ba) _ _ sH ⟨_,eD⟩ fun y H3 s3 hp=>?_;have e3:=s3 _ _ eD;have cu:∀b o,b≠D→H3 b=some o→upd H3 D (.lst (ys++[y])) b=some o:=fun b o nb e=>by rw [aR nb];exact e
   refine ⟨e3,by omega,xs.length-(i+1),by omega,rfl,ba,ar,dW (sH.trans s3) nD,?_,fun k i' y' h1 h2=>?_⟩
   ·rw [fs,e,ae rfl,dh,dh,ly]
    rfl
   ·rw [fs,e,ae rfl] at h2
    by_cases z:k<ys.length
    ·rw [ir z] at h1
     rw [ir (by omega)] at h2
     refine mono D i' y' H' _ ys (hP k i' y' h1 h2) eD fun b o nb e=>cu b o nb (s3 _ _ e)
    ·have hk:=(b9.mp h1).1
     rw [dh,kB] at hk;obtain rfl:k=ys.length:=by omega
     rw [iq (aw _),qu] at h1;rw [iq (by omega),show ys.length-((List.range i).filter pr).length=0 by omega] at h2
     cases h1;cases h2;exact mono D _ _ H3 _ ys hp e3 cu
  | false=>
   rw [aa (by simp)]
   refine ⟨xs.length-(i+1),by omega,rfl,ba,eD,sH,?_,fun k i' y' h1 h2=>?_⟩
   ·rw [fs,e,aa (by simp),qq]
    exact ly
   ·rw [fs,e,aa (by simp),qq] at h2
    exact hP k i' y' h1 h2
 ·have e:i=xs.length:=by omega
  subst e;exact .inl ⟨js.stop _ Hc sH (aw _),fin D ys Hc nD sH ly hP eD⟩
def Bb(n:Nat)(f:Nat→Nat→Bool)(i:Nat):List (Int×Int):=((List.range (n-(i+1))).filter fun k=>f i (i+1+k)).map fun k=>((i:Int),((i+1+k:Nat):Int))
def u0(n:Nat)(f:Nat→Nat→Bool):Nat→List (Int×Int)
 | 0=>[]
 | i+1=>u0 n f i++Bb n f i
variable {f:Nat→Nat→Bool} {i:Nat}
theorem E3(h:p∈Bb n f i):∃j,i<j∧j<n∧f i j=true∧p=((i:Int),(j:Int)):=by obtain ⟨k,hk,rfl⟩:=bS.mp h;obtain ⟨h1,h2⟩:=bF.mp hk;have:=aQ.mp h1;exact ⟨i+1+k,by omega,by omega,h2,rfl⟩
theorem Nh{j:Nat}(h1:i<j)(h2:j<n)(h3:f i j=true):((i:Int),(j:Int))∈Bb n f i:=by
 refine bS.mpr ⟨j-(i+1),bF.mpr ⟨aQ.mpr (by omega),?_⟩,?_⟩
 ·show f i (i+1+(j-(i+1)))=true
  rw [show i+1+(j-(i+1))=j by omega]
  exact h3
 ·rw [show i+1+(j-(i+1))=j by omega]
theorem mem_of{n:Nat}{f:Nat→Nat→Bool}{p:Int×Int}:∀{k:Nat},p∈u0 n f k→∃i j,i<k∧i<j∧j<n∧f i j=true∧p=((i:Int),(j:Int))
 | 0,h=>by cases h
 | k+1,h=>by
  rcases dQ.mp h with h | h
  ·obtain ⟨i,j,h1,h2⟩:=mem_of h
   exact ⟨i,j,by omega,h2⟩
  ·obtain ⟨j,h1⟩:=E3 h
   exact ⟨k,j,by omega,h1⟩
theorem E4{n:Nat}{f:Nat→Nat→Bool}{i j:Nat}(h1:i<j)(h2:j<n)(h3:f i j=true):∀{k:Nat},i<k→((i:Int),(j:Int))∈u0 n f k
 | k+1,h=>by
  by_cases z:i=k
  ·subst z
   exact dq _ (Nh h1 h2 h3)
  ·exact qp _ (E4 h1 h2 h3 (by omega))
theorem E5{n:Nat}{f:Nat→Nat→Bool}:∀k,(u0 n f k).Pairwise lexLt
 | 0=>List.Pairwise.nil
 | k+1=>by
  refine tR.mpr ⟨E5 k,?_,fun p hp q hq=>?_⟩
  ·refine iz.mpr ((wm.sublist List.filter_sublist).imp fun h=>?_)
   right;dsimp only;omega
  ·obtain ⟨i,j,h1,_,_,_,rfl⟩:=mem_of hp
   obtain ⟨j',_,_,_,rfl⟩:=E3 hq;left;dsimp only;omega
end My
namespace L2
open PySem PySem.Spec PyProof.Rows
end L2
namespace My
open PySem L2
end My
namespace L2
open PySem PySem.Spec PyProof.Rows
section
variable (P:Program) (w:World)
end
section
variable {P:Program} {w:World} {H H':Hp} {h h':Heap} {a:Addr} {o:HO}
end
section
variable {P:Program} {w:World} {H:Hp} {h h':Heap} {x e:Addr} {o':HO}
end
section
variable {fs zQ ex zR:List Addr} {H H1 H2:Hp} {h h1 h2 h':Heap} {a x e:Addr} {o:HO}
end
section
variable {X:Cx} {pins:aP} {σ:List (Option V)} {H H':Hp} {s:Shared} {h':Heap}
end
section
variable {X:Cx}
variable {a b:Expr} {ta tb:TE} {pos:Pos}
variable {tA ub:TT} {rest:List Expr}
end
section
variable {X:Cx} {pins:aP} {σ:St} {H:Hp} {s:Shared} {a:Addr} {xs ys:List V}
end
section
variable {X:Cx} {pins:aP} {σ:St} {H:Hp} {s:Shared} {E:aE}
end
section
variable {X:Cx} {st:Stmt} {rest:List Stmt} {t u:TS} {e:Expr} {te:TE} {pos:Pos}
end
section
variable {X:Cx} {pos:Pos}
end
section
variable {X:Cx} {pos:Pos}
end
section
variable {X:Cx} {tg:Expr}
end
section
variable {X:Cx} {a b c:Expr} {ta tb tc:TE} {pos:Pos}
end
section
variable {X:Cx} {a b c:Expr} {ta tb tc:TE} {pos:Pos}
end
section
variable {prog:Program} {w:World} {A:Around} {E:aE} {s:Shared} {K:aC} {x dx C f:Addr} {mA:cN} {name:Str} {v:Value}
end
section
variable {P:Program} {w:World} {H H':Hp} {h h':Heap} {a C dx:Addr} {fs zQ:List (Str×V)}
end
section
variable {X:Cx} {pins:aP} {σ:St} {H:Hp} {s:Shared} {a C dx:Addr} {fs:List (Str×V)} {f:Str} {v:V} {A:Around} {E:aE}
end
section
variable {X:Cx} {o e value:Expr} {f:Str} {pos pos' wO:Pos} {ta tv:TE}
end
section
variable {X:Cx} {pins:aP} {σ:St} {H:Hp} {s:Shared} {A:Around} {E:aE} {Q:aE} {c:Value} {b:Bool}
end
section
variable {X:Cx} {e:Expr} {es:List Expr} {te:TE} {t:TA} {pos:Pos}
end
section
variable {X:Cx} {pins:aP} {σ:St} {H:Hp} {s s':Shared}
end
section
variable {X:Cx} {CX:fR} {k:Nat} {f C:Addr} {fd:FuncData} {ps:List Str} {sp:Sp} {jU:List V} {ds:List Value} {E:XK} {x m:Str} {p pos apos:Pos} {e o:Expr} {es:List Expr} {ta:TE} {t:TA}
end
section
variable {X:Cx} {CX:fR} {k:Nat} {f C:Addr} {fd:FuncData} {ps ks:List Str} {sp:Sp} {E:XK} {x m:Str} {p pos apos DP:Pos} {e o:Expr} {es:List Expr} {Ks:List Keyword} {te ta:TE} {t tk:TA} {nm:Option Str}
variable {g:List Value→List Value→List Value} {gV:List V→List V→List V}
end
section
variable {X:Cx} {x:Str} {p pos:Pos} {e:Expr} {es:List Expr} {t:TA} {id T:String} {r:List V→Hp→VK→Prop}
end
section
variable {κ:Type} [DecidableEq κ]
def eZ(kvs:List (κ×V))(k:κ):Option V:=(kvs.find? fun kv=>decide (kv.1=k)).map (·.2)
def putK(kvs:List (κ×V))(k:κ)(v:V):List (κ×V):=
 if (kvs.any fun kv=>decide (kv.1=k))=true then kvs.map (fun kv=>if kv.1=k then (kv.1,v) else kv) else kvs++[(k,v)]
variable {p:κ×V} {r:List (κ×V)} {k:κ}
theorem u4(e:p.1=k):eZ (p::r) k=some p.2:=by simp [eZ,qH,e]
theorem u5(e:¬p.1=k):eZ (p::r) k=eZ r k:=by simp [eZ,qH,e]
theorem E6(k:κ):∀kvs:List (κ×V),(kvs.any fun kv=>decide (kv.1=k))=(eZ kvs k).isSome
 | []=>rfl
 | p::r=>by
  rw [tL];by_cases e:p.1=k;·simp only [u4 e,cf e,Bool.true_or,Option.isSome_some]
  ·rw [u5 e,bV e,Bool.false_or];exact E6 k r
theorem Bc(kvs:List (κ×V))(k:κ)(v:V):(putK kvs k v).length≤kvs.length+1:=by
 unfold putK
 split
 ·rw [aB];omega
 ·rw [dh,cL,tK];omega
theorem jc.Bd{o:Option V}{u:Option Value}(r:jc o u):o.isSome=u.isSome:=by
 cases o with
 | none=>cases u with
  | none=>rfl
  | some _=>exact (show False from r).elim
 | some _=>cases u with
  | none=>exact (show False from r).elim
  | some _=>rfl
variable {kvs:List (κ×V)} {vs:List (κ×Value)}
theorem KV.val(r:KV kvs vs)(k:κ):jc (eZ kvs k) (valueAt vs k):=by
 unfold KV at r
 induction r with
 | nil=>exact True.intro
 | @cons p q ps qs h t ih=>
  obtain ⟨h1,h2⟩:=h;by_cases e:p.1=k
  ·have e':q.1=k:=h1.symm.trans e
   have b:valueAt (q::qs) k=some q.2:=by simp [valueAt,qH,e']
   rw [u4 e,b];exact h2
  ·have e':¬q.1=k:=fun z=>e (h1.trans z)
   have b:valueAt (q::qs) k=valueAt qs k:=by simp [valueAt,qH,e']
   rw [u5 e,b];exact ih
theorem KV.any(r:KV kvs vs)(k:κ):(kvs.any fun kv=>decide (kv.1=k))=vs.any fun kv=>decide (kv.1=k):=by
 unfold KV at r
 induction r with
 | nil=>rfl
 | cons h t ih=>rw [tL,tL,ih,h.1]
variable {y:V} {u:Value}
theorem KV.Be(r:KV kvs vs)(k:κ)(ry:RelV y u) :
  KV (kvs.map fun kv=>if kv.1=k then (kv.1,y) else kv) (vs.map fun kv=>if kv.1=k then (kv.1,u) else kv):=by
 unfold KV at r ⊢
 induction r with
 | nil=>exact .nil
 | @cons p q ps qs h t ih=>
  rw [bM,bM];refine .cons ?_ ih;obtain ⟨h1,h2⟩:=h;by_cases e:p.1=k;·rw [ae e,ae (h1.symm.trans e)];exact ⟨h1,ry⟩
  ·rw [aa e,aa (fun z=>e (h1.trans z))];exact ⟨h1,h2⟩
theorem KV.put(r:KV kvs vs)(k:κ)(ry:RelV y u):KV (putK kvs k y) (stored vs k u):=by
 unfold putK stored;rw [r.any k];by_cases e:(vs.any fun kv=>decide (kv.1=k))=true;·rw [ae e,ae e];exact r.Be k ry
 ·rw [aa e,aa e];exact Paired.snoc r ⟨rfl,ry⟩
theorem KV.length(r:KV kvs vs):kvs.length=vs.length:=Paired.length r
end
variable {P:Program} {w:World} {u:Value}
theorem u6{k:Key}(r:RelV (kV k) u):(fm P w).is k u=true:=by
 cases k with
 | inl i=>obtain ⟨t,e⟩:=(show ∃t,u=Value.int i t from r);subst e;exact I_ P w i t
 | inr x=>obtain ⟨t,e⟩:=(show ∃t,u=Value.str x t from r);subst e;exact Ja P w x t
theorem E7{P:Program}{w:World}:∀{ks:List Key} {us:List Value},Vals (ks.map kV) us→ItemsAre (fm P w) ks us
 | [],_,r=>by rw [qr] at r;cases r;exact .nil
 | k::ks,_,r=>by
  rw [bM] at r;cases r with
  | cons h t=>exact .cons (u6 h) (E7 t)
abbrev KT (H:Hp):List (List Key×V)→List (List Key×Addr×Value)→Prop:=Paired fun p q=>p.1=q.1∧H q.2.1=some (.tup (p.1.map kV))∧RelV p.2 q.2.2
variable {H:Hp} {kvs:List (List Key×V)} {xs:List (List Key×Addr×Value)}
theorem KT.val(r:KT H kvs xs)(k:List Key):jc (eZ kvs k) ((atKey xs k).map (·.2)):=by
 induction r with
 | nil=>exact True.intro
 | @cons p q ps qs h t ih=>
  obtain ⟨h1,_,h2⟩:=h;by_cases e:p.1=k
  ·have e':q.1=k:=h1.symm.trans e
   have b:atKey (q::qs) k=some q.2:=by simp [atKey,qH,e']
   rw [u4 e,b];exact h2
  ·have e':¬q.1=k:=fun z=>e (h1.trans z)
   have b:atKey (q::qs) k=atKey qs k:=by simp [atKey,qH,e']
   rw [u5 e,b];exact ih
variable {y:V}
theorem KT.Be(r:KT H kvs xs)(k:List Key)(ry:RelV y u) :
  KT H (kvs.map fun kv=>if kv.1=k then (kv.1,y) else kv) (xs.map (putAt k u)):=by
 induction r with
 | nil=>exact .nil
 | @cons p q ps qs h t ih=>
  rw [bM,bM];refine .cons ?_ ih;obtain ⟨h1,h2,h3⟩:=h;unfold putAt;by_cases e:p.1=k;·rw [ae e,ae (h1.symm.trans e)];exact ⟨h1,h2,ry⟩
  ·rw [aa e,aa (fun z=>e (h1.trans z))];exact ⟨h1,h2,h3⟩
variable {b:Addr}
theorem KT.put(r:KT H kvs xs)(k:List Key)(hb:H b=some (.tup (k.map kV)))(ry:RelV y u) :
  KT H (putK kvs k y) (storedH xs k b u):=by
 have e:(kvs.any fun kv=>decide (kv.1=k))=(atKey xs k).isSome:=by rw [E6,(r.val k).Bd,Option.isSome_map]
 unfold putK storedH;rw [e];by_cases q:(atKey xs k).isSome=true;·rw [ae q,ae q];exact r.Be k ry
 ·rw [aa q,aa q];exact Paired.snoc r ⟨rfl,hb,ry⟩
theorem KT.keeps{H':Hp}(r:KT H kvs xs)(ht:∀b ys,H b=some (.tup ys)→H' b=some (.tup ys)):KT H' kvs xs:=
 Paired.zP r fun _ _ z=>⟨z.1,ht _ _ z.2.1,z.2.2⟩
section
variable {P:Program} {w:World} {H:Hp} {h:Heap} {a:Addr}
theorem E8{u:HO}(ok:bY P w H h)(e:Rd H a u):bX P w H h a u:=e.ok ok
theorem xH{kvs:List (Key×V)}(ok:bY P w H h)(e:Rd H a (.dK kvs)):kvs.length≤sizeLine∧(a == sysModules)=false∧∃vs,KV kvs vs∧h.DictOf (fm P w) a vs:=
 show bX P w H h a (.dK kvs) from E8 ok e
theorem E9{kvs:List (Key×V)}(ok:bY P w H h)(e:H a=some (.dK kvs)):kvs.length≤sizeLine∧(a == sysModules)=false∧∃vs,KV kvs vs∧h.DictOf (fm P w) a vs:=xH ok (.inl e)
theorem xI{ks:List Key}(ok:bY P w H h)(e:H a=some (.tup (ks.map kV))):(tupleKind (fm P w)).is h ks a:=by obtain ⟨_,ah,r,o,h1,h2,n,h3⟩:=(show bX P w H h a (.tup (ks.map kV)) from ok a _ e);exact ⟨o,ah.toArray,n,h1,h2,h3,by simpa using E7 r⟩
theorem xJ(ok:bY P w H h)(e:Rd H a (.dT kvs)):kvs.length≤sizeLine∧(a == sysModules)=false ∧
  ∃xs,KT H kvs xs∧h.DictOfH (tupleKind (fm P w)) a xs:=by
 obtain ⟨z,y,xs,r,o,es,ep,h1,h2,h3,h4,h5⟩:=(show bX P w H h a (.dT kvs) from E8 ok e);refine ⟨z,y,xs,r,o,es,ep,h1,h2,h3,h4,fun x hx=>?_,h5⟩;have all:∀{l:List (List Key×V)} {m:List (List Key×Addr×Value)},KT H l m→∀x∈m,(tupleKind (fm P w)).is h x.1 x.2.1:=by
  intro l m q
  induction q with
  | nil=>intro x hx;exact nomatch hx
  | @cons p q ps qs hq t ih=>
   intro x hx;rcases b3.mp hx with e | hx
   ·subst e
    exact xI ok (by rw [←hq.1];exact hq.2.1)
   ·exact ih x hx
 exact all r x hx
theorem Ni(ok:bY P w H h)(e:H a=some (.dT kvs)):kvs.length≤sizeLine∧(a == sysModules)=false ∧
  ∃xs,KT H kvs xs∧h.DictOfH (tupleKind (fm P w)) a xs:=xJ ok (.inl e)
end
def k8(H:Hp)(a:Addr)(y:V)(r:Option V):Prop:=
 (∃kvs k,Rd H a (.dK kvs)∧y=kV k∧r=eZ kvs k)∨∃kvs k b,Rd H a (.dT kvs)∧y=.ref b∧H b=some (.tup (k.map kV))∧r=eZ kvs k
def rh(H:Hp)(a:Addr)(y v:V)(H':Hp):Prop:=
 (∃kvs k,H a=some (.dK kvs)∧y=kV k∧kvs.length<sizeLine∧H'=upd H a (.dK (putK kvs k v))) ∨
 ∃kvs k b,H a=some (.dT kvs)∧y=.ref b∧H b=some (.tup (k.map kV))∧kvs.length<sizeLine∧H'=upd H a (.dT (putK kvs k v))
variable {a:Addr} {k:List Key}
theorem k8.t(e:H a=some (.dT kvs))(eb:H b=some (.tup (k.map kV))):k8 H a (.ref b) (eZ kvs k):=.inr ⟨kvs,k,b,.inl e,rfl,eb,rfl⟩
theorem rh.t{v:V}(e:H a=some (.dT kvs))(eb:H b=some (.tup (k.map kV)))(hl:kvs.length<sizeLine) :
  rh H a (.ref b) v (upd H a (.dT (putK kvs k v))):=.inr ⟨kvs,k,b,e,rfl,eb,hl,rfl⟩
section
variable {X:Cx} {pins:aP} {σ:St} {H:Hp} {s:Shared} {a:Addr} {y v:V} {u r:Value} {o:Option V} {A:Around} {E:aE}
theorem Inv.big(I:Inv X pins σ H s):sysModules<s.heap.objs.size:=by have h:mainGlobals<s.heap.objs.size:=(I.mod.glob.keeps I.bk).lt;exact Nat.lt_trans (by decide) h
variable {Q:aE}
theorem Nj(hu:A.units+1<cLine)(I:Inv X pins σ H s)(g:k8 H a y (some v))(ry:RelV y u)(h:∀w' s',Inv X pins σ H s'→RelV v w'→Q w' s') :
  wpAny (model X.prog X.w) A (getItem (.ref a) u) Q E s:=by
 rcases g with ⟨kvs,k,e,ey,l⟩ | ⟨kvs,k,b,e,ey,eb,l⟩
 ·subst ey
  obtain ⟨z,hd,vs,rel,dd⟩:=xH I.au e;obtain ⟨w',hw,gW⟩:=jc.some_of (v:=v) (o:=valueAt vs k) (by rw [l];exact rel.val k)
  exact wpAny_getItem_of (u6 ry) dd.mapOf hw (h w' _ (I.tok _) gW)
 ·subst ey
  cases (show u=Value.ref b from ry);obtain ⟨z,hd,xs,rel,dd⟩:=xJ I.au e;obtain ⟨w',hw,gW⟩:=jc.some_of (v:=v) (o:=(atKey xs k).map (·.2)) (by rw [l];exact rel.val k)
  obtain ⟨p,hp,Nk⟩:=Option.map_eq_some_iff.mp hw;refine wpAny_getItem_heap (tupleKind_room_in1 hu) (xI I.au eb) dd hp ?_;rw [Nk];exact h w' _ (I.tok _) gW
theorem Nl(hu:A.units+1<cLine)(I:Inv X pins σ H s)(g:k8 H a y o)(ry:RelV y u)(h:∀s',Inv X pins σ H s'→Q (.bool (!o.isSome)) s') :
  wpAny (model X.prog X.w) A (compareOp .NotIn u (.ref a)) Q E s:=by
 rcases g with ⟨kvs,k,e,ey,l⟩ | ⟨kvs,k,b,e,ey,eb,l⟩
 ·subst ey
  obtain ⟨z,hd,vs,rel,dd⟩:=xH I.au e;refine wpAny_notIn_of (u6 ry) hd dd.mapOf ?_;rw [←(rel.val k).Bd,←l];exact h _ (I.tok _)
 ·subst ey
  cases (show u=Value.ref b from ry);obtain ⟨z,hd,xs,rel,dd⟩:=xJ I.au e;refine wpAny_notIn_heap (tupleKind_room_in1 hu) (xI I.au eb) hd dd ?_;have q:=(rel.val k).Bd;rw [Option.isSome_map] at q;rw [←q,←l];exact h _ (I.tok _)
variable {h':Heap}
theorem Bf{t':Nat}{ob:HO}(I:Inv X pins σ H s)(mu:t9 (H a))(hs:Heap.SameBut a s.heap h')(he:∃q,h'.get? a=some q)(new:bX X.prog X.w (upd H a ob) h' a ob) :
  Inv X pins σ (upd H a ob) {s with heap:=h',toks:=t'}:=
 I.write (x:=a) (e:=a) mu (.inl rfl) (fun b q hb z=>(hs.2 b hb).trans z) he new
variable {H':Hp}
theorem E_{kvs:List (Key×V)}{vs:List (Key×Value)}(z:kvs.length≤sizeLine)(hd:(a == sysModules)=false)(rel:KV kvs vs)(dd:h'.DictOf (fm P w) a vs) :
  bX P w H' h' a (.dK kvs):=⟨z,hd,vs,rel,dd⟩
theorem Nm{Q:Unit→Shared→Prop}(hu:A.units+1<cLine)(I:Inv X pins σ H s)(g:rh H a y v H')(ry:RelV y u)(rv:RelV v r)(h:∀s',Inv X pins σ H' s'→Q () s') :
  wpAny (model X.prog X.w) A (setItem (.ref a) u r) Q E s:=by
 rcases g with ⟨kvs,k,e,ey,l,eH⟩ | ⟨kvs,k,b,e,ey,eb,l,eH⟩
 ·subst ey eH
  obtain ⟨z,hd,vs,rel,dd⟩:=E9 I.au e;have hz:vs.length≤sizeLine:=by rw [←rel.length];exact z
  have hl:(putK kvs k v).length≤sizeLine:=by have:=Bc kvs k v;omega
  refine wpAny_setItem_pairs (hsz:=hz) (u6 ry) dd fun h' mM hs=>h _ ?_;have he:∃q,h'.get? a=some q:=let ⟨q,_,_,hq,_⟩:=mM;⟨q,hq⟩
  exact Bf I (by rw [e];exact True.intro) hs he (E_ hl hd (rel.put k rv) mM)
 ·subst ey eH
  cases (show u=Value.ref b from ry);obtain ⟨z,hd,xs,rel,dd⟩:=Ni I.au e;have hz:xs.length≤sizeLine:=by rw [←Paired.length rel];exact z
  have hl:(putK kvs k v).length≤sizeLine:=by have:=Bc kvs k v;omega
  refine wpAny_setItem_heap (hsz:=hz) (tupleKind_room_in1 hu) (xI I.au eb) dd fun h' mM hs=>h _ ?_;obtain ⟨q,es,ep,hq,h2,h3,h4,_,h5⟩:=mM;refine Bf I (by rw [e];exact True.intro) hs ⟨q,hq⟩ ⟨hl,hd,_,(rel.put k eb rv).keeps fun c ys ec=>?_,q,es,ep,hq,h2,h3,h4,h5⟩
  rw [aR (Jb ec e (fun z=>nomatch z))];exact ec
end
section
variable {X:Cx} {pins:aP} {σ:St} {H:Hp} {s:Shared} {a:Addr} {kvs:List (Key×V)} {k:Key} {u:Value} {A:Around} {E:aE}
end
def Fb(i:Expr):Prop:=∀ov iv,subscripted i false ov iv=operate [ov,iv] (getItem ov iv)
variable {s:Shared} {pos:Pos}
theorem Nn{prog:Program}{A:Around}{E:aE}{env:Env}{value slice:Expr}{T id:String}{Q:aE}
  (hl:typeLookup (.type T) "__getitem__"=pure (some (.builtin id))) (hs:Fb slice)
  (h:wpAny (model prog w) A (eval value env) (fun o s₁=>wpAny (model prog w) A (eval slice env) (fun i s₂=>s₂.TypeIs o T∧wpAny (model prog w) A (getItem o i) Q E s₂) E s₁) E s) :
  wpAny (model prog w) A (eval (.Subscript value slice pos) env) Q E s:=by
 refine Subscript_ (bo h (fun o s₁ h₁=>bo h₁ (fun i s₂ h₂=>?_) fun _ _ x=>x) fun _ _ x=>x);obtain ⟨hT,h₂⟩:=h₂;unfold subscriptTail;refine av ?_;rw [getitemInPython_of_ne hT.not_modules];refine av (wpAny_specialOf hT hl ?_);have fin:wpAny (model prog w) A (subscripted slice false o i) (fun r s₃=>wpAny (model prog w) A (letTemporaryGo value o r >>= fun _=>pure r) Q E s₃) E s₂:=by rw [hs o i];exact wpAny_operating (bo h₂ (fun r s₃ h₃=>av (wpAny_letTemporaryGo (bG h₃))) fun _ _ x=>x)
 first
  | exact bG (av fin)
  | exact av (bG (av fin))
  | exact av fin
variable {X:Cx}
theorem Np{pins:aP}{σ:St}{o:Option V}(I:Inv X pins σ H s)(g:k8 H a y o):s.TypeIs (.ref a) "dict":=by
 rcases g with ⟨kvs,k,e,_,_⟩ | ⟨kvs,k,b,e,_,_,_⟩
 ·obtain ⟨_,_,vs,_,dd⟩:=xH I.au e
  exact dd.typeIs
 ·obtain ⟨_,_,xs,_,dd⟩:=xJ I.au e
  exact dd.typeIs
def Nq(td ty:TE):TE:=fun σ H Q=>td σ H fun x H1=>ty σ H1 fun y H2=>∃a v,x=.ref a∧k8 H2 a y (some v)∧Q v H2
def Nr(ty td:TE):TE:=fun σ H Q=>ty σ H fun y H1=>td σ H1 fun x H2=>∃a o,x=.ref a∧k8 H2 a y o∧Q (.bl (!o.isSome)) H2
def Nt(td ty tv:TE):TS:=fun D σ H=>tv σ H fun v H1=>td σ H1 fun x H2=>ty σ H2 fun y H3=>∃a H4,x=.ref a∧rh H3 a y v H4∧D.nx σ H4
section
variable {X:Cx} {o i e value:Expr} {pos pos' wO:Pos} {td ty tv:TE}
theorem Fc(hu:X.A.units+1<cLine)(ho:PE X o td)(hi:PE X i ty)(hs:Fb i):PE X (.Subscript o i pos) (Nq td ty):=by intro pins s σ H Q I h;refine Nn PySem.F.slot_dict_getitem.lookup hs (aF (ho pins s σ H _ I h) fun u s1 ⟨x,H1,I1,rx,q1⟩=>aF (hi pins s1 σ H1 _ I1 q1) fun iv s2 ⟨y,H2,I2,ry,a,v,ex,g,q2⟩=>?_);subst ex;obtain rfl:u=Value.ref a:=rx;exact ⟨Np I2 g,Nj hu I2 g ry fun w' s3 I3 gW=>⟨v,H2,I3,gW,q2⟩⟩
theorem Nu(hu:X.A.units+1<cLine)(hi:PE X i ty)(ho:PE X o td):PC X .NotIn i o (Nr ty td):=by intro pins s σ H Q I h;refine aF (hi pins s σ H _ I h) fun iv s1 ⟨y,H1,I1,ry,q1⟩=>aF (ho pins s1 σ H1 _ I1 q1) fun u s2 ⟨x,H2,I2,rx,a,ov,ex,g,q2⟩=>?_;subst ex;obtain rfl:u=Value.ref a:=rx;exact Nl hu I2 g ry fun s3 I3=>⟨.bl (!ov.isSome),H2,I3,rfl,q2⟩
theorem u7(hu:X.A.units+1<cLine)(ho:PE X o td)(hi:PE X i ty)(hv:PE X value tv)(hs:swapsWith value (some (.Subscript o i pos')) pos.line X.env=pure false) :
  PS X (.Assign [.Subscript o i pos'] value pos) (Nt td ty tv):=by
 intro pins s σ H D I h;refine wpAny_Assign_Subscript (aF (hv pins s σ H _ I h) fun r s1 ⟨v,H1,I1,rv,q1⟩=>aF (ho pins s1 σ H1 _ I1 q1) fun u s2 ⟨x,H2,I2,rx,q2⟩=>aF (hi pins s2 σ H2 _ I2 q2) fun iv s3 ⟨y,H3,I3,ry,a,H4,ex,g,q3⟩=>?_) hs;subst ex;obtain rfl:u=Value.ref a:=rx;exact Nm hu I3 g ry rv fun s4 I4=>⟨σ,H4,I4,q3⟩
end
theorem Fd(h:Heap)(hb:sysModules<h.objs.size):bX P w H (h.push {cls:=.type "dict",data:=.dict #[]}) h.objs.size (.dK []):=
 ⟨bU _,beq_eq_false_iff_ne.mpr (Ne.symm (bE hb)),[],.nil,Heap.DictOf.new h⟩
theorem Nv(h:Heap)(hb:sysModules<h.objs.size):bX P w H (h.push {cls:=.type "dict",data:=.dict #[]}) h.objs.size (.dT []):=
 ⟨bU _,beq_eq_false_iff_ne.mpr (Ne.symm (bE hb)),[],.nil,_,#[],0,dE _ rfl,⟨rfl,rfl,rfl⟩,rfl,rfl,List.nodup_nil⟩
def Nw:TE:=fun _ H Q=>∀p,H p=none→Q (.ref p) (upd H p (.dK []))
def Nx:TE:=fun _ H Q=>∀p,H p=none→Q (.ref p) (upd H p (.dT []))
section
variable {X:Cx} {pos:Pos}
theorem Ny:PE X (.Dict [] [] pos) Nw:=fun pins s σ H Q I h=>wpAny_Dict_empty ⟨.ref s.heap.objs.size,_,I.laid (a:=s.heap.objs.size) (o:=.dK []) (t':=s.toks) (fun _ _ q=>bW _ q) (aw _) (Fd s.heap I.big),rfl,h _ (I.au.fresh (aw _))⟩
theorem Nz:PE X (.Dict [] [] pos) Nx:=fun pins s σ H Q I h=>wpAny_Dict_empty ⟨.ref s.heap.objs.size,_,I.laid (a:=s.heap.objs.size) (o:=.dT []) (t':=s.toks) (fun _ _ q=>bW _ q) (aw _) (Nv s.heap I.big),rfl,h _ (I.au.fresh (aw _))⟩
end
def Bg:List (TE×TE)→St→Hp→(List (V×V)→Hp→Prop)→Prop
 | [],_,H,Q=>Q [] H
 | (tk,tv)::r,σ,H,Q=>tk σ H fun x H1=>tv σ H1 fun y H2=>Bg r σ H2 fun ps H3=>Q ((x,y)::ps) H3
abbrev VV:List (V×V)→List (Value×Value)→Prop:=Paired fun p q=>RelV p.1 q.1∧RelV p.2 q.2
def xK(X:Cx)(pos:Pos)(keys:List (Option Expr))(values:List Expr)(k9:List (TE×TE)):Prop:=
 ∀(pins:aP) (s:Shared) (σ:St) (H:Hp) (Q:List (V×V)→Hp→Prop),Inv X pins σ H s→Bg k9 σ H Q→
  wpAny (model X.prog X.w) X.A (evalPairs (pairTrees keys values X.env pos)) (fun vs s'=>∃ps H',Inv X pins σ H' s'∧VV ps vs∧Q ps H') X.xe s
theorem NA:xK X pos [] [] []:=fun pins s σ H Q I h=>pairTrees_nil_walk ⟨[],H,I,.nil,h⟩
variable {k9:List (TE×TE)}
theorem NB{k v:Expr}{ks:List (Option Expr)}{vs:List Expr}{tk tv:TE}(hk:PE X k tk)(hv:PE X v tv)(hr:xK X pos ks vs k9) :
  xK X pos (some k::ks) (v::vs) ((tk,tv)::k9):=fun pins s σ H Q I h=>
 pairTrees_cons_walk (aF (hk pins s σ H _ I h) fun u s1 ⟨x,H1,I1,rx,q1⟩=>aF (hv pins s1 σ H1 _ I1 q1) fun w2 s2 ⟨y,H2,I2,ry,q2⟩=>aF (hr pins s2 σ H2 _ I2 q2) fun ws s3 ⟨ps,H3,I3,rel,q3⟩=>⟨(x,y)::ps,H3,I3,.cons ⟨rx,ry⟩ rel,q3⟩)
def mT(kvs more:List (Key×V)):List (Key×V):=more.foldl (fun acc kv=>putK acc kv.1 kv.2) kvs
theorem KV.merge:∀{more:List (Key×V)} {rs:List (Key×Value)} {kvs:List (Key×V)} {vs:List (Key×Value)},KV more rs→KV kvs vs→KV (mT kvs more) (merged vs rs):=by
 intro more rs kvs vs r;unfold KV at r
 induction r generalizing kvs vs with
 | nil=>intro q;exact q
 | @cons p q ps qs h t ih=>
  intro r0;have e:KV (putK kvs p.1 p.2) (stored vs q.1 q.2):=by have:=r0.put p.1 h.2;rw [←h.1];exact this
  exact ih e
theorem Fe:∀(more kvs:List (Key×V)),(mT kvs more).length≤kvs.length+more.length
 | [],kvs=>by show kvs.length≤kvs.length+0;omega
 | p::r,kvs=>by have h1:=Fe r (putK kvs p.1 p.2);have h2:=Bc kvs p.1 p.2;show (mT (putK kvs p.1 p.2) r).length≤_;rw [cL];omega
theorem Ff{P:Program}{w:World}:∀{kvs:List (Key×V)} {ws:List (Value×Value)},VV (kvs.map fun kv=>(kV kv.1,kv.2)) ws→∃rs,Carries (fm P w) ws rs∧KV kvs rs
 | [],_,r=>by rw [qr] at r;cases r;exact ⟨[],True.intro,.nil⟩
 | p::kvs,_,r=>by
  rw [bM] at r;cases r with
  | @cons a b as bs h t=>obtain ⟨rs,c,q⟩:=Ff (P:=P) (w:=w) t;obtain ⟨b1,b2⟩:=b;exact ⟨(p.1,b2)::rs,⟨u6 h.1,rfl,c⟩,.cons ⟨rfl,h.2⟩ q⟩
def NC(k9:List (TE×TE)):TE:=fun σ H Q=>∀p,H p=none→Bg k9 σ (upd H p (.dK [])) fun ps H2=>H2 p=some (.dK [])∧∃kvs:List (Key×V),ps=kvs.map (fun kv=>(kV kv.1,kv.2))∧kvs.length≤15∧Q (.ref p) (upd H2 p (.dK (mT [] kvs)))
theorem ND{keys:List (Option Expr)}{values:List Expr}(h:xK X pos keys values k9)(Ar:keys.all (·.isSome)=true)(hl:keys.length=values.length)(h0:keys≠[])
  (NF:keys.length≤15):PE X (.Dict keys values pos) (NC k9):=by
 intro pins s σ H Q I q;have hn:=I.au.fresh (aw s.heap.objs.size);have I1:=I.laid (a:=s.heap.objs.size) (o:=.dK []) (h':=s.heap.push {cls:=.type "dict",data:=.dict #[]}) (t':=s.toks) (fun _ _ q=>bW _ q) (aw _) (Fd s.heap I.big);refine wpAny_Dict_walk (knd:=fm X.prog X.w) Ar hl h0 NF (aF (h pins _ σ _ _ I1 (q _ hn)) fun ws s2 ⟨ps,H2,I2,rel,e,kvs,ep,lk,q2⟩=>?_);subst ep;obtain ⟨rs,c,rk⟩:=Ff (P:=X.prog) (w:=X.w) rel;obtain ⟨z,hd,Vv,r0,dd⟩:=E9 I2.au e;cases r0;refine ⟨rs,c,dd,fun h' mM hs=>⟨.ref s.heap.objs.size,_,?_,rfl,q2⟩⟩;have hz:(mT [] kvs).length≤sizeLine:=by have h1:=Fe kvs [];rw [tK] at h1;rw [gO];omega
 have he:∃q,h'.get? s.heap.objs.size=some q:=let ⟨q,_,_,hq,_⟩:=mM;⟨q,hq⟩
 exact Bf I2 (by rw [e];exact True.intro) hs he (E_ hz hd (rk.merge .nil) mM)
section
variable {X:Cx} {pins:aP} {σ:St} {H:Hp} {s:Shared} {a:Addr} {y d:V} {u r:Value} {o:Option V} {A:Around} {E:aE}
end
section
variable {X:Cx} {o e f:Expr} {apos fU:Pos} {td ty tx:TE}
end
section
variable {X:Cx} {pins:aP} {σ:St} {H:Hp} {s:Shared} {a:Addr} {kvs:List (Key×V)} {A:Around} {E:aE}
end
section
variable {X:Cx} {pins:aP} {σ:St} {H:Hp} {s:Shared} {a:Addr} {y:V} {u:Value} {A:Around} {E:aE}
end
end L2
namespace wZ
open PySem PySem.W PySem.Calls PyProof.Rows
section
variable {prog:Program} {w:World} {A:Around} {E:aE} {s:Shared} {K:Frag}
end
end wZ
namespace L2
open PySem PySem.Spec PyProof.Rows
section
variable {P:Program} {w:World} {K:aC} {mg:cN} {base:Heap}
end
section
variable {X:Cx}
end
section
variable {κ:Type} [DecidableEq κ]
end
def Bh(o:Obj):Nat:=match o.data with
 | .dict _ ep=>ep
 | _=>0
def hJ(a:Addr)(o:Obj)(kvs:List (Key×V)):It:=
 ⟨fun i H=>H a=some (.bx o (.dK kvs))∧i<kvs.length,fun i H x H'=>H'=H∧∃kv,kvs[i]?=some kv∧x=kV kv.1,fun i H=>H a=some (.bx o (.dK kvs))∧kvs.length≤i⟩
theorem NG{k:Key}{v:Value}(h:nO k v=true):RelV (kV k) v:=by
 rcases jO h with ⟨i,t,rfl,rfl⟩ | ⟨x,t,rfl,rfl⟩;·exact ⟨t,rfl⟩
 ·exact ⟨t,rfl⟩
theorem Fg{kvs:List (Key×V)}{vs:List (Key×Value)}:∀{i:Nat} {kv:Key×V},KV kvs vs→kvs[i]?=some kv→∃v,vs[i]?=some (kv.1,v)
 | _,_,.nil,h=>by simp at h
 | 0,kv,.cons (b:=b) r _,h=>by simp at h;subst h;obtain ⟨k,v⟩:=b;have e:_=k:=r.1;exact ⟨v,by rw [e];rfl⟩
 | i+1,kv,.cons _ t,h=>by simp at h;obtain ⟨v,e⟩:=Fg t h;exact ⟨v,by simpa using e⟩
section
variable {X:Cx} {pins:aP} {σ:St} {H:Hp} {s:Shared}
theorem Inv.Bi{a:Addr}{o:Obj}{kvs:List (Key×V)}(I:Inv X pins σ H s)(h:H a=some (.bx o (.dK kvs))):∃vs,KV kvs vs∧s.heap.DictAt (fm X.prog X.w) a vs (Bh o):=by obtain ⟨g,_,_,vs,r,o',es,ep,g',c,d,rest⟩:=(show bX X.prog X.w H s.heap a (.bx o (.dK kvs)) from I.au a _ h);rw [g] at g';cases g';refine ⟨vs,r,o,es,g,c,?_,rest⟩;rw [d];unfold Bh;rw [d]
end
theorem NH{P:Program}{w:World}{K:aC}{tg:Expr}(a it:Addr)(o:Obj)(kvs:List (Key×V)):Turn P w K tg (hJ a o kvs) [it] it (fun i h=>h.IsKeyIter it a i kvs.length (Bh o)) where
 mem:=by simp
 obj:=fun i h st b hb=>by
  have e:b=it:=by simpa using hb
  subst e;obtain ⟨o,e,c,d⟩:=st;exact ⟨o,e,fun v z=>by rw [d] at z;cases z⟩
 keep:=fun i h h' st k=>by obtain ⟨o,e,c,d⟩:=st;exact ⟨o,k it (by simp) o e,c,d⟩
 item:=by
  intro X hP hw hK hc i pins s σ H E I hf st hg;subst hP hw hK;obtain ⟨eH,hi⟩:=hg;obtain ⟨vs,r,hm⟩:=I.Bi eH;have lr:kvs.length=vs.length:=Paired.length r;have ek:kvs[i]?=some kvs[i]:=by simp [hi]
  obtain ⟨v,ev⟩:=Fg r ek;obtain ⟨f0,f1,f2,f3,f4,f5⟩:=hf it (by simp)
  rw [lr] at st;refine wpAny_pyNext_dict_item st hm ev fun key h' hk aq sb=>?_;have I1:Inv X pins σ H {s with heap:=h'}:=I.turned (t':=s.toks) (fun b o hb e=>(sb.2 b hb).trans e) f0 f1 f3 f4 f5;obtain ⟨o',e,c,d⟩:=id aq;rw [←lr] at aq;exact ⟨key,rfl,wI (s:={s with heap:=h'}) e c d (by decide) ⟨kV kvs[i].1,H,I1,NG hk,⟨rfl,_,ek,rfl⟩,aq,fun b hb=>(hf b hb).1⟩⟩
 done:=by
  intro X hP hw hK hc i pins s σ H E I hf st hg;subst hP hw hK;obtain ⟨eH,hi⟩:=hg;obtain ⟨vs,r,hm⟩:=I.Bi eH;have lr:kvs.length=vs.length:=Paired.length r;obtain ⟨f0,f1,f2,f3,f4,f5⟩:=hf it (by simp)
  rw [lr] at st;exact wpAny_pyNext_dict_end (I.ok.hd hc) st hm (by simp;omega) fun h' eb=>⟨rfl,I.turned (t':=s.toks) (fun b o hb e=>eb b o hb e) f0 f1 f3 f4 f5⟩
 self:=fun _ _ _ _ _ st h=>wpAny_pyIter_keyiter st h
section
variable {X:Cx} {tg:Expr}
def Fh(tl:TE):TI:=fun σ H R=>tl σ H fun x H1=>∃a kvs,x=.ref a∧((H1 a=some (.dK kvs)∧∀o,R (hJ a o kvs) (upd H1 a (.bx o (.dK kvs))))∨∃o,H1 a=some (.bx o (.dK kvs))∧R (hJ a o kvs) H1)
theorem Bj{l:Expr}{tl:TE}(hl:PE X l tl):PI X tg l (Fh tl):=by
 intro pins s σ H R I h;refine aF (hl pins s σ H _ I h) fun v s1 ⟨x,H1,I1,r1,q1⟩=>?_;obtain ⟨a,kvs,e,q⟩:=q1;subst e;cases r1;have main:∀{H2:Hp} {o:Obj},Inv X pins σ H2 s1→H2 a=some (.bx o (.dK kvs))→R (hJ a o kvs) H2→wpAny (model X.prog X.w) X.A (pyIter (.ref a)) (Aa X pins σ tg R) X.xe s1:=fun{H2 o} I2 eH q=>by
  obtain ⟨vs,r,hm⟩:=I2.Bi eH;obtain ⟨_,_,sys,_⟩:=(show bX X.prog X.w H2 s1.heap a (.bx o (.dK kvs)) from I2.au a _ eH);have lr:kvs.length=vs.length:=Paired.length r;refine wpAny_pyIter_dict sys hm ?_;refine ⟨s1.heap.objs.size,[s1.heap.objs.size],_,_,H2,rfl,I2.kept (t':=s1.toks) fun b o e=>bW _ e,NH a _ o kvs,⟨_,dE _ rfl,rfl,by rw [lr];rfl⟩,fun b hb=>?_,q⟩
  have e:b=s1.heap.objs.size:=by simpa using hb
  subst e;exact I2.uh (aw _) (I2.au.fresh (aw _))
 rcases q with ⟨eH,q⟩ | ⟨o,eH,q⟩
 ·obtain ⟨hz,sys,vs,r,o,es,ep,g,c,d,rest⟩:=(show bX X.prog X.w H1 s1.heap a (.dK kvs) from I1.au a _ eH)
  refine main (H2:=upd H1 a (.bx o (.dK kvs))) ?_ ar (q o);exact I1.write (t':=s1.toks) (x:=a) (e:=a) (by rw [eH];exact trivial) (.inl rfl) (fun b u _ e=>e) ⟨o,g⟩ ⟨g,hz,sys,vs,r,o,es,ep,g,c,d,rest⟩
 ·exact main I1 eH q
end
theorem Bk:∀{us:List Value} {ns:List Int},IntsAre us ns→Vals (ns.map V.int) us
 | _,_,.nil=>.nil
 | _,_,.cons a u r=>.cons ⟨u,rfl⟩ (Bk r)
def NI:List V→Hp→VK→Prop:=fun xs H Q=>∃(a:Addr) (zs:List Int),xs=[.ref a]∧H a=some (.lst (zs.map V.int))∧zs.length<64∧∀(ws:List Int) (D:Addr),ws.Perm zs→ws.Pairwise (·≤·)→H D=none→Q (.ref D) (upd H D (.lst (ws.map V.int)))
theorem Fi{X:Cx}:eC X (.builtin "sorted") NI:=by
 intro pins s σ H xs us Q I r h;obtain ⟨a,zs,rfl,ha,uY,k⟩:=h;obtain ⟨u,rfl,ru⟩:=vals1 r;cases ru;obtain ⟨ah,rv,pl,hz⟩:=I.list (.of ha);have hl:=rv.length;rw [aB] at hl;refine sorted_ints pl.isList (intsAre_of rv) (by omega) fun out iG a1 a2 a3=>?_
 obtain ⟨e,he⟩:=sortedAll_at s.heap ah out;refine ⟨.ref (s.heap.objs.size+1),_,I.laid (t':=s.toks) (o:=.lst (iG.map .int)) (fun _ _=>sortedAll_old) (lR _) ⟨?_,out.toList,e,Bk a1,?_⟩,rfl,k iG _ a2 a3 (I.au.fresh (lR _))⟩
 ·rw [aB,a2.length_eq]
  rw [gO];omega
 ·simpa using he
end L2
namespace My
open PySem L2
def dk(ks:List Nat):List (Key×V):=ks.map fun k:Nat=>((Sum.inl (k:Int):Key),V.bl true)
def cz(ks:List Nat)(k:Nat):List Nat:=if k∈ks then ks else ks++[k]
theorem Fj{a b:Nat}:((Sum.inl (a:Int):Key)=Sum.inl (b:Int))↔a=b:=by
 constructor
 ·intro h
  have:=Sum.inl.inj h;omega
 ·rintro rfl;rfl
theorem xM(ks:List Nat):(dk ks).length=ks.length:=aB _
theorem NJ(ks:List Nat)(k:Nat):((dk ks).any fun kv=>decide (kv.1=(Sum.inl (k:Int):Key)))=decide (k∈ks):=by
 rw [nE,tY,dS];constructor
 ·rintro ⟨kv,h1,h2⟩
  obtain ⟨j,hj,rfl⟩:=bS.mp h1;have:=Fj.mp (d7 h2);subst this;exact hj
 ·intro h
  exact ⟨_,bS.mpr ⟨k,h,rfl⟩,cf rfl⟩
theorem Fl(ks:List Nat)(k:Nat):putK (dk ks) (Sum.inl (k:Int):Key) (V.bl true)=dk (cz ks k):=by
 unfold putK cz;rw [NJ];by_cases h:k∈ks
 ·rw [ae (cf h),ae h]
  unfold dk;rw [bR];refine fj fun j _=>?_;show (if _ then _ else _)=_
  split <;> rfl
 ·rw [aa (by rw [dS];exact h),aa h]
  unfold dk;rw [dR];rfl
theorem NK(ks:List Nat)(k:Nat):eZ (dk ks) (Sum.inl (k:Int):Key)=if k∈ks then some (V.bl true) else none:=by
 induction ks with
 | nil=>simp [dk,eZ]
 | cons j r ih=>
  by_cases h:j=k
  ·subst h
   rw [ae (dB ..)];exact u4 rfl
  ·show eZ ((Sum.inl (j:Int),V.bl true)::dk r) _=_
   rw [u5 (fun e=>h (Fj.mp e)),ih];by_cases m:k∈r;·rw [ae m,ae (cB _ m)]
   ·rw [aa m,aa (fun x=>by rcases b3.mp x with e | e;exact h e.symm;exact m e)]
variable {ks:List Nat} {k j:Nat}
theorem gJ:j∈cz ks k↔j∈ks∨j=k:=by
 unfold cz;by_cases h:k∈ks
 ·rw [ae h]
  constructor;·exact .inl
  ·rintro (e | rfl)
   ·exact e
   ·exact h
 ·rw [aa h,dQ,cg]
theorem NL(h:ks.Nodup):(cz ks k).Nodup:=by
 unfold cz;by_cases m:k∈ks;·rw [ae m];exact h
 ·rw [aa m]
  refine l5.mpr ⟨h,(by simp),fun a ha b hb=>?_⟩
  rw [cg] at hb;subst hb;rintro rfl;exact m ha
def iS(n:Nat)(ks:List Nat):Prop:=ks.Nodup∧∀k∈ks,k<n
theorem iS.nil(n:Nat):iS n []:=⟨List.nodup_nil,fun _ h=>by cases h⟩
variable {n:Nat}
theorem iS.add(h:iS n ks)(hk:k<n):iS n (cz ks k):=⟨NL h.1,fun j hj=>by
 rcases gJ.mp hj with e | rfl;·exact h.2 j e
 ·exact hk⟩
theorem Bl:∀{n:Nat} {ks:List Nat},ks.Nodup→(∀k∈ks,k<n)→ks.length≤n
 | 0,ks,_,h=>by
  cases ks with
  | nil=>exact aw _
  | cons a r=>exact absurd (h a (dB ..)) (tU _)
 | n+1,ks,nd,h=>by
  have e:=Bl (n:=n) (ks:=ks.erase n) (nd.erase n) (fun k hk=>by have m:=(List.Nodup.mem_erase_iff nd).mp hk;have:=h k m.2;have:=m.1;omega)
  by_cases hm:n∈ks
  ·have:=List.length_erase_of_mem hm
   omega
  ·rw [List.erase_of_not_mem hm] at e
   omega
theorem iS.len(h:iS n ks):ks.length≤n:=Bl h.1 h.2
structure dc (H:Hp) (D:Addr) (n:Nat) (ds:Nat→Addr) (un:Nat→Prop) (f:Nat→List Nat):Prop where
 lst:H D=some (.lst ((List.range n).map fun i=>V.ref (ds i)))
 inj:∀i j,i<n→j<n→ds i=ds j→i=j
 ne:∀i,i<n→ds i≠D
 at':∀i,i<n→un i→H (ds i)=some (.dK (dk (f i)))
 pl:∀i,i<n→iS n (f i)
def eM(f:Nat→List Nat)(i:Nat)(ks:List Nat):Nat→List Nat:=fun j=>if j=i then ks else f j
variable {H:Hp} {D:Addr} {ds:Nat→Addr} {f:Nat→List Nat} {i:Nat}
theorem dc.put{un:Nat→Prop}(h:dc H D n ds un f)(hi:i<n)(hj:j<n)(ui:un i)(hn:n≤1000) :
  rh H (ds i) (.int (j:Int)) (.bl true) (upd H (ds i) (.dK (dk (cz (f i) j))))∧dc (upd H (ds i) (.dK (dk (cz (f i) j)))) D n ds un (eM f i (cz (f i) j)):=by
 refine ⟨.inl ⟨dk (f i),Sum.inl (j:Int),h.at' i hi ui,rfl,?_,by rw [Fl]⟩,?_,h.inj,h.ne,fun k hk uk=>?_,fun k hk=>?_⟩
 ·rw [xM]
  have:=(h.pl i hi).len;exact jI this (jI hn (by rw [gO];decide))
 ·rw [aR (Ne.symm (h.ne i hi))]
  exact h.lst
 ·unfold eM
  by_cases e:k=i
  ·subst e
   rw [ae rfl,ar]
  ·rw [aa e,aR (fun z=>e (h.inj k i hk hi z))]
   exact h.at' k hk uk
 ·unfold eM
  by_cases e:k=i;·rw [ae e];exact (h.pl i hi).add hj
  ·rw [aa e];exact h.pl k hk
theorem dc.ix{un:Nat→Prop}(h:dc H D n ds un f)(hi:i<n):fC ((List.range n).map fun i=>V.ref (ds i)) (i:Int)=some (V.ref (ds i)):=
 n4 (by rw [bt,eN hi];rfl)
def cA(n:Nat)(L:ax):Prop:=∀p∈L,0≤p.1∧p.1<(n:Int)∧0≤p.2∧p.2<(n:Int)
def fF(n:Nat)(L:ax)(f:Nat→List Nat):Prop:=∀i j:Nat,i<n→(j∈f i↔((i:Int),(j:Int))∈L∨((j:Int),(i:Int))∈L)
theorem fF.nil(n:Nat):fF n [] (fun _=>[]):=fun i j _=>by simp
theorem fF.more{L:ax}(h:fF n L f)(hi:i<n)(hj:j<n):fF n (L++[((i:Int),(j:Int))]) (eM (eM f i (cz (f i) j)) j (cz (eM f i (cz (f i) j) j) i)):=fun a b ha=>by
 have e1:∀x y:Nat,y∈eM f i (cz (f i) j) x↔y∈f x∨(x=i∧y=j):=fun x y=>by
  unfold eM;by_cases e:x=i
  ·subst e
   rw [ae rfl,gJ];simp
  ·rw [aa e]
   simp [e]
 have e2:b∈eM (eM f i (cz (f i) j)) j (cz (eM f i (cz (f i) j) j) i) a↔b∈eM f i (cz (f i) j) a∨(a=j∧b=i):=by
  unfold eM;by_cases e:a=j
  ·subst e
   rw [ae rfl,gJ];simp
  ·rw [aa e]
   simp [e]
 rw [e2,e1,h a b ha];simp only [dQ,cg,Prod.mk.injEq];constructor
 ·rintro ((e | e) | ⟨rfl,rfl⟩)
  ·rcases e with e | e
   ·exact .inl (.inl e)
   ·exact .inr (.inl e)
  ·exact .inl (.inr ⟨by omega,by omega⟩)
  ·exact .inr (.inr ⟨rfl,rfl⟩)
 ·rintro ((e | ⟨e1,e2⟩) | (e | ⟨e1,e2⟩))
  ·exact .inl (.inl (.inl e))
  ·exact .inl (.inr ⟨by omega,by omega⟩)
  ·exact .inl (.inl (.inr e))
  ·exact .inr ⟨by omega,by omega⟩
def NM:Sp:=fun vs H Q _=>∃(t:Addr) (n:Nat) (L:ax),vs=[.ref t]∧eY H t n L∧cA n L∧n≤1000 ∧
 ∀(H':Hp) (D:Addr) (ds:Nat→Addr) (f:Nat→List Nat),ai H H'→H D=none→(∀i,i<n→H (ds i)=none)→dc H' D n ds (fun _=>True) f→fF n L f→Q (.ref D) H'
end My
namespace L2
open PySem PySem.Spec PyProof.Rows
def NN(K:aC):R2:=fun x y H Q=>∃(a b:Addr) (xs ys:List Int),x=.ref a∧y=.ref b∧bC K H a (xs.map V.int)∧bC K H b (ys.map V.int)∧Q (.bl (decide (xs=ys))) H
theorem NO{X:Cx}(hu:X.A.units+64<cLine):cG X (compareOp .Eq) (NN X.K):=by
 intro pins s σ H x y v u Q I rx ry h;obtain ⟨a,b,xs,ys,rfl,rfl,h1,h2,q⟩:=h;cases rx;cases ry;obtain ⟨us,r1,t1,_⟩:=I.list h1;obtain ⟨vs,r2,t2,_⟩:=I.list h2;have l1:=r1.length;have l2:=r2.length;rw [aB] at l1 l2;by_cases hl:xs.length=ys.length
 ·refine SeqAt.RcAt.lists (e:=fun j=>iI (.int (xs.getD j 0)) (.int (ys.getD j 0))) t1.isList t2.isList (by simp;omega) (by omega) (fun j z1 z2=>?_) _ _ _ _ ?_
  ·have xu:j<us.length:=by simpa using z1
   have Vw:j<vs.length:=by simpa using z2
   have ex:(xs.map V.int)[j]?=some (.int (xs.getD j 0)):=by rw [bt,ei];simp [show j<xs.length by omega]
   have ey:(ys.map V.int)[j]?=some (.int (ys.getD j 0)):=by rw [bt,ei];simp [show j<ys.length by omega]
   obtain ⟨x',zR,rx⟩:=r1.get ex;obtain ⟨y',NP,ry⟩:=r2.get ey;have e1:us.toArray[j]=x':=by simpa using (b9.mp zR).2
   have e2:vs.toArray[j]=y':=by simpa using (b9.mp NP).2
   rw [e1,e2];exact D_ rx ry rfl rfl
  ·rw [show us.toArray.size=xs.length by simp;omega,Mw hl]
   exact ⟨.bl (decide (xs=ys)),H,I,rfl,q⟩
 ·rw [bV (fun e=>hl (by rw [e]))] at q
  refine SeqAt.RcAt.lists_lengths t1.isList t2.isList ?_ (by omega) _ _ _ _ ⟨.bl false,H,I,rfl,q⟩
  simp;omega
end L2
namespace My
open PySem L2
def iN(k:Nat):Int:=(k:Int)
def j9(zs:List Int)(n:Nat):Prop:=zs.Perm ((List.range n).map iN)
instance (zs:List Int) (n:Nat):Decidable (j9 zs n):=by unfold j9;exact inferInstance
theorem NQ(n:Nat):((List.range n).map iN).Pairwise (·≤·):=by rw [iz];exact List.Pairwise.imp (fun h=>by unfold iN;omega) wm
variable {ws zs:List Int} {n:Nat}
theorem NR(p:ws.Perm zs)(o:ws.Pairwise (·≤·)):decide (ws=(List.range n).map iN)=decide (j9 zs n):=by
 by_cases h:j9 zs n
 ·rw [cf h]
  refine cf ?_;exact (p.trans h).eq_of_pairwise (fun a b _ _ h1 h2=>by omega) o (NQ n)
 ·rw [bV h]
  refine bV fun e=>h ?_;subst e;exact p.symm
def NS:Sp:=fun vs H Q _=>∃(a:Addr) (zs:List Int) (n:Nat),vs=[.ref a,.int (n:Int)]∧H a=some (.lst (zs.map V.int))∧zs.length<64∧n≤1000∧(∀H',ai H H'→Q (.bl (decide (j9 zs n))) H')
def NT(N:Addr):Sp:=fun vs H Q E=>∃(a:Addr) (zs:List Int) (n:Nat),vs=[.ref a,.int (n:Int)]∧H a=some (.lst (zs.map V.int))∧zs.length<64∧n≤1000 ∧
 (¬j9 zs n→∀H',ai H H'→E (.ref N) none H')∧(j9 zs n→∀H',ai H H'→Q .aN H')
def NU(H:Hp)(a:Addr)(n:Nat)(o:List Nat):Prop:=H a=some (.lst (o.map fun k:Nat=>V.int (k:Int)))∧o.Perm (List.range n)
def NV:Sp:=fun vs H Q _=>∃(a:Addr) (n:Nat) (o:List Nat),vs=[.ref a]∧NU H a n o∧n≤1000 ∧
 ∀(r:Addr) (H':Hp),ai H H'→H r=none→H' r=some (.lst ((List.range n).map fun p=>V.int (o.idxOf p:Int)))→Q (.ref r) H'
variable {H H1:Hp} {D:Addr}
theorem NW(s:ai H H1)(e:H1 D=none):H D=none:=by
 cases z:H D with
 | none=>rfl
 | some o=>rw [s _ _ z] at e;cases e
theorem xN(s:ai H H1){o:HO}(e:H1 D=none):ai H (upd H1 D o):=dW s (NW s e)
variable {k:Nat}
theorem Fm(h:k<n):jk n (k:Int)=some k:=by unfold jk;rw [ae (by omega),ae (by omega),cU]
def iT(o:List Nat)(k p:Nat):Int:=if o.idxOf p<k then (o.idxOf p:Int) else 0
variable {o:List Nat}
theorem u9(h:o.Perm (List.range n)):o.Nodup:=h.nodup_iff.mpr dr
theorem rj(h:o.Perm (List.range n)):o.length=n:=by rw [h.length_eq,b6]
variable {p:Nat}
theorem hV(h:o.Perm (List.range n)):p∈o↔p<n:=by rw [h.mem_iff,aQ]
theorem Fn(nd:o.Nodup)(hk:k<o.length):o.idxOf o[k]=k:=nd.idxOf_getElem k hk
theorem u_(h:p∈o):∃hk:o.idxOf p<o.length,o[o.idxOf p]=p:=⟨tZ h,List.getElem_idxOf _⟩
theorem NX(h:o.Perm (List.range n))(hk:k<o.length):((List.range n).map fun p=>V.int (iT o k p)).set o[k] (.int (k:Int))=(List.range n).map fun p=>V.int (iT o (k+1) p):=by
 have nd:=u9 h;refine i9 (by simp) fun q h1 h2=>?_
 have hq:q<n:=by simpa using h2
 rw [List.getElem_set];by_cases e:o[k]=q
 ·rw [ae e]
  simp only [jM,qE];unfold iT;rw [←e,Fn nd hk,ae (Nat.lt_succ_self k)]
 ·rw [aa e]
  simp only [jM,qE];unfold iT;have ne:o.idxOf q≠k:=fun z=>by obtain ⟨hz,ez⟩:=u_ ((hV h).mpr hq);subst z;exact e ez
  by_cases z:o.idxOf q<k;·rw [ae z,ae (by omega)]
  ·rw [aa z,aa (by omega)]
theorem NY(n:Nat)(o:List Nat):(List.replicate n [V.int 0]).flatten=(List.range n).map fun p=>V.int (iT o 0 p):=by
 have e:∀n:Nat,(List.replicate n [V.int 0]).flatten=List.replicate n (V.int 0):=fun n=>by
  induction n with
  | zero=>rfl
  | succ n ih=>rw [qt,tM,ih];rfl
 rw [e];refine i9 (by simp) fun q h1 h2=>?_
 simp [iT]
theorem NZ(h:o.Perm (List.range n)):(List.range n).map (fun p=>V.int (iT o o.length p))=(List.range n).map fun p=>V.int (o.idxOf p:Int):=by refine fj fun p hp=>?_;unfold iT;rw [ae (tZ ((hV h).mpr (aQ.mp hp)))]
def mU(n:Nat)(ds:Nat→Addr)(un:Nat→Prop)(H H':Hp):Prop:=∀b o,H b=some o→(∀i,i<n→un i→b≠ds i)→H' b=some o
variable {ds:Nat→Addr}
theorem mU.refl{un:Nat→Prop}:mU n ds un H H:=fun _ _ h _=>h
variable {i:Nat}
theorem mU.put{un:Nat→Prop}(h:mU n ds un H H1)(hi:i<n)(ui:un i){o:HO}:mU n ds un H (upd H1 (ds i) o):=fun b u e k=>by rw [aR (k i hi ui)];exact h b u e k
theorem take_snoc{α:Type}{xs:List α}{x:α}(h:xs[i]?=some x):xs.take (i+1)=xs.take i++[x]:=by rw [l6,h];rfl
def fG(n:Nat)(f:Nat→List Nat)(ps:List Nat)(i j:Nat)(g:Nat→List Nat):Prop:=∀a b:Nat,a<n→(b∈g a↔b∈f a∨(a≠b∧(a∈ps.take i∧b∈ps∨ps[i]?=some a∧b∈ps.take j)))
theorem fG.start(n:Nat)(f:Nat→List Nat)(ps:List Nat):fG n f ps 0 0 f:=fun a b _=>by simp
variable {f g:Nat→List Nat} {ps:List Nat}
theorem fG.row(h:fG n f ps i ps.length g):fG n f ps (i+1) 0 g:=fun a b ha=>by
 rw [h a b ha,jJ];cases e:ps[i]? with
 | none=>
  have:ps.length≤i:=zC.mp e;rw [tT this,tT (by omega)]
  simp
 | some x=>
  rw [take_snoc e];simp only [dQ,cg,Option.some.injEq,List.take_zero,nG,and_false,or_false];constructor
  ·rintro (z | ⟨z,z1 | z1⟩)
   ·exact .inl z
   ·exact .inr ⟨z,.inl z1.1,z1.2⟩
   ·exact .inr ⟨z,.inr z1.1.symm,z1.2⟩
  ·rintro (z | ⟨z,z1 | z1,z2⟩)
   ·exact .inl z
   ·exact .inr ⟨z,.inl ⟨z1,z2⟩⟩
   ·exact .inr ⟨z,.inr ⟨z1.symm,z2⟩⟩
variable {j:Nat}
theorem fG.same{x:Nat}(h:fG n f ps i j g)(hi:ps[i]?=some x)(hj:ps[j]?=some x):fG n f ps i (j+1) g:=fun a b ha=>by
 rw [h a b ha,take_snoc hj];simp only [dQ,cg,hi,Option.some.injEq];constructor
 ·rintro (z | ⟨z,z1 | z1⟩)
  ·exact .inl z
  ·exact .inr ⟨z,.inl z1⟩
  ·exact .inr ⟨z,.inr ⟨z1.1,.inl z1.2⟩⟩
 ·rintro (z | ⟨z,z1 | ⟨z1,z2 | z2⟩⟩)
  ·exact .inl z
  ·exact .inr ⟨z,.inl z1⟩
  ·exact .inr ⟨z,.inr ⟨z1,z2⟩⟩
  ·exact absurd (z1.symm.trans z2.symm) z
theorem fG.put{x y:Nat}(h:fG n f ps i j g)(hi:ps[i]?=some x)(hj:ps[j]?=some y)(ne:x≠y):fG n f ps i (j+1) (eM g x (cz (g x) y)):=fun a b ha=>by
 have e1:b∈eM g x (cz (g x) y) a↔b∈g a∨(a=x∧b=y):=by
  unfold eM;by_cases e:a=x
  ·subst e
   rw [ae rfl,gJ];simp
  ·rw [aa e]
   simp [e]
 rw [e1,h a b ha,take_snoc hj];simp only [dQ,cg,hi,Option.some.injEq];constructor
 ·rintro ((z | ⟨z,z1 | z1⟩) | ⟨rfl,rfl⟩)
  ·exact .inl z
  ·exact .inr ⟨z,.inl z1⟩
  ·exact .inr ⟨z,.inr ⟨z1.1,.inl z1.2⟩⟩
  ·exact .inr ⟨ne,.inr ⟨rfl,.inr rfl⟩⟩
 ·rintro (z | ⟨z,z1 | ⟨z1,z2 | z2⟩⟩)
  ·exact .inl (.inl z)
  ·exact .inl (.inr ⟨z,.inl z1⟩)
  ·exact .inl (.inr ⟨z,.inr ⟨z1,z2⟩⟩)
  ·exact .inr ⟨z1.symm,z2⟩
theorem fG.done(h:fG n f ps ps.length 0 g):∀a b:Nat,a<n→(b∈g a↔b∈f a∨(a≠b∧a∈ps∧b∈ps)):=fun a b ha=>by rw [h a b ha,jJ];simp
def N0:Sp:=fun vs H Q _=>∃(D pl:Addr) (n:Nat) (ds:Nat→Addr) (un:Nat→Prop) (f:Nat→List Nat) (ps:List Nat),vs=[.ref D,.ref pl]∧dc H D n ds un f∧H pl=some (.lst (ps.map fun k:Nat=>V.int (k:Int)))∧(∀p∈ps,p<n∧un p)∧n≤1000 ∧
 ∀(H':Hp) (g:Nat→List Nat),mU n ds un H H'→dc H' D n ds un g→(∀a b:Nat,a<n→(b∈g a↔b∈f a∨(a≠b∧a∈ps∧b∈ps)))→Q .aN H'
theorem dc.mono{H':Hp}{un:Nat→Prop}(h:dc H D n ds un f)(s:ai H H'):dc H' D n ds un f:=⟨s _ _ h.lst,h.inj,h.ne,fun i hi ui=>s _ _ (h.at' i hi ui),h.pl⟩
theorem dc.less{un Fo:Nat→Prop}(h:dc H D n ds un f)(k:∀i,i<n→Fo i→un i):dc H D n ds Fo f:=⟨h.lst,h.inj,h.ne,fun i hi ui=>h.at' i hi (k i hi ui),h.pl⟩
variable {x:Addr}
theorem dc.upd{un:Nat→Prop}(h:dc H D n ds un f){o:HO}(n1:x≠D)(n2:∀i,i<n→un i→ds i≠x):dc (upd H x o) D n ds un f:=⟨by rw [aR (Ne.symm n1)];exact h.lst,h.inj,h.ne,fun i hi ui=>by rw [aR (n2 i hi ui)];exact h.at' i hi ui,h.pl⟩
variable {a:Addr}
theorem N1{o:Obj}{kvs:List (Key×V)}(h:H1 a=some (.bx o (.dK kvs))):jY (hJ a o kvs) (kvs.map fun kv=>kV kv.1) H1 where
 go:=fun i Hc s hi=>⟨s _ _ h,by simpa using hi⟩
 cV:=fun i Hc x H' s y=>⟨y.1,fun _=>by obtain ⟨kv,e,rfl⟩:=y.2;rw [bt,e];rfl⟩
 stop:=fun i Hc s hi=>⟨s _ _ h,by simpa using hi⟩
theorem N2(ks:List Nat):(dk ks).map (fun kv=>kV kv.1)=ks.map fun k:Nat=>V.int (k:Int):=by unfold dk;rw [bR];rfl
theorem N3(ks:List Nat):(List.range ks.length).map (fun i=>ks.getD i 0)=ks:=by
 refine i9 (by simp) fun i h1 h2=>?_
 simp [ei,h2]
theorem N4(ks:List Nat)(pr:Nat→Bool):((List.range ks.length).filter fun i=>pr (ks.getD i 0)).map (fun i=>ks.getD i 0)=ks.filter pr:=by have e:=List.filter_map (f:=fun i=>ks.getD i 0) (l:=List.range ks.length) (p:=pr);rw [N3] at e;exact e.symm
variable {ρ:St→St} {tt:TT} {te:TE} {σ:St} {Q:VK} {ks:List Nat}
theorem Fp{ob:Obj}(h:H a=some (.bx ob (.dK (dk ks))))(pr:Nat→Bool)(hl:ks.length<sizeLine)
  (test:∀k∈ks,∀(Hc:Hp) (R:Bool→Hp→Prop),ai H Hc→R (pr k) Hc→tt (some (.int (k:Int))::ρ σ) Hc R)
  (step:∀k∈ks,∀(Hc:Hp) (R:VK),R (.int (k:Int)) Hc→te (some (.int (k:Int))::ρ σ) Hc R)
  (fin:∀D Hc,H D=none→ai H Hc→Hc D=some (.lst ((ks.filter pr).map fun k:Nat=>V.int (k:Int)))→Q (.ref D) Hc):jo (fun _ H R=>R (hJ a ob (dk ks)) H) ρ tt te σ H Q:=by
 have at':∀{i:Nat} {x:V},(ks.map fun k:Nat=>V.int (k:Int))[i]?=some x→i<ks.length∧x=.int ((ks.getD i 0:Nat):Int)∧ks.getD i 0∈ks:=fun{i x} hx=>by
  have hi:i<ks.length:=by have:=(b9.mp hx).1;simpa using this
  rw [bt] at hx;simp [hi] at hx;rw [getD_at hi];exact ⟨hi,hx.symm,dH hi⟩
 refine Ng (xs:=ks.map fun k:Nat=>V.int (k:Int)) (fun i=>pr (ks.getD i 0)) (fun R k=>k _ (by rw [←N2];exact N1 h)) (by rw [aB];exact hl) (fun _ i y _=>y=.int ((ks.getD i 0:Nat):Int)) (fun _ _ _ _ _ _ h _ _=>h) ?_ ?_ ?_
 ·intro i x hx Hc R sc hR
  obtain ⟨_,rfl,m⟩:=at' hx;exact test _ m Hc R sc hR
 ·intro D i x hx Hc R sc _ kc
  obtain ⟨_,rfl,m⟩:=at' hx;exact step _ m Hc R (kc _ Hc (ai.refl _) rfl)
 ·intro D ys Hc nD sc ly hP eD
  refine fin D Hc nD sc ?_;rw [eD,←N4 ks pr,bR];rw [aB] at ly hP
  congr 2
  refine i9 (by simpa using ly) fun k h1 h2=>?_
  have h3:k<((List.range ks.length).filter fun i=>pr (ks.getD i 0)).length:=by simpa using h2
  rw [jM];exact hP k _ _ (bQ h1) (bQ h3)
theorem Fq(p:ws.Perm (ks.map iN)):∃ms:List Nat,ws=ms.map iN∧ms.Perm ks:=by
 refine ⟨ws.map Int.toNat,?_,?_⟩
 ·rw [bR]
  conv=>lhs;rw [←l7 ws]
  refine fj fun z hz=>?_
  obtain ⟨k,_,rfl⟩:=bS.mp (p.mem_iff.mp hz)
  show iN k=iN (Int.toNat (iN k))
  unfold iN
  rw [cU]
 ·have:=p.map Int.toNat
  rw [bR] at this
  have e:ks.map (Int.toNat ∘ iN)=ks:=by
   conv=>rhs;rw [←l7 ks]
   exact fj fun k _=>cU k
  rw [e] at this
  exact this
structure gK (n:Nat) (o:List Nat) (p:Nat) (ms:List Nat):Prop where
 up:ms.Pairwise (· < ·)
 lt:∀q∈ms,q<n
 la:∀q∈ms,o.idxOf p<o.idxOf q
theorem N5{ms:List Nat}(hk:iS n ks)(h:ms.Perm (ks.filter fun q=>decide (o.idxOf p<o.idxOf q)))(s:(ms.map iN).Pairwise (·≤·)):gK n o p ms:=by
 have m:∀q∈ms,q∈ks∧o.idxOf p<o.idxOf q:=fun q hq=>by have:=bF.mp (h.mem_iff.mp hq);exact ⟨this.1,by simpa using this.2⟩
 refine ⟨?_,fun q hq=>hk.2 q (m q hq).1,fun q hq=>(m q hq).2⟩;have nd:ms.Nodup:=h.nodup_iff.mpr (hk.1.filter _);rw [iz] at s;refine List.Pairwise.imp₂ (fun a b h1 h2=>?_) s nd;have h1:(a:Int)≤(b:Int):=h1;have h2:a≠b:=h2;omega
def N6(H:Hp)(D:Addr)(n:Nat)(rs:Nat→Addr)(g:Nat→List Nat):Prop:=H D=some (.lst ((List.range n).map fun p=>V.ref (rs p)))∧∀p,p<n→H (rs p)=some (.lst ((g p).map fun k:Nat=>V.int (k:Int)))
theorem N7(h:j9 zs n):∃o:List Nat,zs=o.map iN∧o.Perm (List.range n):=Fq h
def iU(rs:Nat→Addr)(p:Nat)(x:Addr):Nat→Addr:=fun q=>if q=p then x else rs q
theorem N8(n:Nat)(rs:Nat→Addr)(p:Nat)(x:Addr):((List.range n).map fun q=>V.ref (rs q)).set p (.ref x)=(List.range n).map fun q=>V.ref (iU rs p x q):=by
 refine i9 (by simp) fun q h1 h2=>?_
 rw [List.getElem_set,jM,qE,jM,qE];unfold iU;by_cases e:p=q
 ·subst e
  rw [ae rfl,ae rfl]
 ·rw [aa e,aa (Ne.symm e)]
variable {rs:Nat→Addr}
theorem Fs:iU rs p x p=x:=ae rfl
variable {q:Nat}
theorem N9(h:q≠p):iU rs p x q=rs q:=aa h
theorem N_{x:List Nat}:eM f p x p=x:=ae rfl
theorem Oa{x:List Nat}(h:q≠p):eM f p x q=f q:=aa h
theorem xO{g:Nat→V}(h:p<n):fC ((List.range n).map g) (p:Int)=some (g p):=n4 (by rw [bt,eN h];rfl)
theorem Ob(o ks:List Nat)(p:Nat):(ks.filter fun q=>decide ((o.idxOf p:Int)<(o.idxOf q:Int)))=ks.filter fun q=>decide (o.idxOf p<o.idxOf q):=by refine List.filter_congr fun q _=>?_;rw [nE,dS,dS];omega
theorem va(h:o.Perm (List.range n))(hp:p<n)(hq:q<n)(ne:p≠q):o.idxOf p≠o.idxOf q:=fun z=>by
 obtain ⟨h1,e1⟩:=u_ ((hV h).mpr hp);obtain ⟨h2,e2⟩:=u_ ((hV h).mpr hq);refine ne ?_;rw [←e1,←e2]
 congr 1
theorem xP{wi:TI}(h:wi σ H fun J H1=>jo (fun _ H R=>R J H) ρ tt te σ H1 Q):jo wi ρ tt te σ H Q:=h
end My
namespace L2
open PySem PySem.Spec PyProof.Rows
section
variable {X:Cx} {pins:aP} {σ:St} {H:Hp} {s:Shared}
end
end L2
namespace My
open PySem L2
theorem Oc{n:Nat}{o:List Nat}(h:o.Perm (List.range n)){p:Nat}{ms:List Nat}(k:gK n o p ms):ms.length≤n-1-o.idxOf p:=by
 have nd:(ms.map fun q=>o.idxOf q-(o.idxOf p+1)).Nodup:=by rw [iA,iz];refine List.Pairwise.imp_of_mem (fun{a b} ha hb lt=>?_) k.up;have h1:=k.la a ha;have h2:=k.la b hb;have ne:=va h (k.lt a ha) (k.lt b hb) (bE lt);omega
 have:=Bl (n:=n-1-o.idxOf p) nd (fun x hx=>by obtain ⟨q,hq,rfl⟩:=bS.mp hx;have h1:=k.la q hq;have h2:=(u_ ((hV h).mpr (k.lt q hq))).1;rw [rj h] at h2;omega)
 rwa [aB] at this
def h_(p q:Nat):Int×Int:=(if (q:Int)<(p:Int) then (q:Int) else (p:Int),if (q:Int)>(p:Int) then (q:Int) else (p:Int))
theorem bu.app{H:Hp}{xs ys:List V}{M N:ax}(h:bu H xs M)(h':bu H ys N):bu H (xs++ys) (M++N):=by
 have l1:=h.1;have l2:=h'.1;refine ⟨by simp [l1,l2],fun k v p h1 h2=>?_⟩
 by_cases e:k<xs.length
 ·rw [ir e] at h1
  rw [ir (by omega)] at h2
  exact h.2 k v p h1 h2
 ·rw [iq (by omega)] at h1
  rw [iq (by omega),←l1] at h2
  exact h'.2 _ v p h1 h2
end My
namespace L2
open PySem PySem.Spec PyProof.Rows
theorem Ft{X:Cx}{E:XK}(L:qU X E):PassesOwn (model X.prog X.w) X.A X.env X.xe:=by rw [L.xe];exact PassesOwn.leaving
end L2
namespace My
open PySem L2
def Od:Sp:=fun vs H Q _=>∃m:Nat,vs=[.int (m:Int)]∧m≤1000∧Q (.int ((m:Int)*m+3*m+1)) H
def Oe:Sp:=fun vs H Q _=>∃(t:Addr) (n:Nat) (L:ax),vs=[.ref t]∧eY H t n L∧n≤9∧Q .aN H
end My
namespace L2
open PySem PySem.Spec PyProof.Rows
def Fu(K:aC):R2:=fun x y H Q=>∃a b xs ys,x=.ref a∧y=.ref b∧dt K H a xs∧dt K H b ys∧ys≠[]∧xs.length+ys.length≤sizeLine ∧
 (xs=[]→Q (.ref b) H)∧(xs≠[]→∀p,H p=none→Q (.ref p) (upd H p (.tup (xs++ys))))
theorem Of{X:Cx}:cG X (binaryOp .Add) (Fu X.K):=by
 intro pins s σ H x y v u Q I rx ry h;by_cases hx:∃a b xs ys,x=.ref a∧y=.ref b∧dt X.K H a xs∧dt X.K H b ys∧xs=[]∧Q (.ref b) H
 ·obtain ⟨a,b,xs,ys,rfl,rfl,ha,hb,rfl,q⟩:=hx
  cases rx;cases ry;obtain ⟨ah,r1,p1,_⟩:=I.tuple ha;obtain ⟨gB,r2,p2,_⟩:=I.tuple hb;have e0:ah=[]:=r1.wV.mpr rfl;subst e0;obtain ⟨⟨cls,dd,data,sl⟩,ho,hc,n,hd⟩:=id p1;obtain ⟨⟨DZ,mI,data2,g7⟩,d8,fB,n2,hd2⟩:=id p2;simp only at hc hd fB hd2;subst hc hd fB hd2
  exact concat_meets ⟨_,ho,rfl⟩ ⟨_,d8,rfl⟩ noFill_tuple_add seq_tuple_add zE zF (zG _ _)
   (tuple_addW0 a b _ gB.toArray n n2 dd mI sl g7 (by simp)) ⟨ho,d8,⟨.ref b,H,I,rfl,q⟩⟩
 ·obtain ⟨a,b,xs,ys,rfl,rfl,ha,hb,hy,hz,q1,q2⟩:=h
  have ne:xs≠[]:=fun z=>hx ⟨a,b,xs,ys,rfl,rfl,ha,hb,z,q1 z⟩;exact KQ pins s σ H _ _ v u Q I rx ry ⟨a,b,xs,ys,rfl,rfl,ha,hb,ne,hz,fun z=>absurd z hy,fun _=>q2 ne⟩
end L2
namespace My
open PySem L2
end My
namespace L2
open PySem PySem.Spec PyProof.Rows
theorem Fv{X:Cx}{K:aC}(hk:X.K=K:=by rfl):cG X (binaryOp .Add) (Fu K):=by subst hk;exact Of
end L2
namespace My
open PySem L2
end My
namespace L2
open PySem PySem.Spec PyProof.Rows
end L2
namespace My
open PySem L2
def oJ:V→Nat
 | .int i=>i.toNat
 | _=>0
theorem Bm{ys:List V}{n:Nat}(p:ys.Perm (aW n)):∃o:List Nat,ys=o.map (fun k:Nat=>V.int (k:Int))∧o.Perm (List.range n):=by
 refine ⟨ys.map oJ,?_,?_⟩
 ·rw [bR]
  conv=>lhs;rw [←l7 ys]
  refine fj fun y hy=>?_
  obtain ⟨k,_,rfl⟩:=bS.mp (p.mem_iff.mp hy)
  show V.int (k:Int)=V.int (((k:Int).toNat:Nat):Int)
  rw [cU]
 ·have:=p.map oJ
  unfold aW at this
  rw [bR] at this
  have e:(List.range n).map (oJ ∘ fun i:Nat=>V.int (i:Int))=List.range n:=by
   conv=>rhs;rw [←l7 (List.range n)]
   exact fj fun k _=>cU k
  rw [e] at this
  exact this
inductive di (aZ:Nat→Nat→Prop) (bw:Nat→Prop) (s:Nat):Nat→Prop where
 | start:di aZ bw s s
 | step {a b:Nat}:di aZ bw s a→(a=s∨bw a)→aZ a b→di aZ bw s b
structure dZ (n:Nat) (aZ:Nat→Nat→Prop) (bw:Nat→Prop) (s:Nat) (here:Option Nat) (dn:Nat→Prop) (ks ws:List Nat):Prop where
 pl:iS n ks
 st:s∈ks
 rc:∀k∈ks,di aZ bw s k
 wt:∀w∈ws,w∈ks∧(w=s∨bw w)
 cl:∀k∈ks,(k=s∨bw k)→k∈ws∨∀b,aZ k b→b∈ks∨(here=some k∧¬dn b)
variable {n:Nat} {aZ:Nat→Nat→Prop} {bw:Nat→Prop} {s:Nat}
variable {dn:Nat→Prop}
theorem dZ.start(hs:s<n):dZ n aZ bw s none dn [s] [s]:=
 ⟨⟨by simp,fun k hk=>by rw [cg.mp hk];exact hs⟩,cg.mpr rfl,fun k hk=>by rw [cg.mp hk];exact .start,fun w hw=>⟨hw,.inl (cg.mp hw)⟩,fun k hk _=>.inl hk⟩
variable {ks ws:List Nat} {h:Nat}
theorem dZ.pop(k:dZ n aZ bw s none dn ks (ws++[h])):dZ n aZ bw s (some h) (fun _=>False) ks ws:=
 ⟨k.pl,k.st,k.rc,fun w hw=>k.wt w (qp _ hw),fun x hx ox=>by
  rcases k.cl x hx ox with e | e
  ·rcases dQ.mp e with e | e
   ·exact .inl e
   ·exact .inr fun b _=>.inr ⟨by rw [cg.mp e],fun z=>z⟩
  ·exact .inr fun b hb=>.inl ((e b hb).resolve_right fun z=>by cases z.1)⟩
variable {b:Nat}
theorem dZ.old(k:dZ n aZ bw s (some h) dn ks ws)(hb:b∈ks):dZ n aZ bw s (some h) (fun x=>dn x∨x=b) ks ws:=
 ⟨k.pl,k.st,k.rc,k.wt,fun x hx ox=>by
  rcases k.cl x hx ox with e | e;·exact .inl e
  ·refine .inr fun c hc=>?_
   rcases e c hc with e | e;·exact .inl e
   ·by_cases z:c=b
    ·rw [z];exact .inl hb
    ·exact .inr ⟨e.1,fun q=>q.elim e.2 z⟩⟩
theorem dZ.new{vs:List Nat}(k:dZ n aZ bw s (some h) dn ks ws)(hb:b∉ks)(bn:b<n)(hh:h∈ks)(oh:h=s∨bw h)(ab:aZ h b)(hv:(bw b∧vs=ws++[b])∨(¬bw b∧vs=ws)):dZ n aZ bw s (some h) (fun x=>dn x∨x=b) (cz ks b) vs:=by
 have bs:b≠s:=fun z=>hb (z▸k.st);have sub:∀w∈ws,w∈vs:=fun w hw=>by
  rcases hv with ⟨_,rfl⟩ | ⟨_,rfl⟩;·exact qp _ hw
  ·exact hw
 refine ⟨k.pl.add bn,gJ.mpr (.inl k.st),fun x hx=>?_,fun w hw=>?_,fun x hx ox=>?_⟩
 ·rcases gJ.mp hx with e | rfl
  ·exact k.rc x e
  ·exact .step (k.rc h hh) oh ab
 ·rcases hv with ⟨tb,rfl⟩ | ⟨_,rfl⟩
  ·rcases dQ.mp hw with e | e
   ·exact ⟨gJ.mpr (.inl (k.wt w e).1),(k.wt w e).2⟩
   ·rw [cg.mp e]
    exact ⟨gJ.mpr (.inr rfl),.inr tb⟩
  ·exact ⟨gJ.mpr (.inl (k.wt w hw).1),(k.wt w hw).2⟩
 ·rcases gJ.mp hx with e | rfl
  ·rcases k.cl x e ox with e | e
   ·exact .inl (sub x e)
   ·refine .inr fun c hc=>?_
    rcases e c hc with e | e;·exact .inl (gJ.mpr (.inl e))
    ·by_cases z:c=b
     ·exact .inl (gJ.mpr (.inr z))
     ·exact .inr ⟨e.1,fun q=>q.elim e.2 z⟩
  ·rcases hv with ⟨tb,rfl⟩ | ⟨tb,rfl⟩
   ·exact .inl (dq _ (cg.mpr rfl))
   ·exact absurd ox (fun z=>z.elim bs tb)
theorem dZ.next{Og:Nat→Prop}(k:dZ n aZ bw s (some h) dn ks ws)(all:∀b,aZ h b→dn b):dZ n aZ bw s none Og ks ws:=
 ⟨k.pl,k.st,k.rc,k.wt,fun x hx ox=>by
  rcases k.cl x hx ox with e | e;·exact .inl e
  ·refine .inr fun c hc=>.inl ?_
   rcases e c hc with e | ⟨e,e2⟩;·exact e
   ·cases e
    exact absurd (all c hc) e2⟩
theorem dZ.done(k:dZ n aZ bw s none dn ks [])(x:Nat):x∈ks↔di aZ bw s x:=by
 refine ⟨k.rc x,fun h=>?_⟩
 induction h with
 | start=>exact k.st
 | step _ o ab ih=>
  rcases k.cl _ ih o with e | e;·cases e
  ·exact (e _ ab).resolve_right fun z=>by cases z.1
theorem Oh{ms:List Nat}(h1:ks.Nodup)(h2:ms.Nodup)(e:∀x,x∈ks↔x∈ms)(p:Nat→Bool):(ks.filter p).length=(ms.filter p).length:=by have pm:ks.Perm ms:=(kC h1 h2).mpr e;exact (pm.filter p).length_eq
theorem Oi(h:b∉ks):(cz ks b).length=ks.length+1:=by unfold cz;rw [aa h,dh];rfl
end My
namespace L2
open PySem PySem.Spec PyProof.Rows
theorem Fw{X:Cx}{K:aC}(hk:X.K=K:=by rfl):cG X (compareOp .NotIn) (Ak K true):=by subst hk;exact K9
end L2
namespace My
open PySem L2
def fH(n:Nat)(f:Nat→List Nat)(a b:Nat):Prop:=a<n∧b∈f a
def j_(n:Nat)(f:Nat→List Nat)(done:List Nat)(p:Nat)(c:Nat):Prop:=∃ks:List Nat,iS n ks∧(∀x,x∈ks↔di (fH n f) (·∈done) p x)∧c=(ks.filter fun q=>!decide (q=p) && !decide (q∈done)).length
def Oj:Sp:=fun vs H Q _=>∃(D d:Addr) (n:Nat) (ds:Nat→Addr) (f:Nat→List Nat) (done:List Nat) (p:Nat),vs=[.ref D,.ref d,.int (p:Int)]∧dc H D n ds (fun _=>True) f∧H d=some (.tup (done.map fun k:Nat=>V.int (k:Int)))∧done.length≤1000∧p<n∧n≤60 ∧
 ∀(H':Hp) (r:Addr) (xs:List V),(∀b o,H b=some o→(∀i,i<n→b≠ds i)→H' b=some o)→H' r=some (.lst xs)→j_ n f done p xs.length→Q (.ref r) H'
variable {a:Addr} {σ:St} {H:Hp}
theorem Ol{ob:Obj}{ks:List Nat}{g:TG}{tb:TS}{D:Ends}(Pv:Nat→St→Hp→Prop)(h0:Pv 0 σ H)(hl:∀i σ H,i≤ks.length→Pv i σ H→H a=some (.bx ob (.dK (dk ks))))
  (hs:∀(i k:Nat) σ H,ks[i]?=some k→Pv i σ H→g (.int (k:Int)) σ H fun σ2 H2=>tb {D with nx:=Pv (i+1),ct:=Pv (i+1),bk:=D.nx} σ2 H2) (hd:∀σ H,Pv ks.length σ H→D.nx σ H) :
  ∃W:Nat→Nat→St→Hp→Prop,(∃m,W 0 m σ H)∧∀i m σ H,W i m σ H→
   ((hJ a ob (dk ks)).stop i H∧D.nx σ H)∨((hJ a ob (dk ks)).go i H∧∃N:St→Hp→Prop,(∀σ' H',N σ' H'→∃m',m'<m∧W (i+1) m' σ' H')∧∀x H',(hJ a ob (dk ks)).cV i H x H'→g x σ H' fun σ2 H2=>tb {D with nx:=N,ct:=N,bk:=D.nx} σ2 H2):=by
 refine ⟨fun i m σ H=>m=ks.length-i∧i≤ks.length∧Pv i σ H,⟨ks.length,by simp,bU _,h0⟩,?_⟩
 rintro i m σ H ⟨rfl,hi,p⟩;have q:=hl i σ H hi p;by_cases ba:i<ks.length
 ·refine .inr ⟨⟨q,by rw [xM];exact ba⟩,Pv (i+1),fun σ' H' p'=>⟨ks.length-(i+1),by omega,rfl,ba,p'⟩,fun x H' y=>?_⟩
  obtain ⟨e,kv,ek,rfl⟩:=y;subst e;unfold dk at ek;rw [bt,bQ ba] at ek;cases ek;exact hs i _ σ _ (bQ ba) p
 ·have e:i=ks.length:=by omega
  subst e;exact .inl ⟨⟨q,by rw [xM];exact aw _⟩,hd σ H p⟩
structure k_ (H:Hp) (D:Addr) (n:Nat) (ds:Nat→Addr) (f:Nat→List Nat):Prop where
 lst:H D=some (.lst ((List.range n).map fun i=>V.ref (ds i)))
 at':∀i,i<n→H (ds i)=some (.dK (dk (f i)))∨∃ob,H (ds i)=some (.bx ob (.dK (dk (f i))))
variable {D:Addr} {n:Nat} {ds:Nat→Addr} {f:Nat→List Nat}
theorem dc.fr(h:dc H D n ds (fun _=>True) f):k_ H D n ds f:=⟨h.lst,fun i hi=>.inl (h.at' i hi trivial)⟩
theorem xQ(done:List Nat)(k:Nat):kL (.int (k:Int)) (done.map fun k:Nat=>V.int (k:Int))=decide (k∈done):=by
 unfold kL;rw [nE,tY,dS];constructor
 ·rintro ⟨y,hy,e⟩
  obtain ⟨j,hj,rfl⟩:=bS.mp hy;have e:((j:Int) == (k:Int))=true:=e;rw [beq_iff_eq] at e;have:j=k:=by omega
  subst this;exact hj
 ·intro h
  exact ⟨_,bS.mpr ⟨k,h,rfl⟩,EB rfl⟩
theorem Fx(done:List Nat):(done.map fun k:Nat=>V.int (k:Int)).all jl=true:=by rw [gv];intro x hx;obtain ⟨j,_,rfl⟩:=bS.mp hx;rfl
variable {kvs:List (Key×V)} {R:It→Hp→Prop}
theorem Om(h:H a=some (.dK kvs)∨∃ob,H a=some (.bx ob (.dK kvs)))(k:∀(ob:Obj) (Hf:Hp),Hf a=some (.bx ob (.dK kvs))→(∀b u,b≠a→H b=some u→Hf b=some u)→R (hJ a ob kvs) Hf) :
  (H a=some (.dK kvs)∧∀o,R (hJ a o kvs) (upd H a (.bx o (.dK kvs))))∨∃o,H a=some (.bx o (.dK kvs))∧R (hJ a o kvs) H:=by
 rcases h with e | ⟨ob,e⟩;·exact .inl ⟨e,fun o=>k o _ ar fun b u ne hb=>by rw [aR ne];exact hb⟩
 ·exact .inr ⟨ob,e,k ob H e fun _ _ _ h=>h⟩
theorem k_.keep{H':Hp}(h:k_ H D n ds f)(k:∀b u,b≠a→H b=some u→H' b=some u)(nD:a≠D)(nd:∀i,i<n→ds i≠a):k_ H' D n ds f:=⟨k _ _ (Ne.symm nD) h.lst,fun i hi=>by
 rcases h.at' i hi with e | ⟨ob,e⟩;·exact .inl (k _ _ (nd i hi) e)
 ·exact .inr ⟨ob,k _ _ (nd i hi) e⟩⟩
theorem k_.bx{H H':Hp}{D:Addr}{n:Nat}{ds:Nat→Addr}{f:Nat→List Nat}(h:k_ H D n ds f){j:Nat}{ob:Obj}(k:∀b u,b≠ds j→H b=some u→H' b=some u)(hj:j<n)(e:H' (ds j)=some (.bx ob (.dK (dk (f j)))))(inj:∀i j,i<n→j<n→ds i=ds j→i=j)(nD:ds j≠D):k_ H' D n ds f:=⟨k _ _ (Ne.symm nD) h.lst,fun i hi=>by
 by_cases z:i=j;·subst z;exact .inr ⟨ob,e⟩
 ·rcases h.at' i hi with e | ⟨ob,e⟩
  ·exact .inl (k _ _ (fun q=>z (inj i j hi hj q)) e)
  ·exact .inr ⟨ob,k _ _ (fun q=>z (inj i j hi hj q)) e⟩⟩
def oK(n:Nat)(ds:Nat→Addr)(H H':Hp):Prop:=∀b o,H b=some o→(∀i,i<n→b≠ds i)→H' b=some o
theorem Fy{tl:TE}(hp:∀Q:VK,Q (.ref a) H→tl σ H Q)(h:H a=some (.dK kvs)∨∃ob,H a=some (.bx ob (.dK kvs)))(k:∀(ob:Obj) (Hf:Hp),Hf a=some (.bx ob (.dK kvs))→(∀b u,b≠a→H b=some u→Hf b=some u)→R (hJ a ob kvs) Hf):Fh tl σ H R:=hp _ ⟨a,kvs,rfl,Om h k⟩
def Oo:Sp:=fun vs H Q _=>∃(t d:Addr) (n:Nat) (L:ax) (done:List Nat) (p:Nat),vs=[.ref t,.ref d,.int (p:Int)]∧eY H t n L∧cA n L∧n≤9∧H d=some (.tup (done.map fun k:Nat=>V.int (k:Int)))∧done.length≤1000∧p<n ∧
 ∀(H':Hp) (f:Nat→List Nat) (c:Nat),ai H H'→fF n L f→j_ n f done p c→Q (.int ((c:Int)*c+3*c+1)) H'
variable {p c:Nat}
theorem j_.le{done:List Nat}(h:j_ n f done p c):c≤n:=by obtain ⟨ks,pl,_,rfl⟩:=h;exact b5 (qG _ _) pl.len
theorem j_.same{L:ax}{g:Nat→List Nat}{done:List Nat}{e:Nat}(hf:fF n L f)(hg:fF n L g)(h:j_ n f done p c)(k:j_ n g done p e):c=e:=by
 obtain ⟨ks,pk,ik,rfl⟩:=h;obtain ⟨ms,pm,im,rfl⟩:=k;have ad:fH n f=fH n g:=by
  funext a b
  unfold fH;refine propext ⟨fun⟨x,y⟩=>⟨x,(hg a b x).mpr ((hf a b x).mp y)⟩,fun⟨x,y⟩=>⟨x,(hf a b x).mpr ((hg a b x).mp y)⟩⟩
 refine Oh pk.1 pm.1 (fun x=>?_) _;rw [ik,im,ad]
end My
namespace L2
open PySem PySem.Spec PyProof.Rows
end L2
namespace My
open PySem L2
end My
namespace L2
open PySem PySem.Spec PyProof.Rows My
structure Fz (J:It) (Z:ax) (H1:Hp):Prop where
 go:∀i Hc,ai H1 Hc→i<Z.length→J.go i Hc
 cV:∀i Hc v H',ai H1 Hc→J.cV i Hc v H'→ai Hc H'∧∀z,Z[i]?=some z→∃T,v=.ref T∧H' T=some (.tup [.int z.1,.int z.2])
 stop:∀i Hc,ai H1 Hc→Z.length≤i→J.stop i Hc
end L2
namespace My
open PySem L2
end My
namespace L2
open PySem PySem.Spec PyProof.Rows My
end L2
namespace My
open PySem L2
theorem FA{xs:List V}{v:V}(h1:1≤xs.length)(h:xs[xs.length-1]?=some v):fC xs (-1)=some v:=by
 unfold fC;have e:jk xs.length (-1)=some (xs.length-1):=by
  unfold jk
  split
  ·rename_i hh;omega
  ·split
   ·congr 1
    omega
   ·rename_i h2 h3
    omega
 rw [e];exact h
inductive Wk (aZ:Nat→Nat→Prop) (bw:Nat→Prop) (s:Nat):Nat→Prop where
 | one {b:Nat}:aZ s b→Wk aZ bw s b
 | more {a b:Nat}:Wk aZ bw s a→bw a→aZ a b→Wk aZ bw s b
section
variable {aZ:Nat→Nat→Prop} {bw vc:Nat→Prop} {s t:Nat}
theorem Oq(t:Nat):di aZ bw s t↔t=s∨Wk aZ bw s t:=by
 constructor
 ·intro h
  induction h with
  | start=>exact .inl rfl
  | step _ o ab ih=>
   rcases ih with rfl | w;·exact .inr (.one ab)
   ·rcases o with rfl | o
    ·exact .inr (.one ab)
    ·exact .inr (.more w o ab)
 ·rintro (rfl | h)
  ·exact .start
  ·induction h with
   | one ab=>exact .step .start (.inl rfl) ab
   | more _ o ab ih=>exact .step ih (.inr o) ab
theorem Wk.mono(h:Wk aZ bw s t)(k:∀x,bw x→vc x):Wk aZ vc s t:=by
 induction h with
 | one ab=>exact .one ab
 | more _ o ab ih=>exact .more ih (k _ o) ab
theorem Wk.imp{FD:Nat→Nat→Prop}(h:Wk aZ bw s t)(k:∀a b,aZ a b→FD a b):Wk FD bw s t:=by
 induction h with
 | one ab=>exact .one (k _ _ ab)
 | more _ o ab ih=>exact .more ih o (k _ _ ab)
theorem Wk.cons{a:Nat}(ab:aZ s a)(ta:bw a)(h:Wk aZ bw a t):Wk aZ bw s t:=by
 induction h with
 | one e=>exact .more (.one ab) ta e
 | more _ o e ih=>exact .more ih o e
theorem Wk.symm(sy:∀a b,aZ a b→aZ b a)(h:Wk aZ bw s t):Wk aZ bw t s:=by
 induction h with
 | one ab=>exact .one (sy _ _ ab)
 | more _ o ab ih=>exact ih.cons (sy _ _ ab) o
theorem Wk.trans{p:Nat}(h:Wk aZ bw s p)(tp:bw p)(h':Wk aZ bw p t):Wk aZ bw s t:=by
 induction h' with
 | one ab=>exact .more h tp ab
 | more _ o ab ih=>exact .more ih o ab
theorem Wk.step{p:Nat}(k:∀x,vc x↔bw x∨x=p):Wk aZ vc s t↔Wk aZ bw s t∨(Wk aZ bw s p∧Wk aZ bw p t):=by
 constructor
 ·intro h
  induction h with
  | one ab=>exact .inl (.one ab)
  | more _ o ab ih=>
   rcases (k _).mp o with o | rfl
   ·rcases ih with ih | ⟨i1,i2⟩
    ·exact .inl (.more ih o ab)
    ·exact .inr ⟨i1,.more i2 o ab⟩
   ·rcases ih with ih | ⟨i1,_⟩
    ·exact .inr ⟨ih,.one ab⟩
    ·exact .inr ⟨i1,.one ab⟩
 ·have m:∀x,bw x→vc x:=fun x h=>(k x).mpr (.inl h)
  rintro (h | ⟨h,h'⟩);·exact h.mono m
  ·exact (h.mono m).trans ((k p).mpr (.inr rfl)) (h'.mono m)
end
def aL(n:Nat)(L:ax)(a b:Nat):Prop:=a<n∧b<n∧(((a:Int),(b:Int))∈L∨((b:Int),(a:Int))∈L)
variable {n:Nat} {L:ax}
theorem rp(a b:Nat)(h:aL n L a b):aL n L b a:=⟨h.2.1,h.1,h.2.2.symm⟩
def rq(L:ax):Prop:=∀p∈L,p.1≠p.2
def d5(n:Nat)(o:List Nat)(k x:Nat):Prop:=x<n∧o.idxOf x<k
def oM(n:Nat)(L:ax)(o:List Nat)(k:Nat)(f:Nat→List Nat):Prop:=∀a b:Nat,a<n→b<n→k≤o.idxOf a→k≤o.idxOf b→(b∈f a↔a≠b∧Wk (aL n L) (d5 n o k) a b)
variable {o:List Nat}
theorem oM.start{f:Nat→List Nat}(nb:fF n L f)(ns:rq L):oM n L o 0 f:=fun a b ha hb _ _=>by
 rw [nb a b ha];constructor
 ·intro h
  refine ⟨fun e=>?_,.one ⟨ha,hb,h⟩⟩;subst e;rcases h with h | h <;> exact ns _ h rfl
 ·rintro ⟨_,h⟩
  cases h with
  | one ab=>exact ab.2.2
  | more _ o _=>exact absurd o.2 (tU _)
theorem oM.step{n:Nat}{L:ax}{o:List Nat}(ho:o.Perm (List.range n)){k p:Nat}{f g:Nat→List Nat}{ms:List Nat}(h:oM n L o k f)(hp:p<n)(ip:o.idxOf p=k)(hm:∀q,q∈ms↔q∈f p∧k<o.idxOf q)(ml:∀q∈ms,q<n)
  (con:∀a b:Nat,a<n→(b∈g a↔b∈f a∨(a≠b∧a∈ms∧b∈ms))):oM n L o (k+1) g:=fun a b ha hb ka kb=>by
 have th:∀x,d5 n o (k+1) x↔d5 n o k x∨x=p:=fun x=>by
  unfold d5;constructor
  ·rintro ⟨h1,h2⟩
   by_cases e:o.idxOf x=k
   ·right
    by_cases z:x=p;·exact z
    ·exact absurd (e.trans ip.symm) (va ho h1 hp z)
   ·exact .inl ⟨h1,by omega⟩
  ·rintro (⟨h1,h2⟩ | rfl)
   ·exact ⟨h1,by omega⟩
   ·exact ⟨hp,by omega⟩
 have ap:a≠p:=fun e=>by subst e;omega
 have bp:b≠p:=fun e=>by subst e;omega
 have ea:=h p a hp ha (by omega) (by omega)
 have eb:=h p b hp hb (by omega) (by omega)
 rw [con a b ha,h a b ha hb (by omega) (by omega),hm a,hm b,ea,eb,Wk.step th]
 constructor
 ·rintro (⟨h1,h2⟩ | ⟨h1,⟨⟨_,h2⟩,_⟩,⟨_,h3⟩,_⟩)
  ·exact ⟨h1,.inl h2⟩
  ·exact ⟨h1,.inr ⟨h2.symm rp,h3⟩⟩
 ·rintro ⟨h1,h2 | ⟨h2,h3⟩⟩
  ·exact .inl ⟨h1,h2⟩
  ·exact .inr ⟨h1,⟨⟨Ne.symm ap,h2.symm rp⟩,by omega⟩,⟨Ne.symm bp,h3⟩,by omega⟩
def ic(n:Nat)(L:ax)(o:List Nat)(p:Nat)(ms:List Nat):Prop:=∀q,q∈ms↔q<n∧o.idxOf p<o.idxOf q∧Wk (aL n L) (d5 n o (o.idxOf p)) p q
def Ot(N:Addr):Sp:=fun vs H Q E=>∃(t a:Addr) (n:Nat) (L:ax) (zs:List Int),vs=[.ref t,.ref a]∧eY H t n L∧cA n L∧rq L∧n≤60∧H a=some (.lst (zs.map V.int))∧zs.length<64 ∧
 (¬j9 zs n→∀H',ai H H'→E (.ref N) none H') ∧
 ∀o:List Nat,zs=o.map iN→o.Perm (List.range n)→∀(H':Hp) (D:Addr) (rs:Nat→Addr) (g:Nat→List Nat),ai H H'→H D=none→(∀p,p<n→H (rs p)=none)→N6 H' D n rs g→(∀p,p<n→gK n o p (g p)∧ic n L o p (g p))→Q (.ref D) H'
theorem Ou{p q p' q':Nat}(h:h_ p q=h_ p' q'):(p=p'∧q=q')∨(p=q'∧q=p'):=by
 unfold h_ at h;have h1:=b_ Prod.fst h;have h2:=b_ Prod.snd h;dsimp only at h1 h2
 split at h1 <;> split at h1 <;> split at h2 <;> split at h2 <;> omega
def iV(n:Nat)(L:ax)(o:List Nat)(M:ax):Prop:=M.Pairwise lexLt∧∀z,z∈M↔∃p q:Nat,p<n∧q<n∧o.idxOf p<o.idxOf q∧Wk (aL n L) (d5 n o (o.idxOf p)) p q∧z=h_ p q
theorem iV.lt{M:ax}(h:iV n L o M):∀z∈M,0≤z.1∧z.1<z.2∧z.2<(n:Int):=fun z hz=>by
 obtain ⟨p,q,hp,hq,hi,_,rfl⟩:=(h.2 z).mp hz;have ne:p≠q:=fun e=>by subst e;omega
 unfold h_;dsimp only
 split <;> split <;> omega
end My
namespace L2
open PySem PySem.Spec PyProof.Rows
section
variable {X:Cx} {a b:Expr} {rest:List Expr} {pos:Pos} {ta tb:TE}
end
end L2
namespace My
open PySem L2
end My
namespace L2
open PySem PySem.Spec PyProof.Rows
section
variable {prog:Program} {w:World} {A:Around} {E:aE} {s:Shared}
end
section
variable {prog:Program} {w:World} {A:Around} {E:aE} {s:Shared}
end
section
variable {X:Cx}
end
section
variable {prog:Program} {w:World} {A:Around} {E:aE} {s:Shared}
end
end L2
namespace My
open PySem L2
end My
namespace L2
open PySem PySem.Spec PyProof.Rows
end L2
namespace My
open PySem L2
end My
namespace L2
open PySem PySem.Spec PyProof.Rows
section
variable {X:Cx}
end
end L2
namespace My
open PySem L2
theorem FE:∀{A B:List Nat},A.Pairwise (· < ·)→B.Pairwise (· < ·)→(∀p,p∈A↔p∈B)→A=B:=fun{A B} h1 h2 e=>by have nA:A.Nodup:=List.Pairwise.imp (fun h=>bE h) h1;have nB:B.Nodup:=List.Pairwise.imp (fun h=>bE h) h2;exact ((kC nA nB).mpr e).eq_of_pairwise (fun a b _ _ h h'=>by omega) h1 h2
theorem Ov{A B:List Nat}(p:A.Perm B)(nd:B.Nodup)(s:(A.map iN).Pairwise (·≤·)):A.Pairwise (· < ·):=by rw [iz] at s;refine List.Pairwise.imp₂ (fun a b h1 h2=>?_) s (p.nodup_iff.mpr nd);have h1:(a:Int)≤(b:Int):=h1;have h2:a≠b:=h2;omega
def p2(g:Nat→Nat→Nat):List Nat→Nat
 | []=>0
 | x::l=>(l.map (g x)).sum+p2 g l
def p3(f:Nat→Nat→Nat→Nat):List Nat→Nat
 | []=>0
 | x::l=>p2 (f x) l+p3 f l
variable {g:Nat→Nat→Nat} {l l':List Nat}
theorem FF(sy:∀x y,g x y=g y x)(p:l.Perm l'):p2 g l=p2 g l':=by
 induction p with
 | nil=>rfl
 | cons x p ih=>simp only [p2,ih];rw [(p.map (g x)).sum_nat]
 | swap x y l=>simp only [p2,bM,cM];rw [sy x y];omega
 | trans _ _ h1 h2=>exact h1.trans h2
theorem Ow{f:Nat→Nat→Nat→Nat}(s1:∀x y z,f x y z=f y x z)(s2:∀x y z,f x y z=f x z y)(p:l.Perm l'):p3 f l=p3 f l':=by
 induction p with
 | nil=>rfl
 | cons x p ih=>simp only [p3,ih];rw [FF (s2 x) p]
 | swap x y l=>simp only [p3,p2];rw [show l.map (f y x)=l.map (f x y) from fj fun z _=>s1 y x z];omega
 | trans _ _ h1 h2=>exact h1.trans h2
variable {f:Nat→Nat}
theorem rA{g:Nat→Nat}(h:∀x∈l,f x=g x):(l.map f).sum=(l.map g).sum:=b_ List.sum (fj h)
theorem xR(h:∀x∈l,f x=0):(l.map f).sum=0:=by
 induction l with
 | nil=>rfl
 | cons x l ih=>rw [bM,cM,h x dB,ih fun y hy=>h y (cB _ hy)]
theorem Ox{g:Nat→Nat}:(l.map fun x=>f x+g x).sum=(l.map f).sum+(l.map g).sum:=by
 induction l with
 | nil=>rfl
 | cons x l ih=>simp only [bM,cM,ih];omega
variable {b c:Nat}
theorem Oy(nd:l.Nodup)(hb:b∈l):(l.map fun y=>if y=b then c else 0).sum=c:=by
 induction l with
 | nil=>cases hb
 | cons x l ih=>
  rw [bM,cM];obtain ⟨n1,n2⟩:=eh.mp nd;rcases b3.mp hb with rfl | h
  ·rw [ae rfl,xR fun y hy=>aa (fun e:y=b=>n1 (e▸hy))]
   omega
  ·rw [aa (fun e:x=b=>n1 (e▸h)),ih n2 h]
   omega
variable {g':Nat→Nat→Nat}
theorem FG(nd:l.Nodup)(h:∀x∈l,∀y∈l,x≠y→g x y=g' x y):p2 g l=p2 g' l:=by
 induction l with
 | nil=>rfl
 | cons x l ih=>obtain ⟨n1,n2⟩:=eh.mp nd;show (l.map (g x)).sum+p2 g l=(l.map (g' x)).sum+p2 g' l;rw [rA fun y hy=>h x dB y (cB _ hy) fun e=>n1 (e▸hy),ih n2 fun a ha b hb=>h a (cB _ ha) b (cB _ hb)]
theorem Oz:p2 (fun x y=>g x y+g' x y) l=p2 g l+p2 g' l:=by
 induction l with
 | nil=>rfl
 | cons x l ih=>simp only [p2,ih,Ox];omega
theorem FH(h:∀x∈l,∀y,g x y=0):p2 g l=0:=by
 induction l with
 | nil=>rfl
 | cons x l ih=>show (l.map (g x)).sum+p2 g l=0;rw [xR fun y _=>h x dB y,ih fun a ha=>h a (cB _ ha)]
variable {a:Nat}
theorem OA(pw:l.Pairwise (· < ·))(ha:a∈l)(hb:b∈l)(ab:a<b):p2 (fun i j=>if i=a∧j=b then c else 0) l=c:=by
 induction l with
 | nil=>cases ha
 | cons x l ih=>
  obtain ⟨n1,n2⟩:=qI.mp pw;have nd:l.Nodup:=n2.imp fun h=>bE h;show (l.map fun j=>if x=a∧j=b then c else 0).sum+p2 _ l=c
  rcases b3.mp ha with rfl | h
  ·have ji:b∈l:=by
    rcases b3.mp hb with rfl | h;·omega
    ·exact h
   rw [show (l.map fun j=>if a=a∧j=b then c else 0).sum=(l.map fun y=>if y=b then c else 0).sum from rA fun y _=>by simp,Oy nd ji,FH fun i hi j=>aa fun e=>by have:=n1 i hi;omega]
   omega
  ·have xa:=n1 a h
   have ji:b∈l:=by
    rcases b3.mp hb with rfl | h;·omega
    ·exact h
   rw [xR fun y _=>aa fun e=>by omega,ih n2 h ji]
   omega
theorem FI(pw:l.Pairwise (· < ·)):p2 g l=(l.map fun y=>(l.map fun z=>if y<z then g y z else 0).sum).sum:=by
 induction l with
 | nil=>rfl
 | cons x l ih=>
  obtain ⟨n1,n2⟩:=qI.mp pw;show (l.map (g x)).sum+p2 g l=_;rw [bM,cM,bM,cM,aa (dm x),ih n2];rw [show (l.map fun z=>if x<z then g x z else 0).sum=(l.map (g x)).sum from rA fun z hz=>ae (n1 z hz)]
  rw [show (l.map fun y=>((x::l).map fun z=>if y<z then g y z else 0).sum).sum=(l.map fun y=>(l.map fun z=>if y<z then g y z else 0).sum).sum from rA fun y hy=>by
   rw [bM,cM,aa (by have:=n1 y hy;omega)]
   omega]
  omega
theorem xT(n:Nat):(List.range n).Pairwise (· < ·):=wm
theorem FJ{n:Nat}{W:Nat→Nat→Nat}:∀{M:ax},M.Nodup→(∀z∈M,0≤z.1∧z.1<z.2∧z.2<(n:Int))→(M.map fun z=>W z.1.toNat z.2.toNat).sum=p2 (fun i j=>if ((i:Int),(j:Int))∈M then W i j else 0) (List.range n)
 | [],_,_=>by rw [FH fun i _ j=>aa fun h=>nomatch h];rfl
 | z::M,nd,lt=>by
  obtain ⟨n1,n2⟩:=eh.mp nd;obtain ⟨z0,z1,z2⟩:=lt z dB;rw [bM,cM,FJ n2 fun y hy=>lt y (cB _ hy)];have d:=OA (c:=W z.1.toNat z.2.toNat) (xT n) (a:=z.1.toNat) (b:=z.2.toNat) (aQ.mpr (by omega)) (aQ.mpr (by omega)) (by omega)
  rw [←d,←Oz];refine FG dr fun i _ j _ _=>?_;by_cases e:i=z.1.toNat∧j=z.2.toNat
  ·have ez:((i:Int),(j:Int))=z:=by obtain ⟨e1,e2⟩:=e;subst e1;subst e2;rw [nJ z0,nJ (by omega)]
   obtain ⟨e1,e2⟩:=e;have hm:((i:Int),(j:Int))∈z::M:=ez.symm▸dB;have hn:¬((i:Int),(j:Int))∈M:=fun h=>n1 (ez▸h);rw [ae ⟨e1,e2⟩,ae hm,aa hn,←e1,←e2,tV]
  ·rw [aa e]
   have:((i:Int),(j:Int))≠z:=fun h=>e (by subst h;exact ⟨(cU i).symm,(cU j).symm⟩)
   by_cases h:((i:Int),(j:Int))∈M
   ·rw [ae h,ae (cB _ h)]
    omega
   ·rw [aa h,aa fun h'=>(b3.mp h').elim this h]
def rL(M:ax)(a b:Nat):Bool:=decide (((a:Int),(b:Int))∈M) || decide (((b:Int),(a:Int))∈M)
variable {M:ax}
theorem vd:rL M a b=true↔((a:Int),(b:Int))∈M∨((b:Int),(a:Int))∈M:=by unfold rL;rw [wq,dS,dS]
theorem xU(M:ax)(a b:Nat):rL M a b=rL M b a:=Bool.or_comm ..
def oN(r:Nat→Nat→Bool)(x y:Nat):Nat:=if r x y then 1 else 0
def iW(r:Nat→Nat→Bool)(x y z:Nat):Nat:=if r x y && r x z && r y z then 1 else 0
def FK(n:Nat)(M:ax):Nat:=p3 (iW (rL M)) (List.range n)
def mV(n:Nat)(M:ax):Nat:=4*M.length+2*FK n M+n
variable {n:Nat}
theorem OB(nd:M.Nodup)(lt:∀z∈M,0≤z.1∧z.1<z.2∧z.2<(n:Int)):M.length=p2 (oN (rL M)) (List.range n):=by
 have:=FJ (W:=fun _ _=>1) nd lt;rw [show (M.map fun z=>(fun _ _=>1:Nat→Nat→Nat) z.1.toNat z.2.toNat).sum=M.length from by
  clear this nd lt
  induction M with
  | nil=>rfl
  | cons z M ih=>rw [bM,cM,ih,cL];exact Nat.add_comm 1 _] at this
 rw [this,FI (xT n),FI (xT n)];refine rA fun i _=>rA fun j _=>?_;by_cases ij:i<j
 ·rw [ae ij,ae ij]
  unfold oN;by_cases h:((i:Int),(j:Int))∈M;·rw [ae h,ae (vd.mpr (.inl h))]
  ·rw [aa h,aa fun h'=>by
    rcases vd.mp h' with h' | h';·exact h h'
    ·have:=lt _ h'
     omega]
 ·rw [aa ij,aa ij]
theorem OC(M:ax)(x y z:Nat):iW (rL M) x y z=iW (rL M) y x z:=by unfold iW;rw [xU M y x];cases rL M x y <;> cases rL M x z <;> cases rL M y z <;> rfl
theorem OD(M:ax)(x y z:Nat):iW (rL M) x y z=iW (rL M) x z y:=by unfold iW;rw [xU M z y];cases rL M x y <;> cases rL M x z <;> cases rL M y z <;> rfl
theorem FL(a:Nat→Bool):∀l:List Nat,2*p2 (fun y z=>if a y && a z then 1 else 0) l+(l.map fun y=>if a y then 1 else 0).sum=(l.map fun y=>if a y then 1 else 0).sum*(l.map fun y=>if a y then 1 else 0).sum
 | []=>rfl
 | x::l=>by
  have ih:=FL a l;simp only [p2,bM,cM];by_cases h:a x
  ·simp only [h,Bool.true_and,if_true]
   simp only [Nat.add_mul,Nat.mul_add];omega
  ·simp only [h,Bool.false_and,wj,if_false]
   rw [xR fun _ _=>rfl,dF,dF];exact ih
def Good(r:Nat→Nat→Bool)(m:Nat→Nat):List Nat→Prop
 | []=>True
 | x::l=>m x=(l.map fun y=>if r x y then 1 else 0).sum∧(∀y∈l,∀z∈l,y≠z→r x y=true→r x z=true→r y z=true)∧Good r m l
theorem FN{r:Nat→Nat→Bool}{m:Nat→Nat}:∀{l:List Nat},l.Nodup→Good r m l→(l.map fun x=>m x*m x+3*m x+1).sum=4*p2 (oN r) l+2*p3 (iW r) l+l.length
 | [],_,_=>rfl
 | x::l,nd,⟨h1,h2,h3⟩=>by
  obtain ⟨n1,n2⟩:=eh.mp nd;have ih:=FN n2 h3;have e:p2 (iW r x) l=p2 (fun y z=>if r x y && r x z then 1 else 0) l:=FG n2 fun y hy z hz yz=>by
   unfold iW;by_cases a:r x y <;> by_cases b:r x z;·simp [a,b,h2 y hy z hz yz a b]
   ·simp [a,b]
   ·simp [a,b]
   ·simp [a,b]
  have e2:(l.map (oN r x)).sum=m x:=h1.symm;have pk:=FL (r x) l;rw [←h1] at pk;show m x*m x+3*m x+1+(l.map fun x=>m x*m x+3*m x+1).sum=4*((l.map (oN r x)).sum+p2 (oN r) l)+2*(p2 (iW r x) l+p3 (iW r) l)+(l.length+1);rw [ih,e2,e];omega
variable {L:ax} {o:List Nat}
theorem OE(f:iV n L o M)(h:aL n M a b){k:Nat}(hk:o.idxOf a≤k∨o.idxOf b≤k):Wk (aL n L) (d5 n o k) a b:=by
 have go:∀{a b:Nat},((a:Int),(b:Int))∈M→(o.idxOf a≤k∨o.idxOf b≤k)→Wk (aL n L) (d5 n o k) a b:=fun{a b} hm hk=>by
  obtain ⟨p,q,hp,hq,pq,w,e⟩:=(f.2 _).mp hm;have e:h_ a b=h_ p q:=by rw [←e];have:=f.lt _ hm;unfold h_;rw [aa (by omega),ae (by omega)]
  rcases Ou e with ⟨rfl,rfl⟩ | ⟨rfl,rfl⟩;·exact w.mono fun x hx=>⟨hx.1,by have:=hx.2;omega⟩
  ·exact (w.symm rp).mono fun x hx=>⟨hx.1,by have:=hx.2;omega⟩
 rcases h.2.2 with h | h;·exact go h hk
 ·exact (go h hk.symm).symm rp
theorem rB(f:iV n L o M)(ha:a<n)(hb:b<n)(ab:o.idxOf a<o.idxOf b):rL M a b=true↔Wk (aL n L) (d5 n o (o.idxOf a)) a b:=by
 constructor
 ·intro h
  exact OE f ⟨ha,hb,vd.mp h⟩ (.inl (aw _))
 ·intro w
  have hm:=(f.2 _).mpr ⟨a,b,ha,hb,ab,w,rfl⟩;rw [vd];unfold h_ at hm;by_cases h:(b:Int)<(a:Int)
  ·rw [ae h,aa (by omega)] at hm
   exact .inr hm
  ·by_cases h':(b:Int)>(a:Int)
   ·rw [aa h,ae h'] at hm
    exact .inl hm
   ·have e:a=b:=by omega
    subst e;omega
theorem OF(l:List Nat)(c:Nat→Bool):(l.map fun k=>if c k then 1 else 0).sum=(l.filter c).length:=by
 induction l with
 | nil=>rfl
 | cons x l ih=>
  rw [l8,bM,cM];by_cases h:c x;·rw [ae h,ae h,cL,ih];omega
  ·rw [aa h,aa h,ih];omega
theorem FO{n:Nat}{L M:ax}{o:List Nat}(ho:o.Perm (List.range n))(f:iV n L o M){g:Nat→List Nat}(hg:∀p,p<n→gK n o p (g p)∧ic n L o p (g p)):∀(l pre:List Nat),o=pre++l→Good (rL M) (fun x=>(g x).length) l
 | [],_,_=>trivial
 | x::l,pre,e=>by
  have nd:=u9 ho;have xV:=nd;rw [e,l5] at xV;obtain ⟨np,nx,dj⟩:=xV;obtain ⟨OG,nl⟩:=eh.mp nx;have hx:x<n:=(hV ho).mp (by rw [e];simp)
  have ix:o.idxOf x=pre.length:=by rw [e,l9,aa fun h=>dj x h x dB rfl,List.idxOf_cons_self,dF]
  have il:∀y,y∈l↔y<n∧o.idxOf x<o.idxOf y:=fun y=>by
   constructor
   ·intro h
    refine ⟨(hV ho).mp (by rw [e];simp [h]),?_⟩
    have yx:y≠x:=fun q=>OG (q▸h);rw [ix,e,l9,aa fun h'=>dj y h' y (cB _ h) rfl,List.idxOf_cons,show (x == y)=false from by simpa using yx.symm]
    simp only [cond_false];omega
   ·rintro ⟨h,h'⟩
    have hm:=(hV ho).mpr h;rw [e,dQ,b3] at hm;rcases hm with hm | rfl | hm
    ·rw [ix,e,l9,ae hm] at h'
     have:=tZ hm;omega
    ·omega
    ·exact hm
  refine ⟨?_,?_,FO ho f hg l (pre++[x]) (by rw [e];simp)⟩
  ·rw [OF]
   obtain ⟨gk,gw⟩:=hg x hx;refine ((kC (gk.up.imp fun h=>bE h) (nl.filter _)).mpr fun q=>?_).length_eq;rw [gw q,bF,il q];constructor
   ·rintro ⟨h1,h2,h3⟩
    exact ⟨⟨h1,h2⟩,(rB f hx h1 h2).mpr h3⟩
   ·rintro ⟨⟨h1,h2⟩,h3⟩
    exact ⟨h1,h2,(rB f hx h1 h2).mp h3⟩
  ·intro y hy z hz yz ry rz
   obtain ⟨y1,y2⟩:=(il y).mp hy;obtain ⟨z1,z2⟩:=(il z).mp hz;have wy:=(rB f hx y1 y2).mp ry;have wz:=(rB f hx z1 z2).mp rz;have ne:=va ho y1 z1 yz;have both:∀k,o.idxOf x<k→Wk (aL n L) (d5 n o k) y z:=fun k hk=>by
    have m:∀t,d5 n o (o.idxOf x) t→d5 n o k t:=fun t ht=>⟨ht.1,by have:=ht.2;omega⟩
    exact ((wy.symm rp).mono m).trans ⟨hx,hk⟩ (wz.mono m)
   by_cases h:o.idxOf y<o.idxOf z;·exact (rB f y1 z1 h).mpr (both _ y2)
   ·rw [xU]
    exact (rB f z1 y1 (by omega)).mpr ((both _ z2).symm rp)
theorem Bn(ho:o.Perm (List.range n))(f:iV n L o M){g:Nat→List Nat}(hg:∀p,p<n→gK n o p (g p)∧ic n L o p (g p)) :
  ((List.range n).map fun x=>(g x).length*(g x).length+3*(g x).length+1).sum=mV n M:=by
 have nd:M.Nodup:=f.1.imp fun h e=>by subst e;unfold lexLt at h;omega
 have gs:=FN (u9 ho) (FO ho f hg o [] rfl);rw [←(ho.map fun x=>(g x).length*(g x).length+3*(g x).length+1).sum_nat,gs];unfold mV FK;rw [OB nd f.lt,FF (fun x y=>by unfold oN;rw [xU]) ho,Ow (OC M) (OD M) ho,ho.length_eq,b6]
def OH(N:Addr):Sp:=fun vs H Q E=>∃(t a:Addr) (n:Nat) (L:ax) (zs:List Int),vs=[.ref t,.ref a]∧eY H t n L∧cA n L∧rq L∧n≤30∧H a=some (.lst (zs.map V.int))∧zs.length<64 ∧
 (¬j9 zs n→∀H',ai H H'→E (.ref N) none H') ∧
 ∀o:List Nat,zs=o.map iN→o.Perm (List.range n)→∀(H':Hp),ai H H'→∀d:Nat,(∀M,iV n L o M→d=mV n M)→Q (.int (d:Int)) H'
end My
namespace L2
open PySem
section
variable {prog:Program} {w:World} {A:Around} {E:aE} {s:Shared}
end
end L2
namespace My
open PySem L2
end My
namespace L2
open PySem PySem.Spec PyProof.Rows My
theorem OI{wi:TI}{ρ:St→St}{tt:TT}{te:TE}{σ:St}{H:Hp}{Q:VK}{xs:List V}(c:V→Bool)(eU:∀R:It→Hp→Prop,(∀J H1,ai H H1→jY J xs H1→R J H1)→wi σ H R)(hn:xs.length<sizeLine)
  (test:∀x∈xs,∀(Hc:Hp) (R:Bool→Hp→Prop),ai H Hc→R (c x) Hc→tt (some x::ρ σ) Hc R)
  (elem:∀(x:V) (Hc:Hp) (R:VK),R x Hc→te (some x::ρ σ) Hc R)
  (fin:∀D Hc,H D=none→ai H Hc→Hc D=some (.lst (xs.filter c))→Q (.ref D) Hc):jo wi ρ tt te σ H Q:=by
 refine eU _ fun J H1 s1 js=>?_;intro D nD;refine ⟨fun i m ys Hc=>m=xs.length-i∧i≤xs.length∧Hc D=some (.lst ys)∧ai H1 Hc∧ys.length≤i∧ys=(xs.take i).filter c,⟨_,rfl,bU _,ar,dW (ai.refl H1) nD,aw _,rfl⟩,?_⟩;rintro i m ys Hc ⟨rfl,hi,eD,sH,ly,hP⟩;refine ⟨eD,?_⟩;by_cases ba:i<xs.length
 ·refine .inr ⟨js.go i Hc sH ba,fun x H' hy=>?_⟩
  obtain ⟨rfl,hx⟩:=js.cV i Hc x H' sH hy;have ex:=hx ba;have mx:x∈xs:=i8 ex;have tk:xs.take (i+1)=xs.take i++[x]:=by rw [l6,ex];rfl
  refine test x mx _ _ (s1.trans sH) ?_;by_cases hb:c x=true
  ·rw [ae hb]
   refine elem x _ _ ⟨eD,by omega,xs.length-(i+1),by omega,rfl,ba,ar,dW sH nD,by simp;omega,?_⟩
   rw [tk,qF,←hP,l8,ae hb];rfl
  ·rw [aa hb]
   refine ⟨xs.length-(i+1),by omega,rfl,ba,eD,sH,by omega,?_⟩
   rw [tk,qF,←hP,l8,aa hb,List.filter_nil,qq]
 ·have e:i=xs.length:=by omega
  subst e;rw [jJ] at hP;subst hP;exact .inl ⟨js.stop _ Hc sH (aw _),fin D Hc (none_of s1 nD) (s1.trans sH) eD⟩
end L2
namespace My
open PySem L2
section
variable {P a d:Addr} {H Hc:Hp} {n m:Nat} {L:ax}
end
section
variable {n:Nat} {E:Nat→Nat→Prop} {pos rk:Nat→Nat}
end
open PySem PySem.W PyProof.Rows Tm
section
variable {prog:Program} {w:World} {A:Around} {E:aE} {s:Shared}
def Bo(k:Keyed):Int:=match k.1 with | .int n _=>n | _=>0
structure mW (n:Nat) (kz:Nat→Int) (p:List Nat):Prop where
 pm:p.Perm (List.range n)
 dn:p.Pairwise fun i j=>kz j≤kz i
variable {vs:List Value}
theorem OJ{ns:List Int}(h:IntsAre vs ns):∀(i:Nat) (z:Int),ns[i]?=some z→∃t,vs[i]?=some (.int z t):=by
 induction h with
 | nil=>intro i z hz;cases hz
 | cons _ _ _ ih=>
  intro i z hz;cases i with
  | zero=>cases hz;exact ⟨_,rfl⟩
  | succ i=>exact ih i z hz
variable {kz:Nat→Int}
theorem OK{keys:Array Value}(hk:IntsAre keys.toList ((List.range vs.length).map kz)){Q:SortSt→Shared→Prop}
  (hQ:∀(p:List Nat) (st:SortSt),mW vs.length kz p→((arrOf st).map (·.2)).reverse.toList=p.map (fun i=>vs.getD i Value.none)→failedOf st=none→Q st s) :
  wpAny (model prog w) A (sortRuns'.run (SortSt.mk' oneType' (keys.zip vs.toArray).reverse #[] 7 none)) (fun r s'=>Q r.2 s') E s:=by
 have hl:=hk.length;rw [ee,aB,b6] at hl;have ki:∀i,i<vs.length→∃t,keys.toList.getD i Value.none=.int (kz i) t:=fun i hi=>by
  obtain ⟨t,e⟩:=OJ hk i (kz i) (by rw [bt,eN hi];rfl)
  exact ⟨t,by rw [ei,e];rfl⟩
 have el:(keys.zip vs.toArray).toList=(List.range vs.length).map fun i=>(keys.toList.getD i Value.none,vs.getD i Value.none):=by
  refine i9 (by simp [hl]) fun i h1 h2=>?_
  have hi:i<vs.length:=by simpa using h2
  have aX:i<keys.size:=by omega
  simp [hi,aX]
 have er:(keys.zip vs.toArray).reverse.toList=((List.range vs.length).reverse).map fun i=>(keys.toList.getD i Value.none,vs.getD i Value.none):=by rw [qz,el,List.map_reverse]
 have az:(keys.zip vs.toArray).reverse.size=vs.length:=by simp [hl]
 have lt:g8 prog w A s oneType' Bo (fun k=>∃n t,k.1=.int n t):=by rintro ⟨u,u'⟩ ⟨v,v'⟩ ⟨a,t,rfl⟩ ⟨b,t',rfl⟩ C hC;exact kat_lt_int hC
 have ok:d9 (fun k=>∃n t,k.1=.int n t) (keys.zip vs.toArray).reverse:=fun i hi=>by
  have e1:(keys.zip vs.toArray).reverse.getD i nn=(keys.zip vs.toArray).reverse.toList[i]'(by rw [ee];exact hi):=by rw [Array.getD_eq_getD_getElem?,Array.getElem?_eq_getElem hi];simp
  have e2:=b_ (fun l=>l[i]?) er;have hm:(keys.zip vs.toArray).reverse.toList[i]'(by rw [ee];exact hi)∈(keys.zip vs.toArray).reverse.toList:=dH _
  rw [e1];generalize (keys.zip vs.toArray).reverse.toList[i]'(by rw [ee];exact hi)=x at hm
  rw [er] at hm;obtain ⟨j,hj,rfl⟩:=bS.mp hm;obtain ⟨t,e⟩:=ki j (by simpa using hj)
  exact ⟨_,_,e⟩
 refine bo (EX (E:=E) (Q:=fun _ st=>Q st s) (g:=7) lt ok fun aO st pm sg ha hf=>?_) (fun r s' h'=>by obtain ⟨rfl,h'⟩:=h';exact h') fun _ _ e=>e
 obtain ⟨p,hp,ep⟩:=perm_back (qA.mp pm) _ er;have pl:p.length=vs.length:=by rw [hp.length_eq,List.length_reverse,b6]
 have A7:∀i∈p,i<vs.length:=fun i hi=>by simpa using hp.mem_iff.mp hi
 have hsz:aO.size=vs.length:=by rw [pm.size_eq,az]
 have kv:∀i (hi:i<p.length),vA Bo aO i=kz p[i]:=fun i hi=>by
  have e1:aO.getD i nn=(keys.toList.getD p[i] Value.none,vs.getD p[i] Value.none):=by
   have e2:aO.toList[i]?=some (keys.toList.getD p[i] Value.none,vs.getD p[i] Value.none):=by rw [ep,bt,bQ hi];rfl
   rw [Array.getD_eq_getD_getElem?,←zH,e2];rfl
  unfold vA;rw [e1];obtain ⟨t,e⟩:=ki p[i] (A7 _ (dH _));unfold Bo;rw [e]
 refine hQ p.reverse st ⟨(lW p).trans (hp.trans (lW _)),?_⟩ ?_ hf
 ·rw [zK]
  refine nH.mpr fun i j hi hj ij=>?_;have:=sg i j (bU _) (by omega) (by rw [az];omega)
  rw [kv i hi,kv j hj] at this;exact this
 ·rw [ha,qz,Array.toList_map,ep,bR,List.map_reverse]
  rfl
variable {n:Nat}
theorem OL(h:n<2):mW n kz (List.range n):=by
 refine ⟨List.Perm.refl _,?_⟩
 match n,h with
 | 0,_=>exact .nil
 | 1,_=>exact zM _ _
theorem OM{kA:Array Value}(h:vs.length<2)(hs:kA.size=vs.length):(((kA.zip vs.toArray).reverse).map (·.2)).reverse.toList=(List.range vs.length).map (fun i=>vs.getD i Value.none):=by
 match vs,h,hs with
 | [],_,_=>simp
 | [v],_,hs=>obtain ⟨k,rfl⟩:=Array.size_eq_one_iff.mp hs;simp
theorem ON{a:Addr}{P:PySem.Fin→Shared→Prop}(ho:s.heap.get? a=some (seqObj "list" vs.toArray n))(h1:vs.length<10000)
  (turn:∀i v,vs[i]?=some v→∀(h:Heap) (tk:Nat) (Q:aE),(∀b o,b≠a→s.heap.get? b=some o→h.get? b=some o)→(∀t cJ,Q (.int (kz i) t) {s with heap:=h,toks:=cJ})→wpAny (model prog w) A (call (.builtin "len") [v]) Q (fun _ _=>False) {s with heap:=h,toks:=tk})
  (h:∀h' tk out c p,mW vs.length kz p→(∀b o,b≠a→s.heap.get? b=some o→h'.get? b=some o)→h'.get? a=some (seqObj "list" out c)→out.toList=p.map (fun i=>vs.getD i Value.none)→P (.done (.ret .none)) {s with heap:=h',toks:=tk}) :
  wpAny (model prog w) A (ksk_tree a (.builtin "len") true) P E s:=by
 have sl:vs.length≤sizeLine:=by rw [gO];omega
 have lt:=aS ho;obtain ⟨e1,g1⟩:∃e,(s.heap.update a (Obj.mapSeq fun _=>#[])).get? a=some (seqObj "list" #[] e):=⟨_,lY ho fun _=>#[]⟩;have z1:(s.heap.update a (Obj.mapSeq fun _=>#[])).objs.size=s.heap.objs.size:=tX _ _ _;have z2:((s.heap.update a (Obj.mapSeq fun _=>#[])).push (seqObj "tuple" vs.toArray 0)).objs.size=s.heap.objs.size+1:=by rw [nI,z1]
 unfold ksk_tree;refine av (listItems_at ho rfl (av (qC ho rfl ?_ (by rw [bP];omega) (bU _))))
 refine av (seqEpoch_at g1 rfl (av (wpAny_newTuple ?_ (by show vs.length≤_;omega))))
 refine av (qD (jG ?_) (bU _));show wpAny (model prog w) A (ksk_rest a (.builtin "len") true vs.toArray e1 (.ref ((s.heap.update a (Obj.mapSeq fun _=>#[])).push (seqObj "tuple" vs.toArray 0)).objs.size)) P E {s with heap:=((s.heap.update a (Obj.mapSeq fun _=>#[])).push (seqObj "tuple" vs.toArray 0)).push (seqObj "list" #[] 0)};have gk:(((s.heap.update a (Obj.mapSeq fun _=>#[])).push (seqObj "tuple" vs.toArray 0)).push (seqObj "list" #[] 0)).get? (s.heap.objs.size+1)=some (seqObj "list" #[] 0):=by rw [←z2];exact dE _ rfl
 have up:∀b u,(s.heap.update a (Obj.mapSeq fun _=>#[])).get? b=some u→(((s.heap.update a (Obj.mapSeq fun _=>#[])).push (seqObj "tuple" vs.toArray 0)).push (seqObj "list" #[] 0)).get? b=some u:=fun b u hu=>bW _ (bW _ hu);have ga:=up a _ g1;have FP:∀b o,b≠a→s.heap.get? b=some o→(((s.heap.update a (Obj.mapSeq fun _=>#[])).push (seqObj "tuple" vs.toArray 0)).push (seqObj "list" #[] 0)).get? b=some o:=fun b o nb g=>up b o (by rw [qB _ _ _ _ nb];exact g)
 rw [z2];generalize ((s.heap.update a (Obj.mapSeq fun _=>#[])).push (seqObj "tuple" vs.toArray 0)).push (seqObj "list" #[] 0)=hp at gk ga FP;have ka:s.heap.objs.size+1≠a:=Nat.ne_of_gt (jK lt);have old:∀b o,s.heap.get? b=some o→b≠s.heap.objs.size+1:=fun b o g=>bE (jK (aS g));generalize s.heap.objs.size+1=kS at gk ka old;unfold ksk_rest;refine av (i7 ?_)
 first
  | rw [List.forIn_toArray]
  | (rw [←Array.forIn_toList];simp only [List.toList_toArray])
  | rw [←Array.forIn_toList]
 refine av (ksk_fold (fun i s'=>∃h' tk kA e,s'={s with heap:=h',toks:=tk}∧h'.get? kS=some (seqObj "list" kA e)∧h'.get? a=some (seqObj "list" #[] e1)∧(∀b o,b≠a→s.heap.get? b=some o→h'.get? b=some o)∧IntsAre kA.toList (((List.range vs.length).map kz).take i)) vs 0 _
  ⟨hp,s.toks,#[],0,rfl,gk,ga,FP,by simpa using IntsAre.nil⟩ ?step ?done)
 case step=>
  rintro j x s' hx ⟨h',tk,kA,e,rfl,ve,uT,xW,hk⟩;simp only [dF] at hk ⊢;have hj:j<vs.length:=(b9.mp hx).1;have hz:kA.size≤vs.length:=by have h1:=hk.length;rw [ee,nF,aB,b6] at h1;omega
  refine av (wpAny_attempt (bo (turn j x hx h' tk (fun v eE=>∃t cJ,v=.int (kz j) t∧eE={s with heap:=h',toks:=cJ}) xW fun t cJ=>⟨t,cJ,rfl,rfl⟩) (fun v eE he=>?_) fun _ _ hF=>hF.elim));obtain ⟨t,cJ,rfl,rfl⟩:=he
  try dsimp only
  have sb:=nK h' kS (Obj.mapSeq (·.push (.int (kz j) t)));obtain ⟨c2,fB⟩:∃c2,(h'.update kS (Obj.mapSeq (·.push (.int (kz j) t)))).get? kS=some (seqObj "list" (kA.push (.int (kz j) t)) c2):=⟨_,lY ve (·.push (.int (kz j) t))⟩;have ek:((List.range vs.length).map kz).take (j+1)=((List.range vs.length).map kz).take j++[kz j]:=by rw [List.take_add_one,bt,eN hj];rfl
  have ea:(kA.push (Value.int (kz j) t)).toList=kA.toList++[Value.int (kz j) t]:=by simp
  refine av (qC ve rfl ?_ (by rw [gO];omega) (b5 (Nat.le_of_eq (Array.size_push ..)) (by rw [gO];omega)))
  exact bG ⟨rfl,_,_,kA.push (.int (kz j) t),c2,rfl,fB,(sb.2 a ka.symm).trans uT,fun b o nb g=>(sb.2 b (old b o g)).trans (xW b o nb g),by rw [ea,ek];exact ksk_snoc hk⟩
 case done=>
  rintro s' ⟨h',tk,kA,e,rfl,ve,uT,xW,hk⟩;have cw:IntsAre kA.toList ((List.range vs.length).map kz):=by
   rw [tT (by rw [aB,b6];omega)] at hk
   exact hk
  have hsz:kA.size=vs.length:=by have h1:=cw.length;rw [ee,aB,b6] at h1;exact h1
  try dsimp only
  refine av (listItems_at ve rfl ?_);have fin:∀(st:SortSt) (p:List Nat),mW vs.length kz p→((arrOf st).map (·.2)).reverse.toList=p.map (fun i=>vs.getD i Value.none)→failedOf st=none→wpAny (model prog w) A (ksk_tail a true e1 (.ref kS) st) P E {s with heap:=h',toks:=tk}:=fun st p fp FQ hf=>by
   have sb:=nK h' kS (Obj.mapSeq fun _=>(#[]:Array Value));have uW:(h'.update kS (Obj.mapSeq fun _=>(#[]:Array Value))).get? a=some (seqObj "list" #[] e1):=(sb.2 a ka.symm).trans uT;have OO:=nK (h'.update kS (Obj.mapSeq fun _=>(#[]:Array Value))) a (Obj.mapSeq fun _=>((arrOf st).map (·.2)).reverse);obtain ⟨c2,fB⟩:∃c2,((h'.update kS (Obj.mapSeq fun _=>(#[]:Array Value))).update a (Obj.mapSeq fun _=>((arrOf st).map (·.2)).reverse)).get? a=some (seqObj "list" ((arrOf st).map (·.2)).reverse c2):=⟨_,lY uW fun _=>((arrOf st).map (·.2)).reverse⟩;have lo:((arrOf st).map (·.2)).reverse.size=vs.length:=by rw [←ee,FQ,aB,fp.pm.length_eq,b6]
   unfold ksk_tail
   try dsimp only
   refine av (qC ve rfl ?_ (by rw [hsz];omega) (bU _))
   refine av (wpAny_letGo (av (seqEpoch_at uW rfl ?_)));refine av (qC uW rfl ?_ (bU _) (by simp only [if_true];rw [lo];omega))
   rw [hf];simp only [bne_self_eq_false,wj,if_false,if_true];exact bG (h _ _ _ c2 p fp (fun b o nb g=>(OO.2 b nb).trans ((sb.2 b (old b o g)).trans (xW b o nb g))) fB FQ)
  unfold ksk_end
  try dsimp only
  simp only [if_true];refine av (i7 ?_);by_cases h2:vs.toArray.size<2
  ·rw [ae h2,ae h2]
   refine av (bG ?_);rw [StateT.run_pure];refine av (bG ?_);have len:vs.length<2:=by simpa using h2
   exact fin _ (List.range vs.length) (OL len) (OM len hsz) rfl
  ·rw [aa h2,aa h2]
   have len:2≤vs.length:=by simpa using h2
   rw [ksk_kind cw (by rw [hsz];exact len)]
   refine av (bG ?_);refine av (bo (OK (s:={s with heap:=h',toks:=tk}) (vs:=vs) (keys:=kA) (kz:=kz) cw (Q:=fun st s'=>s'={s with heap:=h',toks:=tk}∧∃p,mW vs.length kz p∧((arrOf st).map (·.2)).reverse.toList=p.map (fun i=>vs.getD i Value.none)∧failedOf st=none) fun p st a1 a2 a3=>⟨rfl,p,a1,a2,a3⟩) ?_ fun _ _ e=>e);rintro ⟨⟨⟩,st⟩ s' ⟨rfl,p,a1,a2,a3⟩;exact fin st p a1 a2 a3
end
open PySem PySem.W PyProof.Rows
section
variable {prog:Program} {w:World} {A:Around} {E:aE} {s:Shared}
theorem IsTup.to{h h':Heap}{a:Addr}{ah:Array Value}(t:IsTup h a ah)(k:∀o,h.get? a=some o→h'.get? a=some o):IsTup h' a ah:=let ⟨o,g,r⟩:=t;⟨o,k _ g,r⟩
theorem OP{l:Addr}{vs:List Value}{kz:Nat→Int}{Q:aE}(hl:s.heap.IsList l vs.toArray)(h1:vs.length<10000)(hv:∀i v,vs[i]?=some v→∃b ah,v=.ref b∧IsTup s.heap b ah∧kz i=ah.size∧ah.size<10000)
  (h:∀h' tk out c p,mW vs.length kz p→(∀b o,s.heap.get? b=some o→h'.get? b=some o)→h'.get? (s.heap.objs.size+1)=some (seqObj "list" out c)→out.toList=p.map (fun i=>vs.getD i Value.none)→Q (.ref (s.heap.objs.size+1)) {s with heap:=h',toks:=tk}) :
  wpAny (model prog w) A (call (.builtin "sorted") [.ref l] [(Str.ofString "key",.builtin "len"),(Str.ofString "reverse",.bool true)]) Q E s:=by
 have sl:vs.length≤sizeLine:=by rw [gO];omega
 refine call_function_entry_kw kind_sorted plain_sorted entry_sorted (ksk_s2 _ _ _) ?_;unfold Builtin.«sorted»;refine av (m:=checkCount "sorted" 1 1 _) (bG (av (collect_list hl (av (qD ?_ sl)) sl)));have zz:((s.heap.push (seqObj "list" #[] 0)).update s.heap.objs.size (Obj.mapSeq (·++vs.toArray))).objs.size=s.heap.objs.size+1:=by rw [tX,nI]
 have kp:∀b o,s.heap.get? b=some o→(((s.heap.push (seqObj "list" #[] 0)).update s.heap.objs.size (Obj.mapSeq (·++vs.toArray))).push (seqObj "list" vs.toArray 0)).get? b=some o:=fun b o g=>by
  have lt:=aS g;rw [lZ _ _ _ (bE (by rw [zz];exact jK lt)),qB _ _ _ _ (bE lt),lZ _ _ _ (bE lt)]
  exact g
 have gL:(((s.heap.push (seqObj "list" #[] 0)).update s.heap.objs.size (Obj.mapSeq (·++vs.toArray))).push (seqObj "list" vs.toArray 0)).get? (s.heap.objs.size+1)=some (seqObj "list" vs.toArray 0):=by rw [←zz];exact dE _ rfl
 show wpAny _ _ _ _ _ {s with heap:=((s.heap.push (seqObj "list" #[] 0)).update s.heap.objs.size (Obj.mapSeq (·++vs.toArray))).push (seqObj "list" vs.toArray 0)};rw [zz];generalize ((s.heap.push (seqObj "list" #[] 0)).update s.heap.objs.size (Obj.mapSeq (·++vs.toArray))).push (seqObj "list" vs.toArray 0)=hp at kp gL;have ne:∀b o,s.heap.get? b=some o→b≠s.heap.objs.size+1:=fun b o g=>bE (jK (aS g));refine av (jG (wpAny_call_entry_kw slot_list_sort ⟨_,gL,rfl⟩ entry_list_sort ?_ (ksk_l2 _ _ _)));rw [ksk_t5];refine ON (s:={s with heap:=hp}) (kz:=kz) gL h1 (fun i v hi h' tk Q' kk hQ=>?_) fun h' tk out c p fp kk g e=>⟨_,rfl,bG ⟨_,rfl,h h' tk out c p fp (fun b o gb=>kk b o (ne b o gb) (kp b o gb)) g e⟩⟩;obtain ⟨b,ah,rfl,t,ek,i1⟩:=hv i v hi;rw [ek] at hQ;refine len_tuple (s:={s with heap:=h',toks:=tk}) (items:=ah) (IsTup.to t fun o g=>kk b o (ne b o g) (kp b o g)) (by omega) ?_
 exact hQ _ _
end
end My
namespace L2
open PySem PySem.W PyProof.Rows My
def OQ(t:TA):TE:=fun σ H Q=>t σ H fun xs H1=>∃(l:Addr) (vs:List V) (ks:Nat→Nat),xs=[.ref l]∧H1 l=some (.lst vs)∧vs.length<10000∧(∀(i:Nat) (v:V),vs[i]?=some v→∃b ys,v=.ref b∧H1 b=some (.tup ys)∧ks i=ys.length∧ys.length<10000) ∧
 ∀(D:Addr) (p:List Nat),H1 D=none→mW vs.length (fun i=>(ks i:Int)) p→Q (.ref D) (upd H1 D (.lst (p.map fun i=>vs.getD i .aN)))
variable {X:Cx}
theorem OR{e:Expr}{es:List Expr}{t:TA}{p p2 pos Bp OS cp:Pos}{j:Nat}(ha:PA X (e::es) t)(hg:Gl X (Str.ofString "sorted"))(hm:X.mg (Str.ofString "sorted")=none)(hv:bootBuiltins (Str.ofString "sorted")=some (.builtin "sorted"))
  (OT:Gl X (Str.ofString "len")) (OU:X.mg (Str.ofString "len")=none) (OV:bootBuiltins (Str.ofString "len")=some (.builtin "len"))
  (he:backTo pos (starEach (e::es) X.env)=(false,eval e X.env)::backTo pos (starEach es X.env):=by rfl) (iF:(backTo pos (starEach (e::es) X.env)).any (·.1)=false:=by rfl) :
  PE X (.Call (.Name (Str.ofString "sorted") p) (e::es) [⟨some (Str.ofString "key"),.Name (Str.ofString "len") p2,Bp⟩,⟨some (Str.ofString "reverse"),.Constant (.bool true) j cp,OS⟩] pos) (OQ t):=by
 intro pins s σ H Q I h
 refine tJ (mw I hg hm hv ?_)
 refine callWith_kw (aF (ha pos pins s σ H _ I h) fun us s1 ⟨xs,H1,I1,r1,q1⟩=>?_) he iF
 obtain ⟨l,vs,ks,rfl,hl,h1,ju,k⟩:=q1
 obtain ⟨u,rfl,ru⟩:=vals1 r1
 cases ru
 show wpAny _ _ (evalAll [(do let v ←eval (.Name (Str.ofString "len") p2) X.env;standAt pos;pure v),(do let v ←eval (.Constant (.bool true) j cp) X.env;standAt pos;pure v)]) _ _ s1
 refine wpAny_evalAll_cons (av (mw I1 OT OU OV (av (lQ (bG ?_)))))
 refine wpAny_evalAll_cons (av (Constant_bool (av (lQ (bG ?_)))))
 refine wpAny_evalAll_nil ?_
 show wpAny _ _ (call (.builtin "sorted") [.ref l] [(Str.ofString "key",.builtin "len"),(Str.ofString "reverse",.bool true)]) _ _ s1
 obtain ⟨ah,rv,pl,hz⟩:=I1.list (.of hl)
 have rC:=rv.length
 refine OP (kz:=fun i=>(ks i:Int)) pl.isList (by omega) (fun i v hi=>?_) fun h' tk out c p fp kp g e=>?_
 ·have aX:i<vs.length:=by
   have:=(b9.mp hi).1
   omega
  have gi:vs[i]?=some vs[i]:=by simp [aX]
  obtain ⟨b,ys,eb,hb,ek,y1⟩:=ju i _ gi
  obtain ⟨u,eu,ru⟩:=rv.get gi
  rw [hi] at eu
  cases eu
  rw [eb] at ru
  cases ru
  obtain ⟨gB,r2,tp,_⟩:=I1.tuple (.of hb)
  have l2:=r2.length
  exact ⟨b,gB.toArray,rfl,tp,by rw [bP,←l2,ek],by rw [bP];omega⟩
 ·rw [←rC] at fp
  refine ⟨.ref (s1.heap.objs.size+1),_,I1.laid (t':=tk) (o:=.lst (p.map fun i=>vs.getD i .aN)) kp (lR _) ⟨?_,p.map fun i=>ah.getD i Value.none,c,?_,?_⟩,rfl,k _ p (I1.au.fresh (lR _)) fp⟩
  ·rw [aB,fp.pm.length_eq,b6]
   exact b5 (ky h1) (by decide)
  ·exact A8 rv p fun i hi=>aQ.mp (fp.pm.mem_iff.mp hi)
  ·rw [g,←e,Array.toArray_toList]
def FR:List V→Hp→VK→Prop:=fun xs H Q=>∃(a:Addr) (zs:List Int),xs=[.ref a]∧H a=some (.tup (zs.map V.int))∧zs.length<64∧∀(ws:List Int) (D:Addr),ws.Perm zs→ws.Pairwise (·≤·)→H D=none→Q (.ref D) (upd H D (.lst (ws.map V.int)))
theorem OW:eC X (.builtin "sorted") FR:=by
 intro pins s σ H xs us Q I r h;obtain ⟨a,zs,rfl,ha,uY,k⟩:=h;obtain ⟨u,rfl,ru⟩:=vals1 r;cases ru;obtain ⟨ah,rv,⟨o,g,c,n,d⟩,hz⟩:=I.tuple (.of ha);have hl:=rv.length;rw [aB] at hl;have sl:ah.length≤sizeLine:=by rw [gO];omega
 refine Calls.call_function_entry kind_sorted plain_sorted entry_sorted (args_sorted1 _) ?_;unfold Builtin.«sorted»;refine av (m:=checkCount "sorted" 1 1 _) (bG (av (wpAny_collect_seq a (.inr rfl) g c d (fun h1 k1=>av (qD ?_ sl)) (by rw [bP];exact sl))))
 have I1:Inv X pins σ H {s with heap:=h1}:=I.kept (t':=s.toks) k1;have gL:(h1.push (seqObj "list" ah.toArray 0)).get? h1.objs.size=some (seqObj "list" ah.toArray 0):=dE _ rfl;show wpAny _ _ _ _ _ {s with heap:=h1.push (seqObj "list" ah.toArray 0)};refine av (jG (wpAny_call_entry slot_list_sort ⟨_,gL,rfl⟩ entry_list_sort (list_sort_tree (s:={s with heap:=h1.push (seqObj "list" ah.toArray 0)}) gL (intsAre_of rv) (by omega) fun out iG a1 a2 a3=>⟨_,rfl,?_⟩) (args_list_sort _)))
 obtain ⟨e,he⟩:=sortedHeap_at (out:=out) gL;refine bG ⟨_,rfl,.ref h1.objs.size,_,I1.laid (t':=s.toks) (o:=.lst (iG.map .int)) (fun b u gb=>?_) (aw _) ⟨?_,out.toList,e,Bk a1,?_⟩,rfl,k iG _ a2 a3 (I1.au.fresh (aw _))⟩
 ·have lt:=aS gb
  rw [sortedHeap_old (bE lt) (by rw [nI];exact jK lt)]
  exact bW _ gb
 ·rw [aB,a2.length_eq]
  rw [gO];omega
 ·simpa using he
end L2
namespace My
open PySem PySem.W PyProof.Rows
section
variable {prog:Program} {w:World} {A:Around} {E:aE} {s:Shared} {R:Result→Shared→Prop}
def iX(s:Shared)(h:Heap):Prop:=∀b o,s.heap.get? b=some o→h.get? b=some o
def xX(prog:Program)(w:World)(A:Around)(s:Shared)(vs:List Value)(kf:Nat→Int):Prop:=∀i j v u,vs[i]?=some v→vs[j]?=some u→∀(h:Heap) (tk:Nat) (Q:aE),iX s h→(∀cJ,Q (.bool (decide (kf i<kf j))) {s with heap:=h,toks:=cJ})→wpAny (model prog w) A (richCompare .Lt v u) Q (fun _ _=>False) {s with heap:=h,toks:=tk}
variable {l:Addr} {vs:List Value} {kf:Nat→Int} {kw:List (Str×Value)}
theorem OX{I S:Addr}(hh:A.handled=none)(hl:s.heap.IsList l vs.toArray)(hI:s.heap.objs.size≤I)(hS:s.heap.objs.size≤S)(oO:S≠I)(cmp:xX prog w A.in1 s vs kf)
  (hR:∀i v h' cJ,vs[i]?=some v→(∀j,j<vs.length→kf i≤kf j∧(j<i→kf i<kf j))→iX s h'→R (.ok (.ret v)) {s with heap:=h',toks:=cJ}) :
  ∀(r j i:Nat) (h:Heap) (tk:Nat) (vb:Value) (c:Nat),vs.length-(j+1)=r→j+1≤vs.length→iX s h→h.get? S=some (seqObj "list" #[vb,vb] c)→h.IsListIter I l (j+1)→vs[i]?=some vb→i≤j→(∀j',j'≤j→kf i≤kf j'∧(j'<i→kf i<kf j'))→
   codeAny (model prog w) A (.builtin "min.loop" ⟨[.ref I,.none,.ref S],kw⟩) R {s with heap:=h,toks:=tk}:=by
 have vf:(toString "min"++toString ".loop":String)="min.loop":=by decide
 have lI:l≠I:=fun e=>by obtain ⟨o,g,_⟩:=hl;exact dm _ (cT (aS g) (e▸hI))
 have W:=Walks.list (prog:=prog) (w:=w) (A:=A.in1) hh I l lI vs.toArray;have hsz:vs.toArray.size=vs.length:=bP ..;have lk:∀{h:Heap},iX s h→h.IsList l vs.toArray:=fun{h} kp=>by obtain ⟨o,g,r⟩:=hl;exact ⟨o,kp _ _ g,r⟩
 have kI:∀{h h':Heap},iX s h→(∀b o,b∉[I]→h.get? b=some o→h'.get? b=some o)→iX s h':=fun kp k b o g=>k b o (fun z=>by rw [cg.mp z] at g;exact dm _ (cT (aS g) hI)) (kp b o g)
 have kS:∀{h:Heap} {f:Obj→Obj},iX s h→iX s (h.update S f):=fun{h f} kp b o g=>((nK h S f).2 b (fun z=>by rw [z] at g;exact dm _ (cT (aS g) hS))).trans (kp b o g)
 intro r
 induction r with
 | zero=>
  intro j i h tk vb c hr hj kp gS hit xY qQ oP;have vg:j+1=vs.length:=by omega
  refine tO wu ?_;rw [wx l_ _];show wpAny _ A.in1 (seqItems? (.ref S) >>= _) _ _ _;refine av (wpAny_seqItems gS rfl ?_);show wpAny _ A.in1 (tryCatch (pyNext (.ref I)) _ >>= _) _ _ _;refine av (t5 (W.done _ _ _ ⟨by rw [hsz,←vg];exact hit,lk kp⟩ fun h' cJ cw=>?_))
  have mX:=cw S _ (by simpa using oO) gS
  show wpAny _ A.in1 (updateSeq S (fun _=>#[]) >>= _) _ _ _;refine av (wpAny_updateSeq mX rfl (av (wpAny_letGo (bG ?_))));exact hR i vb _ _ xY (fun j' dD=>oP j' (by omega)) (kS (kI kp cw))
 | succ r ih=>
  intro j i h tk vb c hr hj kp gS hit xY qQ oP;have ba:j+1<vs.length:=by omega
  refine tO wu ?_;rw [wx l_ _];show wpAny _ A.in1 (seqItems? (.ref S) >>= _) _ _ _;refine av (wpAny_seqItems gS rfl ?_);show wpAny _ A.in1 (tryCatch (pyNext (.ref I)) _ >>= _) _ _ _;refine av (t5 (W.item (j+1) _ _ _ (by rw [hsz];exact ba) ⟨hit,lk kp⟩ fun v h' cJ hP xZ cw=>?_))
  have hv:vs[j+1]?=some v:=by simpa using hP
  have vh:=kI kp cw;have mX:=cw S _ (by simpa using oO) gS
  show wpAny _ A.in1 (tryCatch (holding [v,v] (richCompare .Lt v vb >>= _)) _ >>= _) _ _ _;refine av (t5 (jG (av (bo (cmp (j+1) i v vb hv xY h' cJ (fun a eE=>∃x4,a=.bool (decide (kf (j+1)<kf i))∧eE={s with heap:=h',toks:=x4}) vh fun x4=>⟨x4,rfl,rfl⟩) (fun a eE he=>?_) fun _ _ hF=>hF.elim))));obtain ⟨x4,rfl,rfl⟩:=he;refine av (jG (nz ?_));refine av (wpAny_letGo (bG ?_));by_cases ji:kf (j+1)<kf i
  ·obtain ⟨c2,fB⟩:∃c2,(h'.update S (Obj.mapSeq fun _=>#[v,v])).get? S=some (seqObj "list" #[v,v] c2):=⟨_,lY mX fun _=>#[v,v]⟩
   simp only [ji,decide_true,if_true];refine av (wpAny_updateSeq mX rfl (av (wpAny_letGo ?_)));rw [vf];obtain ⟨oI,g1,g2⟩:=id xZ.1;refine bG ⟨plainId_quiet l_ _,ih (j+1) (j+1) _ _ v c2 (by omega) ba (kS vh) fB ⟨oI,((nK h' S _).2 I oO.symm).trans g1,g2⟩ hv (aw _) fun j' dD=>?_⟩
   by_cases e:j'=j+1
   ·subst e
    exact ⟨by omega,fun _=>by omega⟩
   ·have OY:=oP j' (by omega)
    have Vx:=OY.1;exact ⟨by omega,fun _=>by omega⟩
  ·simp only [ji,decide_false,wj,if_false]
   refine av (wpAny_letGo ?_);rw [vf];refine bG ⟨plainId_quiet l_ _,ih (j+1) i _ _ vb c (by omega) ba vh mX xZ.1 xY (by omega) fun j' dD=>?_⟩
   by_cases e:j'=j+1
   ·subst e
    exact ⟨by omega,fun _=>by omega⟩
   ·exact oP j' (by omega)
theorem FT{dflt:Option Value}{Q:aE}(hh:A.handled=none)(ha:argsOk "min" ⟨[.ref l],kw⟩)(hb:Builtin.Builtins.bindParams "min" ["key","default"] 0 ⟨[],kw⟩=pure [none,dflt])
  (hl:s.heap.IsList l vs.toArray) (cmp:xX prog w A.in1 s vs kf) (uH:0<vs.length∨∃d,dflt=some d)
  (hQ:∀i v h' cJ,vs[i]?=some v→(∀j,j<vs.length→kf i≤kf j∧(j<i→kf i<kf j))→iX s h'→Q v {s with heap:=h',toks:=cJ})
  (hD:vs.length=0→∀d,dflt=some d→∀h' cJ,iX s h'→Q d {s with heap:=h',toks:=cJ}) :
  wpAny (model prog w) A (call (.builtin "min") [.ref l] kw) Q E s:=by
 have vf:(toString "min"++toString ".loop":String)="min.loop":=by decide
 obtain ⟨ol,OZ,_⟩:=id hl;have rC:l<s.heap.objs.size:=aS OZ;refine kmk_tree PySem.F.kind_min PySem.F.plain_min PySem.F.entry_min ha ?_;show wpAny _ A.in1 (Builtin.Builtins.bindParams "min" ["key","default"] 0 ⟨[],kw⟩ >>= _) _ _ s;refine av (wpAny_of_eq hb ?_);refine av (bG ?_);refine av (v_ hl ?_);refine av (qD ?_ (bU _));rw [vf];have hS:(s.heap.push {cls:=.type "list_iterator",data:=.fields #[.ref l,.int 0 0]}).objs.size=s.heap.objs.size+1:=nI ..;have gI:((s.heap.push {cls:=.type "list_iterator",data:=.fields #[.ref l,.int 0 0]}).push (seqObj "list" #[] 0)).get? s.heap.objs.size=some {cls:=.type "list_iterator",data:=.fields #[.ref l,.int 0 0]}:=bW _ (dE _ rfl);have gS:((s.heap.push {cls:=.type "list_iterator",data:=.fields #[.ref l,.int 0 0]}).push (seqObj "list" #[] 0)).get? (s.heap.objs.size+1)=some (seqObj "list" #[] 0):=by rw [←hS];exact dE _ rfl
 have kp:iX s ((s.heap.push {cls:=.type "list_iterator",data:=.fields #[.ref l,.int 0 0]}).push (seqObj "list" #[] 0)):=fun b o e=>bW _ (bW _ e);refine bG ⟨plainId_quiet l_ _,?_⟩;rw [hS];show codeAny _ _ _ _ {s with heap:=(s.heap.push {cls:=.type "list_iterator",data:=.fields #[.ref l,.int 0 0]}).push (seqObj "list" #[] 0)};generalize (s.heap.push {cls:=.type "list_iterator",data:=.fields #[.ref l,.int 0 0]}).push (seqObj "list" #[] 0)=hp at gI gS kp;obtain ⟨S,eS⟩:∃S,S=s.heap.objs.size+1:=⟨_,rfl⟩;obtain ⟨I,eI⟩:∃I,I=s.heap.objs.size:=⟨_,rfl⟩;have oO:S≠I:=by rw [eS,eI];exact Nat.ne_of_gt (Nat.lt_succ_self _)
 have FU:s.heap.objs.size≤I:=Nat.le_of_eq eI.symm;have rD:s.heap.objs.size≤S:=by rw [eS];exact lR _
 have O0:l≠I:=by rw [eI];exact bE rC
 rw [←eS] at gS ⊢;rw [←eI] at gI ⊢;have W:=Walks.list (prog:=prog) (w:=w) (A:=A.in1) hh I l O0 vs.toArray;have hsz:vs.toArray.size=vs.length:=bP ..;have lk:hp.IsList l vs.toArray:=by obtain ⟨o,g,r⟩:=hl;exact ⟨o,kp _ _ g,r⟩
 have kI:∀{h':Heap},(∀b o,b∉[I]→hp.get? b=some o→h'.get? b=some o)→iX s h':=fun k b o g=>k b o (fun z=>by rw [cg.mp z] at g;exact dm _ (cT (aS g) FU)) (kp b o g)
 by_cases hz:0<vs.length
 ·refine tO wu ?_
  rw [wx l_ _];show wpAny _ A.in1 (seqItems? (.ref S) >>= _) _ _ _;refine av (wpAny_seqItems gS rfl ?_);show wpAny _ A.in1 (tryCatch (pyNext (.ref I)) _ >>= _) _ _ _;refine av (t5 (W.item 0 _ _ _ (by rw [hsz];exact hz) ⟨⟨_,gI,rfl,rfl⟩,lk⟩ fun v h' cJ hP xZ cw=>?_))
  have hv:vs[0]?=some v:=by simpa using hP
  obtain ⟨O1,O2,O3⟩:=id xZ.1;have mX:=cw S _ (by simpa using oO) gS
  have vh:=kI cw;obtain ⟨c2,fB⟩:∃c2,(h'.update S (Obj.mapSeq fun _=>#[v,v])).get? S=some (seqObj "list" #[v,v] c2):=⟨_,lY mX fun _=>#[v,v]⟩;show wpAny _ A.in1 (updateSeq S (fun _=>#[v,v]) >>= _) _ _ _;refine av (wpAny_updateSeq mX rfl ?_);rw [vf];refine bG ⟨plainId_quiet l_ _,OX hh hl FU rD oO cmp hQ _ 0 0 _ _ v c2 rfl hz (fun b o g=>((nK h' S _).2 b (fun z=>?_)).trans (vh b o g)) fB ⟨O1,((nK h' S _).2 I oO.symm).trans O2,O3⟩ hv (aw _) fun j' dD=>?_⟩
  ·rw [z] at g
   exact dm _ (cT (aS g) rD)
  ·have e:j'=0:=by omega
   subst e;exact ⟨iy _,fun h=>absurd h (dm _)⟩
 ·have z0:vs.length=0:=by omega
  obtain ⟨d,rfl⟩:∃d,dflt=some d:=uH.elim (fun h=>absurd h hz) id;refine tO wu ?_;rw [wx l_ _];show wpAny _ A.in1 (seqItems? (.ref S) >>= _) _ _ _;refine av (wpAny_seqItems gS rfl ?_);show wpAny _ A.in1 (tryCatch (pyNext (.ref I)) _ >>= _) _ _ _;refine av (t5 (W.done _ _ _ ⟨⟨_,gI,rfl,by rw [hsz,z0];rfl⟩,lk⟩ fun h' cJ cw=>?_))
  exact av (i7 (bG (hD z0 d rfl h' cJ (kI cw))))
end
open PySem PySem.W PyProof.Rows L2
theorem O4(a v:Value):argsOk "min" ⟨[a],[(Str.ofString "default",v)]⟩:=by unfold argsOk;kernel_rfl
theorem O5(a:Value):argsOk "min" ⟨[a],[]⟩:=by unfold argsOk;kernel_rfl
section
variable {prog:Program} {w:World} {A:Around} {s:Shared}
variable {vs:List Value}
theorem O6{kf:Nat→Int}(hv:∀(i:Nat) (v:Value),vs[i]?=some v→∃t,v=Value.int (kf i) t):xX prog w A s vs kf:=fun i j v u hi hj h tk Q kp hQ=>by obtain ⟨t,rfl⟩:=hv i v hi;obtain ⟨t',rfl⟩:=hv j u hj;exact HT.DX A _ _ _ _ _ prog w _ Q (hQ tk)
theorem O7{x y:Nat→Int}(hu:A.units<cLine)(hv:∀i v,vs[i]?=some v→dO s.heap v (x i) (y i)∧0≤y i∧y i<1000):xX prog w A s vs (fun i=>x i*1000+y i):=fun i j v u hi hj h tk Q kp hQ=>by
 obtain ⟨⟨a,o,t1,t2,e,rfl,g,c,d⟩,y0,y1⟩:=hv i v hi;obtain ⟨⟨b,o',t3,t4,e',rfl,g',c',d'⟩,y2,y3⟩:=hv j u hj;have:=hQ tk;rw [show decide (x i*1000+y i<x j*1000+y j)=HT.lexLt [x i,y i] [x j,y j] from by
  rw [HT.Ai,HT.Ai];by_cases q:x i=x j
  ·rw [ae q]
   by_cases q':y i=y j
   ·rw [ae q']
    exact bV (by omega)
   ·rw [aa q']
    exact tW.mpr (by omega)
  ·rw [aa q]
   exact tW.mpr (by omega)] at this
 exact HT.KI (s:={s with heap:=h,toks:=tk}) (items:=#[.int (x i) t1,.int (y i) t2]) (items2:=#[.int (x j) t3,.int (y j) t4]) ⟨o,kp _ _ g,c,e,d⟩ ⟨o',kp _ _ g',c',e',d'⟩ (.cons _ _ (.cons _ _ .nil)) (.cons _ _ (.cons _ _ .nil)) hu this
end
end My
namespace L2
open PySem PySem.W PyProof.Rows My
def Bq(zs:List Int)(d m:Int):Prop:=(zs=[]∧m=d)∨(m∈zs∧∀z∈zs,m≤z)
def FV(t:TA)(td:TE):TE:=fun σ H Q=>t σ H fun xs H1=>td σ H1 fun y H2=>∃(l:Addr) (zs:List Int) (d:Int),xs=[.ref l]∧y=.int d∧H2 l=some (.lst (zs.map V.int))∧zs.length≤10000∧∀m,Bq zs d m→Q (.int m) H2
variable {X:Cx}
theorem O8{e de:Expr}{es:List Expr}{t:TA}{td:TE}{p pos Bp:Pos}(hc:X.calm=true)(ha:PA X (e::es) t)(hd:PE X de td)(hg:Gl X (Str.ofString "min"))(hm:X.mg (Str.ofString "min")=none)(hv:bootBuiltins (Str.ofString "min")=some (.builtin "min"))
  (he:backTo pos (starEach (e::es) X.env)=(false,eval e X.env)::backTo pos (starEach es X.env):=by rfl) (iF:(backTo pos (starEach (e::es) X.env)).any (·.1)=false:=by rfl) :
  PE X (.Call (.Name (Str.ofString "min") p) (e::es) [⟨some (Str.ofString "default"),de,Bp⟩] pos) (FV t td):=by
 intro pins s σ H Q I h
 refine tJ (mw I hg hm hv ?_)
 refine callWith_kw (aF (ha pos pins s σ H _ I h) fun us s1 ⟨xs,H1,I1,r1,q1⟩=>?_) he iF
 show wpAny _ _ (evalAll [(do let v ←eval de X.env;standAt pos;pure v)]) _ _ s1
 refine wpAny_evalAll_cons (av (aF (hd pins s1 σ H1 _ I1 q1) fun u s2 ⟨y,H2,I2,r2,q2⟩=>av (lQ (bG (wpAny_evalAll_nil ?_)))))
 obtain ⟨l,zs,d,rfl,rfl,hl,h1,k⟩:=q2
 obtain ⟨u',rfl,ru⟩:=vals1 r1
 cases ru
 obtain ⟨Br,rfl⟩:=r2
 show wpAny _ _ (call (.builtin "min") [.ref l] [(Str.ofString "default",.int d Br)]) _ _ s2
 obtain ⟨ah,rv,pl,hz⟩:=I2.list (.of hl)
 have rC:=rv.length
 rw [aB] at rC
 have at':∀(i:Nat) (v:Value),ah[i]?=some v→∃t,v=Value.int (zs.getD i 0) t:=fun i v hi=>by
  have aX:i<zs.length:=by
   have:=(b9.mp hi).1
   omega
  obtain ⟨u,eu,ru⟩:=rv.get (i:=i) (x:=.int (zs[i])) (by simp [aX])
  rw [hi] at eu
  cases eu
  obtain ⟨t,rfl⟩:=ru
  exact ⟨t,by rw [ei,bQ aX];rfl⟩
 refine FT (kf:=fun i=>zs.getD i 0) (dflt:=some (.int d Br)) (I2.ok.hd hc) (O4 _ _) rfl pl.isList (O6 at') (.inr ⟨_,rfl⟩) (fun i v h' cJ hi best kp=>?_) (fun z0 d' e' h' cJ kp=>?_)
 ·obtain ⟨t,rfl⟩:=at' i v hi
  have aX:i<zs.length:=by
   have:=(b9.mp hi).1
   omega
  have gd:∀j (hj:j<zs.length),zs.getD j 0=zs[j]:=fun j hj=>by rw [ei,bQ hj];rfl
  refine ⟨.int (zs.getD i 0),H2,I2.kept (t':=cJ) kp,⟨t,rfl⟩,k _ (.inr ⟨by rw [gd i aX];exact dH _,fun z hz=>?_⟩)⟩
  obtain ⟨j,hj,rfl⟩:=qw hz
  have:=(best j (by omega)).1
  rw [gd j hj] at this
  exact this
 ·cases e'
  have z1:zs=[]:=zL.mp (by omega)
  exact ⟨.int d,H2,I2.kept (t':=cJ) kp,⟨Br,rfl⟩,k _ (.inl ⟨z1,rfl⟩)⟩
def O9:List V→Hp→VK→Prop:=fun xs H Q=>∃(l:Addr) (vs:List V) (x y:Nat→Int),xs=[.ref l]∧H l=some (.lst vs)∧0<vs.length∧(∀(i:Nat) (v:V),vs[i]?=some v→(∃b,v=.ref b∧H b=some (.tup [.int (x i),.int (y i)]))∧0≤y i∧y i<1000) ∧
 ∀(i:Nat) (v:V),vs[i]?=some v→(∀j,j<vs.length→x i*1000+y i≤x j*1000+y j)→Q v H
theorem O_(hc:X.calm=true)(hu:X.A.units+64<cLine):eC X (.builtin "min") O9:=by
 intro pins s σ H xs us Q I r h;obtain ⟨l,vs,x,y,rfl,hl,h0,hv,k⟩:=h;obtain ⟨u,rfl,ru⟩:=vals1 r;cases ru;obtain ⟨ah,rv,pl,hz⟩:=I.list (.of hl);have rC:=rv.length;have at':∀i v,ah[i]?=some v→dO s.heap v (x i) (y i)∧0≤y i∧y i<1000:=fun i v hi=>by
  have aX:i<vs.length:=by have:=(b9.mp hi).1;omega
  have gi:vs[i]?=some vs[i]:=by simp [aX]
  obtain ⟨⟨b,eb,hb⟩,A9⟩:=hv i _ gi;obtain ⟨u,eu,ru⟩:=rv.get gi;rw [hi] at eu;cases eu;rw [eb] at ru;cases ru;obtain ⟨_,gB,r2,o,g,cl,e,d⟩:=(show bX X.prog X.w H s.heap b (.tup [.int (x i),.int (y i)]) from I.au b _ hb);obtain ⟨u1,u2,rfl,q1,q2⟩:=vals2 r2;obtain ⟨t1,rfl⟩:=q1;obtain ⟨t2,rfl⟩:=q2;exact ⟨⟨b,o,t1,t2,e,rfl,g,cl,d⟩,A9⟩
 have Pa:X.A.in1.units<cLine:=by show X.A.units+1<cLine;omega
 refine FT (kf:=fun i=>x i*1000+y i) (dflt:=none) (I.ok.hd hc) (O5 _) rfl pl.isList (O7 Pa at') (.inl (by omega)) (fun i v h' cJ hi best kp=>?_) (fun z0=>by omega)
 have aX:i<vs.length:=by have:=(b9.mp hi).1;omega
 have gi:vs[i]?=some vs[i]:=by simp [aX]
 obtain ⟨u,eu,ru⟩:=rv.get gi;rw [hi] at eu;cases eu;exact ⟨vs[i],H,I.kept (t':=cJ) kp,ru,k i _ gi fun j hj=>(best j (by omega)).1⟩
end L2
namespace My
open PySem L2
theorem Pb{k:Nat}(h:k≤1000):k≤sizeLine:=b5 h (by decide)
def Pc:Sp:=fun vs H Q _=>∃(d:Addr) (done:List Int) (p:Int),vs=[.ref d,.int p]∧H d=some (.tup (done.map V.int))∧done.length≤60 ∧
 ∀(H':Hp) (t:Addr) (ws:List Int),ws.Perm (done++[p])→ws.Pairwise (·≤·)→H t=none→ai H H'→H' t=some (.tup (ws.map V.int))→Q (.ref t) H'
def a9:Nat→List (List Nat)
 | 0=>[[]]
 | k+1=>a9 k++(a9 k).map (·++[k])
theorem Bs:∀n,(a9 n).length=2 ^ n
 | 0=>rfl
 | n+1=>by unfold a9;rw [dh,aB,Bs n,Nat.pow_succ];omega
theorem cQ:∀{n:Nat} {q:List Nat},q∈a9 n↔q.Pairwise (· < ·)∧∀x∈q,x<n
 | 0,q=>by
  show q∈[[]]↔_;rw [cg];constructor
  ·rintro rfl
   exact ⟨.nil,fun x h=>by cases h⟩
  ·rintro ⟨_,h⟩
   cases q with
   | nil=>rfl
   | cons a _=>exact absurd (h a dB) (tU _)
 | n+1,q=>by
  show q∈a9 n++(a9 n).map (·++[n])↔_;rw [dQ,bS];constructor
  ·rintro (h | ⟨p,h,rfl⟩)
   ·obtain ⟨h1,h2⟩:=cQ.mp h
    exact ⟨h1,fun x hx=>by have:=h2 x hx;omega⟩
   ·obtain ⟨h1,h2⟩:=cQ.mp h
    refine ⟨tR.mpr ⟨h1,zM _ _,fun a ha b hb=>?_⟩,fun x hx=>?_⟩
    ·rw [cg.mp hb]
     exact h2 a ha
    ·rcases dQ.mp hx with hx | hx
     ·have:=h2 x hx
      omega
     ·rw [cg.mp hx]
      omega
  ·rintro ⟨h1,h2⟩
   by_cases hn:n∈q
   ·right
    obtain ⟨a,b,rfl⟩:=List.append_of_mem hn;obtain ⟨p1,p2,p3⟩:=tR.mp h1;have b0:b=[]:=by
     cases b with
     | nil=>rfl
     | cons c b=>
      have c1:=(qI.mp p2).1 c dB;have c2:=h2 c (by simp)
      omega
    subst b0;exact ⟨a,cQ.mpr ⟨p1,fun x hx=>p3 x hx n dB⟩,rfl⟩
   ·left
    refine cQ.mpr ⟨h1,fun x hx=>?_⟩;have:=h2 x hx;have:x≠n:=fun e=>hn (e▸hx);omega
variable {n:Nat}
theorem vi{q:List Nat}(h1:q.Pairwise (· < ·))(h2:∀x∈q,x<n):q.length≤n:=by
 have:=(dr (n:=n));have sub:q ⊆ List.range n:=fun x hx=>aQ.mpr (h2 x hx);have nd:q.Nodup:=h1.imp fun h=>bE h;have:=nd.length_le_of_subset sub
 rwa [b6] at this
def iY(H:Hp)(xs:List V)(qs:List (List Nat)):Prop:=xs.length=qs.length∧∀(i:Nat) (v:V) (q:List Nat),xs[i]?=some v→qs[i]?=some q→∃b,v=.ref b∧H b=some (.tup (q.map fun k:Nat=>V.int (k:Int)))
variable {H:Hp} {xs:List V} {qs:List (List Nat)}
theorem iY.mono{H':Hp}(h:iY H xs qs)(s:ai H H'):iY H' xs qs:=⟨h.1,fun i v q h1 h2=>by obtain ⟨b,e,g⟩:=h.2 i v q h1 h2;exact ⟨b,e,s _ _ g⟩⟩
theorem iY.cat{ys:List V}{rs:List (List Nat)}(h:iY H xs qs)(h':iY H ys rs):iY H (xs++ys) (qs++rs):=⟨by rw [dh,dh,h.1,h'.1],fun i v q h1 h2=>by
 by_cases z:i<xs.length
 ·rw [ir z] at h1
  rw [ir (by have:=h.1;omega)] at h2
  exact h.2 i v q h1 h2
 ·rw [iq (by omega)] at h1
  rw [iq (by have:=h.1;omega),←h.1] at h2
  exact h'.2 _ v q h1 h2⟩
def Pd:Sp:=fun vs H Q _=>∃n:Nat,vs=[.int (n:Int)]∧n≤9∧∀(D:Addr) (xs:List V) (H':Hp),ai H H'→H D=none→H' D=some (.lst xs)→iY H' xs (a9 n)→Q (.ref D) H'
def FW(n:Nat)(L:ax)(done:List Nat)(p c:Nat):Prop:=∃f,fF n L f∧j_ n f done p c
open Classical in
noncomputable def bJ (n:Nat) (L:ax) (done:List Nat) (p:Nat):Int:=if h:∃c,FW n L done p c then ((choose h:Nat):Int)*(choose h:Nat)+3*(choose h:Nat)+1 else 0
variable {p:Nat}
theorem Bt{L:ax}{f:Nat→List Nat}{done:List Nat}{c:Nat}(nb:fF n L f)(h:j_ n f done p c):(c:Int)*c+3*c+1=bJ n L done p:=by have e:∃c,FW n L done p c:=⟨c,f,nb,h⟩;unfold bJ;rw [dif_pos e];obtain ⟨g,bT,h'⟩:=Classical.choose_spec e;rw [j_.same nb bT h h']
def aK(n:Nat)(done:List Nat):List Nat:=(List.range n).filter fun p=>!decide (p∈done)
def aH:List Nat→Nat→List Nat
 | [],p=>[p]
 | x::l,p=>if p<x then p::x::l else x::aH l p
theorem fI:∀{l:List Nat} {p q:Nat},q∈aH l p↔q=p∨q∈l
 | [],p,q=>by simp [aH]
 | x::l,p,q=>by
  unfold aH
  split
  ·simp
  ·rw [b3,fI,b3]
   constructor
   ·rintro (h | h | h)
    ·exact .inr (.inl h)
    ·exact .inl h
    ·exact .inr (.inr h)
   ·rintro (h | h | h)
    ·exact .inr (.inl h)
    ·exact .inl h
    ·exact .inr (.inr h)
theorem kd:∀{l:List Nat} {p:Nat},l.Pairwise (· < ·)→p∉l→(aH l p).Pairwise (· < ·)
 | [],p,_,_=>zM _ _
 | x::l,p,h,hp=>by
  obtain ⟨h1,h2⟩:=qI.mp h;unfold aH
  split
  ·rename_i lt
   exact qI.mpr ⟨fun a ha=>by
    rcases b3.mp ha with rfl | ha;·exact lt
    ·have:=h1 a ha
     omega,h⟩
  ·rename_i lt
   have px:p≠x:=fun e=>hp (e▸dB);refine qI.mpr ⟨fun a ha=>?_,kd h2 fun z=>hp (cB _ z)⟩;rcases fI.mp ha with rfl | ha;·omega
   ·exact h1 a ha
theorem oQ:∀{l:List Nat} {p:Nat},(aH l p).length=l.length+1
 | [],p=>rfl
 | x::l,p=>by
  unfold aH
  split
  ·rfl
  ·rw [cL,oQ,cL]
theorem FX{done:List Nat}{ws:List Int}(up:done.Pairwise (· < ·))(hp:p∉done)(pm:ws.Perm (done.map iN++[(p:Int)]))(so:ws.Pairwise (·≤·)):ws=(aH done p).map iN:=by
 obtain ⟨vs,pv,rfl⟩:=perm_back pm (done++[p]) (by rw [dR];rfl)
 have nd:(done++[p]).Nodup:=by
  rw [l5];refine ⟨up.imp fun h=>bE h,by simp,fun a ha b hb e=>?_⟩
  rw [cg] at hb;subst hb;subst e;exact hp ha
 have vu:vs.Pairwise (· < ·):=Ov pv nd so;rw [FE vu (kd up hp) fun q=>by rw [pv.mem_iff,fI,dQ,cg];exact Or.comm]
def vj(done:List Nat):V→Bool
 | .int z=>!decide (z.toNat∈done)
 | _=>false
theorem Pe(done:List Nat)(q:Nat):vj done (.int (0+(q:Int))) = !kL (.int (0+(q:Int))) (done.map fun k:Nat=>V.int (k:Int)):=by rw [nM,xQ];show (!decide (((q:Nat):Int).toNat∈done))=_;rw [cU]
theorem Pf(n:Nat)(done:List Nat):((List.range n).map fun i:Nat=>V.int (0+(i:Int))).filter (vj done)=(aK n done).map fun k:Nat=>V.int (k:Int):=by
 rw [List.filter_map];unfold aK;rw [show (List.range n).filter (vj done ∘ fun i:Nat=>V.int (0+(i:Int)))=(List.range n).filter (fun p=>!decide (p∈done)) from List.filter_congr fun q _=>by show vj done (.int (0+(q:Int)))=_;rw [nM];show (!decide (((q:Nat):Int).toNat∈done))=_;rw [cU]]
 exact fj fun q _=>by rw [nM]
def fJ(q:List Nat):List Key:=q.map fun k:Nat=>.inl (k:Int)
def FY(H:Hp)(n:Nat)(L:ax)(W:List Nat→Int)(done:List Nat)(xs:List V):Prop:=xs.length=(aK n done).length∧∀(i:Nat) (v:V) (p:Nat),xs[i]?=some v→(aK n done)[i]?=some p→∃b,v=.ref b∧H b=some (.tup [.int (bJ n L done p+W (aH done p)),.int (p:Int)])
def Pg:Sp:=fun vs H Q _=>∃(tp d wo:Addr) (n:Nat) (L:ax) (done:List Nat) (kvs:List (List Key×V)) (W:List Nat→Int),vs=[.ref tp,.ref d,.ref wo]∧eY H tp n L∧cA n L∧n≤9∧H d=some (.tup (done.map fun k:Nat=>V.int (k:Int)))∧done∈a9 n∧H wo=some (.dT kvs) ∧
 (∀p,p<n→p∉done→eZ kvs (fJ (aH done p))=some (.int (W (aH done p))))∧∀(H':Hp) (D:Addr) (xs:List V),ai H H'→H' D=some (.lst xs)→FY H' n L W done xs→Q (.ref D) H'
end My
namespace L2
open PySem PySem.Spec PyProof.Rows My
variable {K:aC} {Z:ax}
theorem Ph{a:Addr}{us:List V}{H1:Hp}(h:H1 a=some (.lst us))(hZ:bu H1 us Z):Fz (mC K a) Z H1:=by
 have js:jY (mC K a) us H1:=mO (.of h);refine ⟨fun i Hc s hi=>js.go i Hc s (by rw [hZ.1];exact hi),fun i Hc v H' s y=>?_,fun i Hc s hi=>js.stop i Hc s (by rw [hZ.1];exact hi)⟩
 obtain ⟨rfl,hx⟩:=js.cV i Hc v H' s y;refine ⟨ai.refl _,fun z hz=>?_⟩;have hi:i<us.length:=by rw [hZ.1];exact (b9.mp hz).1
 obtain ⟨b,e,g⟩:=hZ.2 i v z (hx hi) hz;exact ⟨b,e,s _ _ g⟩
theorem Pj{wi:TI}{ρ:St→St}{te:TE}{σ:St}{H:Hp}{Q:VK}(eU:∀R:It→Hp→Prop,(∀J H1,ai H H1→Fz J Z H1→R J H1)→wi σ H R)(hn:Z.length<sizeLine)
  (step:∀z∈Z,∀(Hc:Hp) (R:VK),R (.int z.1) Hc→te (some (.int z.1)::some (.int z.2)::ρ σ) Hc R)
  (fin:∀D Hc,H D=none→ai H Hc→Hc D=some (.lst ((Z.map (·.1)).map V.int))→Q (.ref D) Hc):kW K wi ρ (fun _ H Q=>Q true H) te σ H Q:=by
 refine eU _ fun J H1 s1 js=>?_;intro D nD;refine ⟨fun i m us Hc=>m=Z.length-i∧i≤Z.length∧Hc D=some (.lst us)∧ai H1 Hc∧us.length≤i∧us=((Z.take i).map (·.1)).map V.int,⟨_,rfl,bU _,ar,dW (ai.refl H1) nD,aw _,rfl⟩,?_⟩;rintro i m us Hc ⟨rfl,hi,eD,sH,lu,hL⟩;refine ⟨eD,?_⟩;by_cases ba:i<Z.length
 ·refine .inr ⟨js.go i Hc sH ba,fun v H' hy=>?_⟩
  obtain ⟨s',k⟩:=js.cV i Hc v H' sH hy;obtain ⟨T,rfl,eT⟩:=k Z[i] (by simp [ba])
  have tk:Z.take (i+1)=Z.take i++[Z[i]]:=by rw [l6,bQ ba];rfl
  have mz:Z[i]∈Z:=dH ba;generalize Z[i]=z at eT tk mz;refine ⟨T,_,_,rfl,.of eT,?_⟩;dsimp only;rw [ae rfl];refine step z mz _ _ ?_;refine ⟨s' _ _ eD,by omega,Z.length-(i+1),by omega,rfl,ba,ar,dW (sH.trans s') nD,by simp;omega,?_⟩
  rw [tk,dR,dR,←hL];rfl
 ·have e:i=Z.length:=by omega
  subst e;rw [jJ] at hL;subst hL;exact .inl ⟨js.stop _ Hc sH (aw _),fin D Hc (none_of s1 nD) (s1.trans sH) eD⟩
end L2
namespace My
open PySem L2
def oR(d:Int):List Int→Int
 | []=>d
 | z::zs=>zs.foldl min z
theorem fold_min:∀(zs:List Int) (z:Int),zs.foldl min z∈z::zs∧∀y∈z::zs,zs.foldl min z≤y
 | [],z=>⟨dB,fun y hy=>by rw [cg.mp hy];exact iy _⟩
 | x::zs,z=>by
  obtain ⟨h1,h2⟩:=fold_min zs (min z x);show zs.foldl min (min z x)∈_∧_;constructor
  ·rcases b3.mp h1 with e | h
   ·rw [e]
    by_cases q:z≤x
    ·rw [Int.min_eq_left q]
     exact dB
    ·rw [Int.min_eq_right (by omega)]
     exact cB _ dB
   ·exact cB _ (cB _ h)
  ·intro y hy
   have h0:=h2 _ dB;rcases b3.mp hy with e | hy
   ·rw [e]
    exact cF h0 (Int.min_le_left _ _)
   ·rcases b3.mp hy with e | hy
    ·rw [e]
     exact cF h0 (Int.min_le_right _ _)
    ·exact h2 y (cB _ hy)
variable {zs:List Int}
theorem Pk{d m:Int}(h:Bq zs d m):m=oR d zs:=by
 rcases h with ⟨rfl,rfl⟩ | ⟨h1,h2⟩;·rfl
 ·cases zs with
  | nil=>cases h1
  | cons z zs=>obtain ⟨f1,f2⟩:=fold_min zs z;exact Int.le_antisymm (h2 _ f1) (f2 _ h1)
noncomputable def wF (n:Nat) (L:ax):Nat→List Nat→Int
 | 0,_=>0
 | k+1,S=>oR 0 ((aK n S).map fun p=>bJ n L S p+wF n L k (aH S p))
noncomputable def wW (n:Nat) (L:ax) (S:List Nat):Int:=wF n L (n-S.length) S
variable {n:Nat} {S:List Nat}
theorem FZ(h:S∈a9 n)(hl:n≤S.length):aK n S=[]:=by
 obtain ⟨h1,h2⟩:=cQ.mp h;refine List.eq_nil_iff_forall_not_mem.mpr fun p hp=>?_;obtain ⟨p1,p2⟩:=bF.mp hp;have pn:=aQ.mp p1;have pS:p∉S:=by simpa using p2
 have up:=kd h1 pS;have:=vi (n:=n) up fun x hx=>by
  rcases fI.mp hx with rfl | hx;·exact pn
  ·exact h2 x hx
 rw [oQ] at this;omega
variable {L:ax}
theorem rE(h:S∈a9 n):wW n L S=oR 0 ((aK n S).map fun p=>bJ n L S p+wW n L (aH S p)):=by
 unfold wW;by_cases hl:S.length<n
 ·obtain ⟨k,hk⟩:∃k,n-S.length=k+1:=⟨n-S.length-1,by omega⟩
  rw [hk];show oR 0 _=_
  congr 1
  refine fj fun p hp=>?_;rw [oQ,show n-(S.length+1)=k by omega]
 ·rw [FZ h (by omega),show n-S.length=0 by omega]
  rfl
theorem F0{a b:List Nat}(h:fJ a=fJ b):a=b:=by
 have h1:∀l:List Nat,(fJ l).map (fun k=>match k with | .inl z=>z.toNat | .inr _=>0)=l:=fun l=>by
  unfold fJ
  rw [bR]
  conv=>rhs;rw [←l7 l]
  exact fj fun k _=>cU k
 rw [←h1 a,←h1 b,h]
def wD(W:List Nat→Int)(qs:List (List Nat)):List (List Key×V):=qs.map fun q=>(fJ q,.int (W q))
theorem Bu(W:List Nat→Int):∀{qs:List (List Nat)} {q:List Nat},q∈qs→eZ (wD W qs) (fJ q)=some (.int (W q))
 | [],_,h=>by cases h
 | r::qs,q,h=>by
  by_cases e:r=q
  ·subst e
   exact u4 rfl
  ·show eZ ((fJ r,V.int (W r))::wD W qs) (fJ q)=_
   rw [u5 fun z=>e (F0 z)];exact Bu W ((b3.mp h).resolve_left fun z=>e z.symm)
variable {qs:List (List Nat)} {q:List Nat}
theorem Pl(W:List Nat→Int)(h:q∉qs):putK (wD W qs) (fJ q) (.int (W q))=wD W (qs++[q]):=by
 unfold putK;rw [aa fun z=>?_]
 ·unfold wD
  rw [dR];rfl
 ·obtain ⟨kv,hm,e⟩:=tY.mp z
  obtain ⟨r,hr,rfl⟩:=bS.mp hm;exact h (F0 (d7 e)▸hr)
theorem Bv:∀n,(a9 n).Nodup
 | 0=>by show [[]].Nodup;simp
 | n+1=>by
  show (a9 n++(a9 n).map (·++[n])).Nodup;rw [l5];refine ⟨Bv n,(iz.mpr ((Bv n).imp fun h e=>h (List.append_cancel_right e))),fun a ha b hb e=>?_⟩;obtain ⟨c,_,rfl⟩:=bS.mp hb;have:=(cQ.mp ha).2 n (by rw [e];simp)
  omega
def Pm:Sp:=fun vs H Q _=>∃(tp:Addr) (n:Nat) (L:ax),vs=[.ref tp]∧eY H tp n L∧cA n L∧n≤9 ∧
 ∀(H':Hp) (D:Addr) (qs:List (List Nat)),ai H H'→H D=none→H' D=some (.dT (wD (wW n L) qs))→qs.Perm (a9 n)→Q (.ref D) H'
variable {H:Hp}
theorem Pn{K:aC}{wi:TI}{ρ:St→St}{tt:TT}{te td:TE}{σ:St}{Q:VK}(h:kW K wi ρ tt te σ H fun x H1=>td σ H1 fun y H2=>∃(l:Addr) (zs:List Int) (d:Int),[x]=[V.ref l]∧y=.int d∧H2 l=some (.lst (zs.map V.int))∧zs.length≤10000∧∀m,Bq zs d m→Q (.int m) H2):FV (uu (kW K wi ρ tt te) Ah) td σ H Q:=h
structure Bw (n:Nat) (qs:List (List Nat)):Prop where
 pm:qs.Perm (a9 n)
 dn:qs.Pairwise fun a b=>b.length≤a.length
theorem Po{p:List Nat}(h:mW (a9 n).length (fun i=>((((a9 n).getD i []).length:Nat):Int)) p):Bw n (p.map fun i=>(a9 n).getD i []):=by
 refine ⟨?_,?_⟩
 ·have e:(List.range (a9 n).length).map (fun i=>(a9 n).getD i [])=a9 n:=by
   refine i9 (by simp) fun i h1 h2=>?_
   simp [h2]
  have:=h.pm.map fun i=>(a9 n).getD i [];rw [e] at this;exact this
 ·rw [iz]
  exact h.dn.imp fun h=>Int.ofNat_le.mp h
variable {j p:Nat}
theorem Pp(h:Bw n qs)(hq:qs[j]?=some q)(pn:p<n)(pq:p∉q):aH q p∈qs.take j:=by
 have hj:=(b9.mp hq).1;obtain ⟨q1,q2⟩:=cQ.mp (h.pm.mem_iff.mp (i8 hq));have hm:aH q p∈qs:=h.pm.mem_iff.mpr (cQ.mpr ⟨kd q1 pq,fun x hx=>by
  rcases fI.mp hx with rfl | hx;·exact pn
  ·exact q2 x hx⟩)
 obtain ⟨i,hi,e⟩:=qw hm;by_cases ij:i<j;·exact List.mem_take_iff_getElem.mpr ⟨i,by omega,e⟩
 ·exfalso
  have lp:qs[j]=q:=by have:=bQ hj;rw [hq] at this;exact (Option.some.inj this).symm
  have l1:=oQ (l:=q) (p:=p);by_cases z:i=j
  ·subst z
   rw [←e,lp] at l1;omega
  ·have:=nH.mp h.dn j i hj hi (by omega)
   rw [e,lp,l1] at this;omega
theorem Pq(h:Bw n qs)(hq:qs[j]?=some q):q∉qs.take j∧qs.take (j+1)=qs.take j++[q]:=by
 have hj:=(b9.mp hq).1;have nd:qs.Nodup:=h.pm.nodup_iff.mpr (Bv n);refine ⟨fun hm=>?_,by rw [l6,hq];rfl⟩
 obtain ⟨i,hi,e⟩:=List.mem_take_iff_getElem.mp hm;have lp:qs[j]=q:=by have:=bQ hj;rw [hq] at this;exact (Option.some.inj this).symm
 exact nH.mp (iA.mp nd) i j (by omega) hj (by omega) (e.trans lp.symm)
variable {xs:List V}
theorem Pr(h:iY H xs qs){p:List Nat}(hp:∀i∈p,i<qs.length):iY H (p.map fun i=>xs.getD i .aN) (p.map fun i=>qs.getD i []):=by
 refine ⟨by rw [aB,aB],fun k v q h1 h2=>?_⟩
 rw [bt] at h1 h2;cases e:p[k]? with
 | none=>rw [e] at h1;cases h1
 | some i=>
  rw [e] at h1 h2;cases h1;cases h2;have hi:=hp i (i8 e);have hx:i<xs.length:=by rw [h.1];exact hi
  refine h.2 i _ _ ?_ ?_
  ·show xs[i]?=some (xs.getD i V.aN)
   rw [ei,bQ hx];rfl
  ·show qs[i]?=some (qs.getD i [])
   rw [ei,bQ hi];rfl
theorem F1{W:List Nat→Int}{done:List Nat}(h:FY H n L W done xs):bu H xs ((aK n done).map fun p=>(bJ n L done p+W (aH done p),(p:Int))):=by
 refine ⟨by rw [h.1,aB],fun k v z h1 h2=>?_⟩
 rw [bt] at h2;cases e:(aK n done)[k]? with
 | none=>rw [e] at h2;cases h2
 | some p=>rw [e] at h2;cases h2;exact h.2 k v p h1 e
noncomputable def df (n:Nat) (L:ax):List Nat→List Nat→Int
 | _,[]=>0
 | S,p::o=>bJ n L S p+df n L (aH S p) o
theorem F2(n:Nat)(L:ax):∀(o:List Nat) (S:List Nat) (p:Nat),df n L S (o++[p])=df n L S o+bJ n L (o.foldl aH S) p
 | [],S,p=>by show bJ n L S p+0=0+bJ n L S p;omega
 | x::o,S,p=>by show bJ n L S x+df n L (aH S x) (o++[p])=bJ n L S x+df n L (aH S x) o+bJ n L (o.foldl aH (aH S x)) p;rw [F2 n L o (aH S x) p];omega
theorem F3{z:Int}(h:zs≠[]):oR z zs∈zs∧∀y∈zs,oR z zs≤y:=by
 cases zs with
 | nil=>exact absurd rfl h
 | cons x zs=>exact fold_min zs x
structure oS (n:Nat) (L:ax) (o S:List Nat):Prop where
 eq:S=o.foldl aH []
 pm:S.Perm o
 mem:S∈a9 n
 lA:df n L [] o+wW n L S=wW n L []
theorem oS.start(n:Nat)(L:ax):oS n L [] []:=⟨rfl,.nil,cQ.mpr ⟨.nil,fun x h=>by cases h⟩,by show 0+_=_;omega⟩
theorem F4:∀(l:List Nat) (p:Nat),(aH l p).Perm (l++[p])
 | [],p=>.refl _
 | x::l,p=>by
  unfold aH
  split
  ·exact (List.perm_append_singleton p (x::l)).symm
  ·exact (F4 l p).cons x
variable {o:List Nat}
theorem oS.next(h:oS n L o S)(hp:p∈aK n S)(hm:∀q∈aK n S,bJ n L S p+wW n L (aH S p)≤bJ n L S q+wW n L (aH S q)):oS n L (o++[p]) (aH S p):=by
 obtain ⟨p1,p2⟩:=bF.mp hp;have pn:=aQ.mp p1;have pS:p∉S:=by simpa using p2
 obtain ⟨m1,m2⟩:=cQ.mp h.mem;refine ⟨by rw [List.foldl_append,←h.eq];rfl,(F4 S p).trans (h.pm.append_right [p]),cQ.mpr ⟨kd m1 pS,fun x hx=>?_⟩,?_⟩
 ·rcases fI.mp hx with rfl | hx
  ·exact pn
  ·exact m2 x hx
 ·have st:=rE (L:=L) h.mem
  obtain ⟨f1,f2⟩:=F3 (z:=0) (zs:=(aK n S).map fun p=>bJ n L S p+wW n L (aH S p)) (fun e=>by rw [qJ] at e;rw [e] at hp;cases hp)
  rw [←st] at f1 f2;obtain ⟨q,hq,e⟩:=bS.mp f1;have h1:=hm q hq;have h2:=f2 _ (bS.mpr ⟨p,hp,rfl⟩);have:=h.lA;rw [F2,←h.eq];omega
theorem Pt(h:S∈a9 n)(hl:S.length<n):0<(aK n S).length:=by
 refine Nat.pos_of_ne_zero fun e=>?_;have e:=zL.mp e;have sub:List.range n ⊆ S:=fun x hx=>by
  refine zN fun no=>?_;have:x∈aK n S:=bF.mpr ⟨hx,by simpa using no⟩
  rw [e] at this;cases this
 have:=(dr (n:=n)).length_le_of_subset sub;rw [b6] at this;omega
theorem F5(h:S∈a9 n)(hl:S.length=n):S=List.range n:=by
 obtain ⟨h1,h2⟩:=cQ.mp h;refine FE h1 (xT n) fun p=>⟨fun hp=>aQ.mpr (h2 p hp),fun hp=>?_⟩;refine zN fun no=>?_;have:p∈aK n S:=bF.mpr ⟨hp,by simpa using no⟩
 rw [FZ h (by omega)] at this
 cases this
def Pu:Sp:=fun vs H Q _=>∃(tp:Addr) (n:Nat) (L:ax),vs=[.ref tp]∧eY H tp n L∧cA n L∧n≤9 ∧
 ∀(H':Hp) (t lo:Addr) (o:List Nat),ai H H'→H lo=none→H' t=some (.tup [.ref lo,.int (wW n L [])])→H' lo=some (.lst (o.map fun k:Nat=>V.int (k:Int)))→o.Perm (List.range n)→df n L [] o=wW n L []→Q (.ref t) H'
theorem F6(h:(p::o).Perm (aK n S)):o.Perm (aK n (aH S p)):=by
 have nl:(aK n S).Nodup:=dr.filter _;have nd:=h.nodup_iff.mpr nl;obtain ⟨n1,n2⟩:=eh.mp nd;refine (kC n2 (dr.filter _)).mpr fun q=>?_;have hq:=h.mem_iff (a:=q);have e1:∀T:List Nat,q∈aK n T↔q<n∧q∉T:=fun T=>by unfold aK;rw [bF,aQ];simp
 rw [e1,b3] at hq;show q∈o↔q∈aK n (aH S p);rw [e1,fI];constructor
 ·intro ho
  have:=hq.mp (.inr ho);exact ⟨this.1,fun z=>z.elim (fun e=>n1 (e▸ho)) this.2⟩
 ·rintro ⟨h1,h2⟩
  rcases hq.mpr ⟨h1,fun z=>h2 (.inr z)⟩ with e | ho;·exact absurd (.inl e) h2
  ·exact ho
theorem F7{n:Nat}{L:ax}:∀(o S:List Nat),S∈a9 n→o.Perm (aK n S)→wW n L S≤df n L S o
 | [],S,hS,h=>by have e:aK n S=[]:=h.symm.eq_nil;rw [rE hS,e];exact iy _
 | p::o,S,hS,h=>by
  have hp:p∈aK n S:=h.mem_iff.mp dB;obtain ⟨p1,p2⟩:=bF.mp hp;have pn:=aQ.mp p1;have pS:p∉S:=by simpa using p2
  obtain ⟨m1,m2⟩:=cQ.mp hS;have ih:=F7 (L:=L) o (aH S p) (cQ.mpr ⟨kd m1 pS,fun x hx=>by
   rcases fI.mp hx with rfl | hx;·exact pn
   ·exact m2 x hx⟩) (F6 h)
  have f2:=(F3 (z:=0) (zs:=(aK n S).map fun p=>bJ n L S p+wW n L (aH S p)) (fun e=>by rw [qJ] at e;rw [e] at hp;cases hp)).2
  rw [←rE hS] at f2;have h2:=f2 _ (bS.mpr ⟨p,hp,rfl⟩);show wW n L S≤bJ n L S p+df n L (aH S p) o;omega
theorem Bx(ho:o.Perm (List.range n)):wW n L []≤df n L [] o:=by
 refine F7 o [] (cQ.mpr ⟨.nil,fun x h=>by cases h⟩) (ho.trans ?_)
 have:aK n []=List.range n:=by unfold aK;exact List.filter_eq_self.mpr fun a _=>by simp
 rw [this]
theorem x5:∀(pre S:List Nat) (q:Nat),q∈pre.foldl aH S↔q∈pre∨q∈S
 | [],S,q=>by simp
 | x::pre,S,q=>by
  show q∈pre.foldl aH (aH S x)↔_;rw [x5 pre,fI,b3];constructor
  ·rintro (h | h | h)
   ·exact .inl (.inr h)
   ·exact .inl (.inl h)
   ·exact .inr h
  ·rintro ((h | h) | h)
   ·exact .inr (.inl h)
   ·exact .inl h
   ·exact .inr (.inr h)
open Classical in
theorem F8(ho:o.Perm (List.range n))(aM:cA n L){x:Nat}(xn:x<n)(hS:∀y,y∈S↔d5 n o (o.idxOf x) y){ms:List Nat}(h:gK n o x ms∧ic n L o x ms):((ms.length:Nat):Int)*ms.length+3*ms.length+1=bJ n L S x:=by
 have nb:fF n L (fun i=>(List.range n).filter fun j=>rL L i j):=fun i j hi=>by
  rw [bF,aQ,vd];constructor;·exact fun h=>h.2
  ·intro h
   refine ⟨?_,h⟩;rcases h with e | e
   ·have:=aM _ e
    omega
   ·have:=aM _ e
    omega
 generalize (fun i=>(List.range n).filter fun j=>rL L i j)=f at nb;have ad:∀a b,fH n f a b↔aL n L a b:=fun a b=>by
  unfold fH aL;constructor
  ·rintro ⟨h1,h2⟩
   have h3:=(nb a b h1).mp h2;refine ⟨h1,?_,h3⟩;rcases h3 with e | e
   ·have:=aM _ e
    omega
   ·have:=aM _ e
    omega
  ·rintro ⟨h1,_,h3⟩
   exact ⟨h1,(nb a b h1).mpr h3⟩
 have rc:∀q,di (fH n f) (·∈S) x q↔q=x∨Wk (aL n L) (d5 n o (o.idxOf x)) x q:=fun q=>by
  rw [Oq];constructor
  ·rintro (e | w)
   ·exact .inl e
   ·exact .inr ((w.imp fun a b=>(ad a b).mp).mono fun y=>(hS y).mp)
  ·rintro (e | w)
   ·exact .inl e
   ·exact .inr ((w.imp fun a b=>(ad a b).mpr).mono fun y=>(hS y).mpr)
 have wl:∀q,Wk (aL n L) (d5 n o (o.idxOf x)) x q→q<n:=fun q w=>by
  cases w with
  | one ab=>exact ab.2.1
  | more _ _ ab=>exact ab.2.1
 refine Bt nb ⟨(List.range n).filter fun q=>decide (di (fH n f) (·∈S) x q),⟨dr.filter _,fun k hk=>aQ.mp (bF.mp hk).1⟩,fun q=>?_,?_⟩
 ·rw [bF,aQ,dS]
  refine ⟨fun h=>h.2,fun h=>⟨?_,h⟩⟩;rcases (rc q).mp h with e | w;·rw [e];exact xn
  ·exact wl q w
 ·refine ((kC (h.1.up.imp fun h=>bE h) ((dr.filter _).filter _)).mpr fun q=>?_).length_eq
  rw [h.2 q,bF,bF,aQ,dS,rc q];constructor
  ·rintro ⟨h1,h2,h3⟩
   refine ⟨⟨h1,.inr h3⟩,?_⟩;have qx:q≠x:=fun e=>by subst e;omega
   have qS:q∉S:=fun z=>by have:=((hS q).mp z).2;omega
   simp [qx,qS]
  ·rintro ⟨⟨h1,h2⟩,h3⟩
   have qx:q≠x:=fun e=>by simp [e] at h3
   have qS:q∉S:=fun z=>by simp [z] at h3
   refine ⟨h1,?_,h2.resolve_left qx⟩;have ne:=va ho h1 xn qx;have:¬o.idxOf q<o.idxOf x:=fun z=>qS ((hS q).mpr ⟨h1,z⟩);omega
theorem F9{n:Nat}{L:ax}{o:List Nat}(ho:o.Perm (List.range n))(aM:cA n L){g:Nat→List Nat}(hg:∀p,p<n→gK n o p (g p)∧ic n L o p (g p)):∀(l pre:List Nat),o=pre++l→df n L (pre.foldl aH []) l=(l.map fun x=>(((g x).length:Nat):Int)*(g x).length+3*(g x).length+1).sum
 | [],_,_=>rfl
 | x::l,pre,e=>by
  have nd:=u9 ho;rw [e,l5] at nd;obtain ⟨np,nx,dj⟩:=nd;have xn:x<n:=(hV ho).mp (by rw [e];simp)
  have ix:o.idxOf x=pre.length:=by rw [e,l9,aa fun h=>dj x h x dB rfl,List.idxOf_cons_self,dF]
  have hS:∀y,y∈pre.foldl aH []↔d5 n o (o.idxOf x) y:=fun y=>by
   rw [x5,ix];unfold d5;constructor
   ·rintro (h | h)
    ·refine ⟨(hV ho).mp (by rw [e];simp [h]),?_⟩
     rw [e,l9,ae h];exact tZ h
    ·cases h
   ·rintro ⟨h1,h2⟩
    refine .inl (zN fun no=>?_);rw [e,l9,aa no] at h2;omega
  have c:=F8 ho aM xn hS (hg x xn);have ih:=F9 ho aM hg l (pre++[x]) (by rw [e];simp)
  rw [List.foldl_append] at ih;show bJ n L (pre.foldl aH []) x+df n L (aH (pre.foldl aH []) x) l=_;rw [bM,cM,←c];exact b_ _ ih
theorem Pw{M:ax}(ho:o.Perm (List.range n))(aM:cA n L)(f:iV n L o M){g:Nat→List Nat}(hg:∀p,p<n→gK n o p (g p)∧ic n L o p (g p)):df n L [] o=(mV n M:Int):=by
 have h1:=F9 ho aM hg o [] rfl;have h2:=Bn ho f hg;have h3:∀l:List Nat,(l.map fun x=>(((g x).length:Nat):Int)*(g x).length+3*(g x).length+1).sum=(((l.map fun x=>(g x).length*(g x).length+3*(g x).length+1).sum:Nat):Int):=fun l=>by
  induction l with
  | nil=>rfl
  | cons x l ih=>rw [bM,cM,bM,cM,ih];push_cast;rfl
 show df n L (([]:List Nat).foldl aH []) o=_;rw [h1,h3,←h2,(ho.map fun x=>(g x).length*(g x).length+3*(g x).length+1).sum_nat]
end My
namespace L2
open PySem
section
variable {prog:Program} {w:World} {A:Around} {E:aE} {s:Shared}
end
open PySem PySem.Spec PyProof.Rows My
end L2
namespace My
open PySem L2
end My
namespace L2
open PySem PySem.W PyProof.Rows
section
variable {prog:Program} {w:World} {A:Around} {E:aE} {s:Shared}
end
open AutoSeq1 (wpAny_loadPart')
section
variable {prog:Program} {w:World} {A:Around} {E:aE} {s:Shared}
end
end L2
namespace My
open PySem L2
end My
namespace L2
open PySem PySem.Spec PyProof.Rows My
end L2
namespace My
open PySem L2
theorem F_(k:Nat):oJ (.int (k:Int))=k:=cU k
open PySem L2 Classical
theorem Ga(n:Nat)(L:ax)(o:List Nat)(p:Nat):∃ms,gK n o p ms∧ic n L o p ms:=by
 refine ⟨(List.range n).filter fun q=>decide (o.idxOf p<o.idxOf q∧Wk (aL n L) (d5 n o (o.idxOf p)) p q),⟨wm.sublist List.filter_sublist,fun q hq=>?_,fun q hq=>?_⟩,fun q=>?_⟩;·exact aQ.mp (bF.mp hq).1
 ·exact (d7 (bF.mp hq).2).1
 ·rw [bF,aQ,dS]
theorem Px(n:Nat)(L:ax)(o:List Nat):∃g:Nat→List Nat,∀p,p<n→gK n o p (g p)∧ic n L o p (g p):=
 ⟨fun p=>choose (Ga n L o p),fun p _=>choose_spec (Ga n L o p)⟩
variable {n:Nat} {L M:ax} {o:List Nat}
theorem Gb(ho:o.Perm (List.range n))(aM:cA n L)(f:iV n L o M):df n L [] o=(mV n M:Int):=by obtain ⟨g,hg⟩:=Px n L o;exact Pw ho aM f hg
theorem Gd(ho:o.Perm (List.range n))(aM:cA n L)(f:iV n L o M):wW n L []≤(mV n M:Int):=by rw [←Gb ho aM f];exact Bx ho
theorem By(n:Nat)(L:ax)(o:List Nat):∃M,iV n L o M:=by
 let f:Nat→Nat→Bool:=fun i j=>decide (∃p q:Nat,p<n∧q<n∧o.idxOf p<o.idxOf q∧Wk (aL n L) (d5 n o (o.idxOf p)) p q∧((i:Int),(j:Int))=h_ p q)
 refine ⟨u0 n f n,E5 n,fun z=>⟨fun h=>?_,?_⟩⟩
 ·obtain ⟨i,j,_,_,_,hf,rfl⟩:=mem_of h
  exact d7 hf
 ·rintro ⟨p,q,hp,hq,Bz,hw,rfl⟩
  have ne:p≠q:=fun e=>by rw [e] at Bz;exact absurd Bz (dm _)
  obtain ⟨i,j,ij,jn,e⟩:∃i j:Nat,i<j∧j<n∧h_ p q=((i:Int),(j:Int)):=by
   by_cases h:q<p
   ·refine ⟨q,p,h,hp,?_⟩
    unfold h_;rw [ae (by omega),aa (by omega)]
   ·refine ⟨p,q,by omega,hq,?_⟩
    unfold h_;rw [aa (by omega),ae (by omega)]
  rw [e];exact E4 ij jn (cf ⟨p,q,hp,hq,Bz,hw,e.symm⟩) (by omega)
theorem x6(n:Nat):[]∈a9 n:=cQ.mpr ⟨List.Pairwise.nil,fun _ h=>by cases h⟩
end My
namespace L2
open PySem PySem.Spec PyProof.Rows
end L2
namespace My
open PySem L2 Classical
structure e7 (n:Nat) (L:ax) (cy:Nat→Nat):Prop where
 lt:∀k,k<n→cy k<n
 inj:∀j k,j<n→k<n→cy j=cy k→j=k
 iZ:∀x,x<n→∃k,k<n∧cy k=x
 aZ:∀j k,j<n→k<n→(aL n L (cy j) (cy k)↔(k=j+1∨j=k+1∨(j=0∧k+1=n)∨(k=0∧j+1=n)))
variable {n:Nat} {L:ax} {cy:Nat→Nat}
theorem e7.Py(r:e7 n L cy)(n3:3≤n){i:Nat}(hi:i<n):e7 n L (fun k=>cy (if i+k<n then i+k else i+k-n)):=by
 refine ⟨fun k hk=>?_,fun j k hj hk e=>?_,fun x hx=>?_,fun j k hj hk=>?_⟩
 ·refine r.lt _ ?_
  split <;> omega
 ·have:=r.inj _ _ ?_ ?_ e
  ·split at this <;> split at this <;> omega
  ·split <;> omega
  ·split <;> omega
 ·obtain ⟨k,hk,e⟩:=r.iZ x hx
  by_cases h:i≤k
  ·refine ⟨k-i,by omega,?_⟩
   rw [ae (by omega),show i+(k-i)=k by omega]
   exact e
  ·refine ⟨k+n-i,by omega,?_⟩
   rw [aa (by omega),show i+(k+n-i)-n=k by omega]
   exact e
 ·rw [r.aZ _ _ (by split <;> omega) (by split <;> omega)]
  split <;> split <;> omega
theorem Ge{P:Nat→Prop}:∀k,P k→∃m,P m∧∀j,j<m→¬P j:=fun k=>by
 induction k using Nat.strongRecOn with
 | ind k ih=>
  intro h;by_cases e:∃j,j<k∧P j
  ·obtain ⟨j,hj,pj⟩:=e
   exact ih j hj pj
  ·exact ⟨k,h,fun j hj pj=>e ⟨j,hj,pj⟩⟩
noncomputable def rF (n:Nat) (L:ax) (i:Nat):List Nat:=(List.range n).filter fun j=>decide (aL n L i j)
theorem Pz(aM:cA n L):fF n L (rF n L):=fun i j hi=>by
 unfold rF;rw [bF,aQ,dS];constructor;·exact fun h=>h.2.2.2
 ·intro h
  have:j<n:=by rcases h with h | h <;> (have:=aM _ h;omega)
  exact ⟨this,hi,this,h⟩
variable {S:List Nat} {p:Nat}
theorem rG(aM:cA n L)(pn:p<n)(l:List Nat)(nd:l.Nodup)(h:∀x,x∈l↔x≠p∧x∉S∧di (aL n L) (·∈S) p x):bJ n L S p=(l.length:Int)*l.length+3*l.length+1:=by
 have ra:∀{x},di (fH n (rF n L)) (·∈S) p x↔di (aL n L) (·∈S) p x:=fun{x}=>by
  have e:∀a b,fH n (rF n L) a b↔aL n L a b:=fun a b=>by unfold fH rF;rw [bF,aQ,dS];exact ⟨fun h=>h.2.2,fun h=>⟨h.1,h.2.1,h⟩⟩
  constructor
  ·intro h
   induction h with
   | start=>exact .start
   | step _ t a ih=>exact .step ih t ((e _ _).mp a)
  ·intro h
   induction h with
   | start=>exact .start
   | step _ t a ih=>exact .step ih t ((e _ _).mpr a)
 have rn:∀{x},di (aL n L) (·∈S) p x→x<n:=fun h=>by
  cases h with
  | start=>exact pn
  | step _ _ a=>exact a.2.1
 refine (Bt (Pz aM) ⟨(List.range n).filter fun x=>decide (di (fH n (rF n L)) (·∈S) p x),⟨dr.filter _,fun k hk=>aQ.mp (bF.mp hk).1⟩,fun x=>?_,?_⟩).symm
 ·rw [bF,aQ,dS]
  exact ⟨fun h=>h.2,fun h=>⟨rn (ra.mp h),h⟩⟩
 ·refine List.Perm.length_eq ((kC nd ((dr.filter _).filter _)).mpr fun x=>?_)
  rw [h,bF,bF,aQ,dS,ra,iu,wa,wa,decide_eq_false_iff_not,decide_eq_false_iff_not];exact ⟨fun⟨a,b,c⟩=>⟨⟨rn c,c⟩,a,b⟩,fun⟨⟨_,c⟩,a,b⟩=>⟨a,b,c⟩⟩
variable {a b:Nat}
theorem e7.reach(r:e7 n L cy)(n3:3≤n)(pS:cy 0∉S)(a1:1≤a)(ab:a≤b)(bn:b<n)(ha:cy a∉S)(hb:cy b∉S)(mK:∀k,1≤k→k<a→cy k∈S)(oT:∀k,b<k→k<n→cy k∈S)(x:Nat) :
  (x≠cy 0∧x∉S∧di (aL n L) (·∈S) (cy 0) x)↔(x=cy a∨x=cy b):=by
 have up:∀k,k≤a→di (aL n L) (·∈S) (cy 0) (cy k):=fun k=>by
  induction k with
  | zero=>exact fun _=>.start
  | succ k ih=>
   intro hk;refine .step (ih (by omega)) ?_ ((r.aZ k (k+1) (by omega) (by omega)).mpr (.inl rfl))
   by_cases e:k=0;·exact .inl (by rw [e])
   ·exact .inr (mK k (by omega) (by omega))
 have dn:∀d,d<n→b≤n-1-d→di (aL n L) (·∈S) (cy 0) (cy (n-1-d)):=fun d=>by
  induction d with
  | zero=>exact fun _ _=>.step .start (.inl rfl) ((r.aZ 0 (n-1-0) (by omega) (by omega)).mpr (by omega))
  | succ d ih=>intro hd ji;exact .step (ih (by omega) (by omega)) (.inr (oT _ (by omega) (by omega))) ((r.aZ _ _ (by omega) (by omega)).mpr (by omega))
 constructor
 ·rintro ⟨xp,xS,h⟩
  have PB:∃k,k<n∧x=cy k∧(k≤a∨b≤k):=by
   clear xp xS
   induction h with
   | start=>exact ⟨0,by omega,rfl,.inl (by omega)⟩
   | @step y z _ t e ih=>
    obtain ⟨k,kn,ey,hk⟩:=ih;obtain ⟨k',Gf,ez⟩:=r.iZ z e.2.1;rw [ey,←ez] at e;have Vy:=(r.aZ k k' kn Gf).mp e;refine ⟨k',Gf,ez.symm,?_⟩;rcases t with t | t
    ·have k0:=r.inj k 0 kn (by omega) (ey▸t)
     omega
    ·have ka:k≠a:=fun e=>ha (by rw [←e,←ey];exact t)
     have kb:k≠b:=fun e=>hb (by rw [←e,←ey];exact t)
     omega
  obtain ⟨k,kn,rfl,hk⟩:=PB;have k0:k≠0:=fun e=>xp (by rw [e])
  rcases hk with hk | hk
  ·by_cases e:k=a
   ·exact .inl (by rw [e])
   ·exact absurd (mK k (by omega) (by omega)) xS
  ·by_cases e:k=b
   ·exact .inr (by rw [e])
   ·exact absurd (oT k (by omega) kn) xS
 ·have ne:∀k,1≤k→k<n→cy k≠cy 0:=fun k k1 kn e=>by
   have:=r.inj k 0 kn (by omega) e
   omega
  rintro (rfl | rfl);·exact ⟨ne a a1 (by omega),ha,up a (aw _)⟩
  ·refine ⟨ne b (by omega) bn,hb,?_⟩
   have:=dn (n-1-b) (by omega) (by omega)
   rwa [show n-1-(n-1-b)=b by omega] at this
theorem e7.cost(r:e7 n L cy)(n3:3≤n)(aM:cA n L)(pn:p<n)(pS:p∉S) :
  ((∃x y,x<n∧y<n∧x≠y∧x≠p∧y≠p∧x∉S∧y∉S)→bJ n L S p=11)∧((∃x,x<n∧x≠p∧x∉S∧∀y,y<n→y≠p→y∉S→y=x)→bJ n L S p=5)∧((∀x,x<n→x≠p→x∈S)→bJ n L S p=1):=by
 obtain ⟨i,hi,rfl⟩:=r.iZ p pn;have r':=r.Py n3 hi;have e0:(fun k=>cy (if i+k<n then i+k else i+k-n)) 0=cy i:=by
  dsimp only;rw [ae (by omega)]
  rfl
 rw [←e0] at pS pn ⊢;generalize (fun k=>cy (if i+k<n then i+k else i+k-n))=c at r' pS pn ⊢
 clear e0 r hi i cy;have main:∀x,x<n→x≠c 0→x∉S→∃a b,1≤a∧a≤b∧b<n∧c a∉S∧c b∉S∧(∀k,1≤k→k<a→c k∈S)∧∀k,b<k→k<n→c k∈S:=fun x xn xp xS=>by
  obtain ⟨k,kn,ek⟩:=r'.iZ x xn;have k0:k≠0:=fun e=>xp (by rw [←ek,e])
  obtain ⟨a,⟨a1,an,Gg⟩,PD⟩:=Ge (P:=fun k=>1≤k∧k<n∧c k∉S) k ⟨by omega,kn,by rw [ek];exact xS⟩
  obtain ⟨d,⟨d1,PF⟩,Gh⟩:=Ge (P:=fun d=>d<n∧c (n-1-d)∉S) (n-1-k) ⟨by omega,by rw [show n-1-(n-1-k)=k by omega,ek];exact xS⟩
  have dk:d≤n-1-a:=by
   rcases qy (n-1-a) d with h | h;·exact absurd ⟨by omega,by rw [show n-1-(n-1-a)=a by omega];exact Gg⟩ (Gh _ h)
   ·exact h
  refine ⟨a,n-1-d,a1,by omega,by omega,Gg,PF,fun k k1 ka=>?_,fun k kb kn=>?_⟩
  ·exact byContradiction fun h=>PD k ka ⟨k1,by omega,h⟩
  ·exact byContradiction fun h=>Gh (n-1-k) (by omega) ⟨by omega,by rw [show n-1-(n-1-k)=k by omega];exact h⟩
 refine ⟨fun⟨x,y,xn,yn,xy,xp,yp,xS,yS⟩=>?_,fun⟨x,xn,xp,xS,one⟩=>?_,fun PH=>?_⟩
 ·obtain ⟨a,b,a1,ab,bn,ha,hb,mK,oT⟩:=main x xn xp xS
  have PJ:a≠b:=fun e=>by
   subst e;have only:∀z,z<n→z≠c 0→z∉S→z=c a:=fun z zn zp zS=>by
    obtain ⟨k,kn,rfl⟩:=r'.iZ z zn;have k0:k≠0:=fun e=>zp (by rw [e])
    by_cases e:k=a;·rw [e]
    ·exact absurd (if h:k<a then mK k (by omega) h else oT k (by omega) kn) zS
   exact xy ((only x xn xp xS).trans (only y yn yp yS).symm)
  rw [rG aM pn [c a,c b] (by simp;exact fun e=>PJ (r'.inj a b (by omega) bn e)) fun z=>by rw [r'.reach n3 pS a1 ab bn ha hb mK oT z];simp]
  rfl
 ·obtain ⟨a,b,a1,ab,bn,ha,hb,mK,oT⟩:=main x xn xp xS
  have c0:∀k,1≤k→k<n→c k≠c 0:=fun k k1 kn e=>by
   have:=r'.inj k 0 kn (by omega) e
   omega
  have e1:=one (c a) (r'.lt a (by omega)) (c0 a a1 (by omega)) ha
  have e2:=one (c b) (r'.lt b bn) (c0 b (by omega) bn) hb
  rw [rG aM pn [c a] (by simp) fun z=>by rw [r'.reach n3 pS a1 ab bn ha hb mK oT z,e1,e2];simp]
  rfl
 ·have PK:∀z,z∈([]:List Nat)↔z≠c 0∧z∉S∧di (aL n L) (·∈S) (c 0) z:=by
   intro z;constructor
   ·intro h
    cases h
   ·rintro ⟨z1,z2,z3⟩
    have zn:z<n:=by
     cases z3 with
     | start=>exact absurd rfl z1
     | step _ _ e=>exact e.2.1
    exact absurd (PH z zn z1) z2
  rw [rG aM pn [] List.nodup_nil PK];rfl
def fK:Nat→Int
 | 0=>0
 | 1=>1
 | k+2=>11*(k:Int)+6
theorem BA(h:S∈a9 n):(aK n S).length+S.length=n:=by
 obtain ⟨up,lt⟩:=cQ.mp h;have nd:S.Nodup:=up.imp fun h=>by omega
 have h1:((List.range n).filter fun p=>decide (p∈S)).Perm S:=(kC (dr.filter _) nd).mpr fun x=>by rw [bF,aQ,dS];exact ⟨fun h=>h.2,fun h=>⟨lt x h,h⟩⟩
 have h2:∀l:List Nat,l.length=(l.filter fun p=>decide (p∈S)).length+(l.filter fun p=>!decide (p∈S)).length:=fun l=>by
  induction l with
  | nil=>rfl
  | cons x l ih=>
   rw [l8,l8,cL];by_cases e:x∈S
   ·rw [cf e,ae rfl,Bool.not_true,aa (by simp),cL]
    omega
   ·rw [bV e,aa (by simp),Bool.not_false,ae rfl,cL]
    omega
 have h2:=h2 (List.range n);rw [b6,h1.length_eq] at h2;have h3:(aK n S)=(List.range n).filter (fun p=>!decide (p∈S)):=rfl;rw [h3];omega
theorem PL{d c:Int}:∀{zs:List Int},zs≠[]→(∀z∈zs,z=c)→oR d zs=c
 | [],h,_=>absurd rfl h
 | z::zs,_,h=>h _ (fold_min zs z).1
theorem e7.worth(r:e7 n L cy)(n3:3≤n)(aM:cA n L):∀(k:Nat) (S:List Nat),S∈a9 n→n-S.length=k→wW n L S=fK k:=fun k=>by
 induction k with
 | zero=>intro S hS hk;unfold wW;rw [hk];rfl
 | succ k ih=>
  intro S hS hk;have ll:=BA hS;have lk:(aK n S).length=k+1:=by omega
  obtain ⟨up,lt⟩:=cQ.mp hS;have lm:∀x,x∈aK n S↔x<n∧x∉S:=fun x=>by unfold aK;rw [bF,aQ];simp
  have BB:(aK n S).Nodup:=dr.filter _;rw [rE hS];refine PL (fun e=>by rw [qJ] at e;rw [e] at lk;cases lk) fun z hz=>?_
  obtain ⟨p,hp,rfl⟩:=bS.mp hz;obtain ⟨pn,pS⟩:=(lm p).mp hp;have vg:aH S p∈a9 n:=cQ.mpr ⟨kd up pS,fun x hx=>by
   rcases fI.mp hx with e | h;·rw [e];exact pn
   ·exact lt x h⟩
  rw [ih (aH S p) vg (by rw [oQ];omega)]
  obtain ⟨c2,c1,c0⟩:=r.cost n3 aM (S:=S) pn pS;obtain ⟨rest,jj⟩:∃rest,(aK n S).Perm (p::rest):=⟨(aK n S).erase p,List.perm_cons_erase hp⟩;have lr:rest.length=k:=by have:=jj.length_eq;rw [lk,cL] at this;omega
  have vk:=jj.nodup_iff.mp BB;have rm:∀x,x∈rest→x<n∧x∉S∧x≠p:=fun x hx=>by have:=(lm x).mp (jj.mem_iff.mpr (cB _ hx));exact ⟨this.1,this.2,fun e=>(eh.mp vk).1 (e▸hx)⟩
  have mr:∀x,x<n→x≠p→x∉S→x∈rest:=fun x xn xp xS=>by
   rcases b3.mp (jj.mem_iff.mp ((lm x).mpr ⟨xn,xS⟩)) with h | h;·exact absurd h xp
   ·exact h
  match k,rest,lr with
  | 0,[],_=>
   rw [c0 fun x xn xp=>byContradiction fun h=>by cases mr x xn xp h]
   rfl
  | 1,[x],_=>
   have hx:=rm x (by simp)
   rw [c1 ⟨x,hx.1,hx.2.2,hx.2.1,fun y yn yp yS=>cg.mp (mr y yn yp yS)⟩];rfl
  | k+2,x::y::rest,_=>
   have hx:=rm x (by simp)
   have hy:=rm y (by simp)
   have xy:x≠y:=fun e=>(eh.mp (eh.mp vk).2).1 (by rw [e];simp)
   rw [c2 ⟨x,y,hx.1,hy.1,xy,hx.2.2,hy.2.2,hx.2.1,hy.2.1⟩];show (11:Int)+(11*((k:Nat):Int)+6)=11*((k+1:Nat):Int)+6
   push_cast
   omega
open PySem L2
def vn(S:List Nat)(p y:Nat):Bool:=y == p || S.contains y
def PM(n:Nat)(E:Nat→Nat→Bool)(S:List Nat)(p:Nat)(R:List Nat):List Nat:=(List.range n).filter fun x=>R.contains x || R.any fun y=>vn S p y && E y x
def e8(n:Nat)(E:Nat→Nat→Bool)(S:List Nat)(p:Nat):Nat→List Nat
 | 0=>[p]
 | k+1=>PM n E S p (e8 n E S p k)
def vp(n:Nat)(E:Nat→Nat→Bool)(S:List Nat)(p:Nat)(R:List Nat):Bool:=R.all fun y=>!vn S p y || (List.range n).all fun x=>!E y x || R.contains x
def mY(S:List Nat)(p:Nat)(R:List Nat):List Nat:=R.filter fun x=>!vn S p x
variable {y:Nat}
theorem BC:vn S p y=true↔y=p∨y∈S:=by unfold vn;simp
theorem PN{n:Nat}{E:Nat→Nat→Bool}{S:List Nat}{p:Nat}(pn:p<n):∀k x,x∈e8 n E S p k→x<n
 | 0,x,h=>by rw [cg.mp h];exact pn
 | k+1,x,h=>aQ.mp (bF.mp h).1
theorem PO{n:Nat}{E:Nat→Nat→Bool}{S:List Nat}{p:Nat}:∀k,(e8 n E S p k).Nodup
 | 0=>by unfold e8;simp
 | k+1=>dr.filter _
theorem Gi{n:Nat}{L:ax}{E:Nat→Nat→Bool}{S:List Nat}{p:Nat}(hE:∀a b,a<n→b<n→(E a b=true↔aL n L a b))(pn:p<n):∀k x,x∈e8 n E S p k→di (aL n L) (·∈S) p x
 | 0,x,h=>by rw [cg.mp h];exact .start
 | k+1,x,h=>by
  obtain ⟨h1,h2⟩:=bF.mp h;have ih:=Gi (S:=S) hE pn k;rcases (wq ..).mp h2 with h2 | h2;·exact ih x (zO.mp h2)
  ·obtain ⟨y,hy,h3⟩:=tY.mp h2
   obtain ⟨h4,h5⟩:=(iu ..).mp h3;exact .step (ih y hy) (BC.mp h4) ((hE y x (PN pn k y hy) (aQ.mp h1)).mp h5)
theorem Gj{n:Nat}{E:Nat→Nat→Bool}{S:List Nat}{p:Nat}(pn:p<n):∀k,p∈e8 n E S p k
 | 0=>cg.mpr rfl
 | k+1=>bF.mpr ⟨aQ.mpr pn,(wq ..).mpr (.inl (zO.mpr (Gj pn k)))⟩
variable {E:Nat→Nat→Bool} {k:Nat}
theorem BD(aM:cA n L)(hE:∀a b,a<n→b<n→(E a b=true↔aL n L a b))(pn:p<n)(hc:vp n E S p (e8 n E S p k)=true) :
  bJ n L S p=((mY S p (e8 n E S p k)).length:Int)*(mY S p (e8 n E S p k)).length+3*(mY S p (e8 n E S p k)).length+1:=by
 refine rG aM pn _ ((PO k).filter _) fun x=>?_;unfold mY;rw [bF,wa,←Bool.not_eq_true,BC];constructor;·exact fun⟨h1,h2⟩=>⟨fun e=>h2 (.inl e),fun e=>h2 (.inr e),Gi hE pn k x h1⟩
 ·rintro ⟨h1,h2,h3⟩
  refine ⟨?_,fun h=>h.elim h1 h2⟩;clear h1 h2
  induction h3 with
  | start=>exact Gj pn k
  | @step y z _ t e ih=>have:=gv.mp hc y ih;rw [BC.mpr t,Bool.not_true,Bool.false_or] at this;have:=gv.mp this z (aQ.mpr e.2.1);rw [(hE y z e.1 e.2.1).mpr e,Bool.not_true,Bool.false_or] at this;exact zO.mp this
def rH(n:Nat)(E:Nat→Nat→Bool)(S:List Nat)(p k:Nat):Nat:=(mY S p (e8 n E S p k)).length
def cst(m:Nat):Int:=(m:Int)*m+3*m+1
def Gk(n:Nat)(E:Nat→Nat→Bool)(k:Nat)(val:List Nat→Int):Bool:=(a9 n).all fun S=>(aK n S).all fun p=>vp n E S p (e8 n E S p k) && decide (val S≤cst (rH n E S p k)+val (aH S p))
theorem PQ{val:List Nat→Int}(aM:cA n L)(hE:∀a b,a<n→b<n→(E a b=true↔aL n L a b))(h:Gk n E k val=true)(h0:val (List.range n)≤0):∀(r:Nat) (S:List Nat),S∈a9 n→n-S.length=r→val S≤wW n L S:=fun r=>by
 induction r with
 | zero=>
  intro S hS hr;have:S.length≤n:=by have:=BA hS;omega
  rw [F5 hS (by omega)]
  unfold wW;rw [b6,qu];exact h0
 | succ r ih=>
  intro S hS hr;obtain ⟨up,lt⟩:=cQ.mp hS;rw [rE hS];have ne:(aK n S).map (fun p=>bJ n L S p+wW n L (aH S p))≠[]:=fun e=>by rw [qJ] at e;have:=BA hS;rw [e] at this;simp at this;omega
  have all:∀z∈(aK n S).map (fun p=>bJ n L S p+wW n L (aH S p)),val S≤z:=fun z hz=>by
   obtain ⟨p,hp,rfl⟩:=bS.mp hz;have xF:=hp;unfold aK at xF;obtain ⟨p1,p2⟩:=bF.mp xF;have pn:=aQ.mp p1;have pS:p∉S:=by simpa using p2
   have vg:aH S p∈a9 n:=cQ.mpr ⟨kd up pS,fun x hx=>by
    rcases fI.mp hx with e | h;·rw [e];exact pn
    ·exact lt x h⟩
   have h1:=ih (aH S p) vg (by rw [oQ];omega)
   have h2:=gv.mp (gv.mp h S hS) p hp;obtain ⟨h3,h4⟩:=(iu ..).mp h2;have h4:=d7 h4;rw [BD aM hE pn h3];have:cst (rH n E S p k)=((mY S p (e8 n E S p k)).length:Int)*(mY S p (e8 n E S p k)).length+3*(mY S p (e8 n E S p k)).length+1:=rfl;rw [this] at h4;omega
  generalize (aK n S).map (fun p=>bJ n L S p+wW n L (aH S p))=zs at ne all;cases zs with
  | nil=>exact absurd rfl ne
  | cons z zs=>exact all _ (fold_min zs z).1
def rJ(n:Nat)(E:Nat→Nat→Bool)(k:Nat):List Nat→List Nat→Option Int
 | _,[]=>some 0
 | S,p::o=>if vp n E S p (e8 n E S p k) && decide (p<n) then (rJ n E k (aH S p) o).map (cst (rH n E S p k) + ·) else none
theorem Gm{n:Nat}{L:ax}{E:Nat→Nat→Bool}{k:Nat}(aM:cA n L)(hE:∀a b,a<n→b<n→(E a b=true↔aL n L a b)):∀(o S:List Nat) (z:Int),rJ n E k S o=some z→df n L S o=z
 | [],S,z,h=>by unfold rJ at h;unfold df;exact (Option.some.inj h)
 | p::o,S,z,h=>by
  unfold rJ at h;by_cases c:(vp n E S p (e8 n E S p k) && decide (p<n))=true
  ·rw [ae c] at h
   obtain ⟨c1,c2⟩:=(iu ..).mp c;cases e:rJ n E k (aH S p) o with
   | none=>rw [e] at h;cases h
   | some y=>rw [e] at h;have ih:=Gm aM hE o (aH S p) y e;have:=Option.some.inj h;unfold df;rw [ih,BD aM hE (d7 c2) c1];exact this
  ·rw [aa c] at h
   cases h
theorem BE{l:List Nat}(nd:l.Nodup)(lt:∀x∈l,x<n)(len:l.length=n):l.Perm (List.range n):=by
 have h1:((List.range n).filter fun p=>decide (p∈l)).Perm l:=(kC (dr.filter _) nd).mpr fun x=>by rw [bF,aQ,dS];exact ⟨fun h=>h.2,fun h=>⟨lt x h,h⟩⟩
 have h2:((List.range n).filter fun p=>decide (p∈l)).length=(List.range n).length:=by rw [h1.length_eq,len,b6]
 have h3:=List.length_filter_eq_length_iff.mp h2;refine (kC nd dr).mpr fun x=>⟨fun h=>aQ.mpr (lt x h),fun h=>?_⟩;exact d7 (h3 x h)
structure dP (n:Nat) (L L':ax) (f:Nat→Nat):Prop where
 lt:∀k,k<n→f k<n
 inj:∀j k,j<n→k<n→f j=f k→j=k
 iZ:∀x,x<n→∃k,k<n∧f k=x
 aZ:∀j k,j<n→k<n→(aL n L' (f j) (f k)↔aL n L j k)
variable {f:Nat→Nat}
theorem PR(lt:∀k,k<n→f k<n)(inj:∀j k,j<n→k<n→f j=f k→j=k):∀x,x<n→∃k,k<n∧f k=x:=fun x hx=>by
 have nd:((List.range n).map f).Nodup:=by rw [iA,iz];refine (iA.mp (dr (n:=n))).imp_of_mem fun{a b} ha hb ne e=>ne (inj a b (aQ.mp ha) (aQ.mp hb) e)
 have pm:((List.range n).map f).Perm (List.range n):=BE nd (fun y hy=>by obtain ⟨k,hk,rfl⟩:=bS.mp hy;exact lt k (aQ.mp hk)) (by simp)
 obtain ⟨k,hk,e⟩:=bS.mp (pm.mem_iff.mpr (aQ.mpr hx));exact ⟨k,aQ.mp hk,e⟩
variable {L':ax}
theorem dP.named{nm:Nat→Int}(ok:hG n L)(N:uZ n nm)(pm:L'.Perm (L.map (eX nm))):dP n L L' (fun k=>(nm k).toNat):=by
 have lt:∀k,k<n→(nm k).toNat<n:=fun k hk=>by have:=N.lt k hk;omega
 have inj:∀j k,j<n→k<n→(nm j).toNat=(nm k).toNat→j=k:=fun j k hj hk e=>N.inj j k hj hk (by have:=N.lt j hj;have:=N.lt k hk;omega)
 refine ⟨lt,inj,PR lt inj,fun j k hj hk=>?_⟩;have Vz:=N.lt j hj;have VA:=N.lt k hk;have one:∀a b:Nat,a<n→b<n→((((nm a).toNat:Int),((nm b).toNat:Int))∈L'→((a:Int),(b:Int))∈L∨((b:Int),(a:Int))∈L):=fun a b ha hb hm=>by
  obtain ⟨z,hz,e⟩:=bS.mp (pm.mem_iff.mp hm);have Gn:=ok.lt z hz;have h1:=N.lt a ha;have h2:=N.lt b hb;obtain ⟨z1,z2⟩:=z;dsimp only at Gn;obtain ⟨x,rfl⟩:=ja Gn.1;obtain ⟨y,rfl⟩:=ja (show 0≤z2 by omega)
  have hx:x<n:=by omega
  have hy:y<n:=by omega
  unfold eX at e;dsimp only at e;rw [cU,cU] at e;have e1:=b_ Prod.fst e;have e2:=b_ Prod.snd e;dsimp only at e1 e2;rw [nJ h1.1] at e1;rw [nJ h2.1] at e2;rcases Int.le_total (nm x) (nm y) with gh | gh
  ·rw [Int.min_eq_left gh] at e1
   rw [Int.max_eq_right gh] at e2;have:=N.inj x a hx ha e1;have:=N.inj y b hy hb e2;subst x y;exact .inl hz
  ·rw [Int.min_eq_right gh] at e1
   rw [Int.max_eq_left gh] at e2;have:=N.inj y a hy ha e1;have:=N.inj x b hx hb e2;subst x y;exact .inr hz
 have two:∀a b:Nat,a<n→b<n→((a:Int),(b:Int))∈L→((((nm a).toNat:Int),((nm b).toNat:Int))∈L'∨(((nm b).toNat:Int),((nm a).toNat:Int))∈L'):=fun a b ha hb hm=>by
  have h1:=N.lt a ha;have h2:=N.lt b hb;have:=pm.mem_iff.mpr (bS.mpr ⟨_,hm,rfl⟩);unfold eX at this;dsimp only at this;rw [cU,cU] at this;rw [nJ h1.1,nJ h2.1];rcases Int.le_total (nm a) (nm b) with gh | gh
  ·rw [Int.min_eq_left gh,Int.max_eq_right gh] at this
   exact .inl this
  ·rw [Int.min_eq_right gh,Int.max_eq_left gh] at this
   exact .inr this
 constructor
 ·rintro ⟨_,_,h | h⟩
  ·exact ⟨hj,hk,one j k hj hk h⟩
  ·exact ⟨hj,hk,(one k j hk hj h).symm⟩
 ·rintro ⟨_,_,h | h⟩
  ·exact ⟨lt j hj,lt k hk,two j k hj hk h⟩
  ·exact ⟨lt j hj,lt k hk,(two k j hk hj h).symm⟩
theorem dP.cost(r:dP n L L' f)(aM:cA n L)(i3:cA n L'){S':List Nat}(hS:∀x,x<n→(f x∈S'↔x∈S))(pn:p<n):bJ n L' S' (f p)=bJ n L S p:=by
 let l:=(List.range n).filter fun x=>decide (x≠p∧x∉S∧di (aL n L) (·∈S) p x)
 have rn:∀{x},di (aL n L) (·∈S) p x→x<n:=fun h=>by
  cases h with
  | start=>exact pn
  | step _ _ a=>exact a.2.1
 have hl:∀x,x∈l↔x≠p∧x∉S∧di (aL n L) (·∈S) p x:=fun x=>by show x∈(List.range n).filter _↔_;rw [bF,aQ,dS];exact ⟨fun h=>h.2,fun h=>⟨rn h.2.2,h⟩⟩
 have nd:l.Nodup:=dr.filter _;have to:∀{x},di (aL n L) (·∈S) p x→di (aL n L') (·∈S') (f p) (f x):=fun h=>by
  induction h with
  | start=>exact .start
  | @step y z hy t a ih=>
   refine .step ih ?_ ((r.aZ y z a.1 a.2.1).mpr a);rcases t with t | t;·exact .inl (by rw [t])
   ·exact .inr ((hS y a.1).mpr t)
 have PU:∀{y},di (aL n L') (·∈S') (f p) y→∃x,x<n∧y=f x∧di (aL n L) (·∈S) p x:=fun h=>by
  induction h with
  | start=>exact ⟨p,pn,rfl,.start⟩
  | @step y z hy t a ih=>
   obtain ⟨x,xn,rfl,hx⟩:=ih;obtain ⟨u,un,rfl⟩:=r.iZ z a.2.1;refine ⟨u,un,rfl,.step hx ?_ ((r.aZ x u xn un).mp a)⟩;rcases t with t | t;·exact .inl (r.inj x p xn pn t)
   ·exact .inr ((hS x xn).mp t)
 have PV:(l.map f).Nodup:=by rw [iA,iz];exact (iA.mp nd).imp_of_mem fun{a b} ha hb ne e=>ne (r.inj a b (rn ((hl a).mp ha).2.2) (rn ((hl b).mp hb).2.2) e)
 rw [rG aM pn l nd hl,rG i3 (r.lt p pn) (l.map f) PV fun y=>?_,aB];rw [bS];constructor
 ·rintro ⟨x,hx,rfl⟩
  obtain ⟨h1,h2,h3⟩:=(hl x).mp hx;exact ⟨fun e=>h1 (r.inj x p (rn h3) pn e),fun h=>h2 ((hS x (rn h3)).mp h),to h3⟩
 ·rintro ⟨h1,h2,h3⟩
  obtain ⟨x,xn,rfl,hx⟩:=PU h3;exact ⟨x,(hl x).mpr ⟨fun e=>h1 (by rw [e]),fun h=>h2 ((hS x xn).mpr h),hx⟩,rfl⟩
theorem dP.lA{n:Nat}{L L':ax}{f:Nat→Nat}(r:dP n L L' f)(aM:cA n L)(i3:cA n L'):∀(o S S':List Nat),(∀x∈o,x<n)→(∀x,x<n→(f x∈S'↔x∈S))→df n L' S' (o.map f)=df n L S o
 | [],_,_,_,_=>rfl
 | p::o,S,S',ho,hS=>by
  have pn:=ho p (by simp)
  show bJ n L' S' (f p)+df n L' (aH S' (f p)) (o.map f)=bJ n L S p+df n L (aH S p) o;rw [r.cost aM i3 hS pn,dP.lA r aM i3 o (aH S p) (aH S' (f p)) (fun x hx=>ho x (cB _ hx)) fun x xn=>?_];rw [fI,fI,hS x xn];constructor
  ·rintro (e | h)
   ·exact .inl (r.inj x p xn pn e)
   ·exact .inr h
  ·rintro (e | h)
   ·exact .inl (by rw [e])
   ·exact .inr h
variable {o:List Nat}
theorem dP.perm(r:dP n L L' f)(ho:o.Perm (List.range n)):(o.map f).Perm (List.range n):=by
 have h1:((List.range n).map f).Perm (List.range n):=by
  have nd:((List.range n).map f).Nodup:=by rw [iA,iz];refine (iA.mp (dr (n:=n))).imp_of_mem fun{a b} ha hb ne e=>ne (r.inj a b (aQ.mp ha) (aQ.mp hb) e)
  refine BE nd (fun y hy=>?_) (by simp)
  obtain ⟨k,hk,rfl⟩:=bS.mp hy;exact r.lt k (aQ.mp hk)
 exact (ho.map f).trans h1
variable {c:Int}
theorem dP.j8(r:dP n L L' f)(aM:cA n L)(i3:cA n L')(low:c≤wW n L []){o₀ o':List Nat}(h0:o₀.Perm (List.range n))(t0:df n L [] o₀=c)(h':o'.Perm (List.range n))(t':df n L' [] o'=wW n L' []):wW n L' []=c:=by
 have e0:∀x,x<n→(f x∈([]:List Nat)↔x∈([]:List Nat)):=fun x _=>by simp
 have up:wW n L' []≤c:=by
  rw [←t0,←r.lA aM i3 o₀ [] [] (fun x hx=>aQ.mp (h0.mem_iff.mp hx)) e0]
  exact Bx (r.perm h0)
 have hx:∃o:List Nat,o.Perm (List.range n)∧o.map f=o':=by
  let g:Nat→Nat:=fun x=>if h:x<n then choose (r.iZ x h) else 0
  have hg:∀x,x<n→g x<n∧f (g x)=x:=fun x hx=>by
   show (if h:x<n then choose (r.iZ x h) else 0)<n∧f (if h:x<n then choose (r.iZ x h) else 0)=x
   rw [dif_pos hx]
   exact choose_spec (r.iZ x hx)
  have x8:∀x∈o',x<n:=fun x hx=>aQ.mp (h'.mem_iff.mp hx)
  have em:(o'.map g).map f=o':=by
   rw [bR]
   conv=>rhs;rw [←l7 o']
   exact fj fun x hx=>(hg x (x8 x hx)).2
  refine ⟨o'.map g,?_,em⟩
  have nd:(o'.map g).Nodup:=by
   rw [iA,iz]
   have xV:o'.Nodup:=h'.nodup_iff.mpr dr
   exact (iA.mp xV).imp_of_mem fun{a b} ha hb ne e=>ne (by rw [←(hg a (x8 a ha)).2,←(hg b (x8 b hb)).2,e])
  refine BE nd (fun y hy=>?_) (by rw [aB,h'.length_eq,b6])
  obtain ⟨k,hk,rfl⟩:=bS.mp hy
  exact (hg k (x8 k hk)).1
 obtain ⟨o,po,rfl⟩:=hx
 have h1:=Bx (L:=L) po
 rw [r.lA aM i3 o [] [] (fun x hx=>aQ.mp (po.mem_iff.mp hx)) e0] at t'
 omega
theorem dP.ring(r:dP n L L' f)(h:e7 n L fun k=>k):e7 n L' f:=
 ⟨r.lt,r.inj,r.iZ,fun j k hj hk=>(r.aZ j k hj hk).trans (h.aZ j k hj hk)⟩
theorem e7.step{n:Nat}{L:ax}{cy:Nat→Nat}(r:e7 n L cy)(n3:3≤n)(aM:cA n L){S:List Nat}{p k:Nat}(hS:S∈a9 n)(hp:p∈aK n S)(lk:(aK n S).length=k+1):bJ n L S p+fK k=fK (k+1):=by
 have lm:∀x,x∈aK n S↔x<n∧x∉S:=fun x=>by unfold aK;rw [bF,aQ];simp
 have BB:(aK n S).Nodup:=dr.filter _;obtain ⟨pn,pS⟩:=(lm p).mp hp;obtain ⟨c2,c1,c0⟩:=r.cost n3 aM (S:=S) pn pS;obtain ⟨rest,jj⟩:∃rest,(aK n S).Perm (p::rest):=⟨(aK n S).erase p,List.perm_cons_erase hp⟩;have lr:rest.length=k:=by have:=jj.length_eq;rw [lk,cL] at this;omega
 have vk:=jj.nodup_iff.mp BB;have rm:∀x,x∈rest→x<n∧x∉S∧x≠p:=fun x hx=>by have:=(lm x).mp (jj.mem_iff.mpr (cB _ hx));exact ⟨this.1,this.2,fun e=>(eh.mp vk).1 (e▸hx)⟩
 have mr:∀x,x<n→x≠p→x∉S→x∈rest:=fun x xn xp xS=>by
  rcases b3.mp (jj.mem_iff.mp ((lm x).mpr ⟨xn,xS⟩)) with h | h;·exact absurd h xp
  ·exact h
 match k,rest,lr with
 | 0,[],_=>
  rw [c0 fun x xn xp=>byContradiction fun h=>by cases mr x xn xp h]
  rfl
 | 1,[x],_=>
  have hx:=rm x (by simp)
  rw [c1 ⟨x,hx.1,hx.2.2,hx.2.1,fun y yn yp yS=>cg.mp (mr y yn yp yS)⟩];rfl
 | k+2,x::y::rest,_=>
  have hx:=rm x (by simp)
  have hy:=rm y (by simp)
  have xy:x≠y:=fun e=>(eh.mp (eh.mp vk).2).1 (by rw [e];simp)
  rw [c2 ⟨x,y,hx.1,hy.1,xy,hx.2.2,hy.2.2,hx.2.1,hy.2.1⟩];show (11:Int)+(11*((k:Nat):Int)+6)=11*((k+1:Nat):Int)+6
  push_cast
  omega
theorem Gp(hS:S∈a9 n)(pn:p<n)(pS:p∉S):aH S p∈a9 n:=by
 obtain ⟨up,lt⟩:=cQ.mp hS;refine cQ.mpr ⟨kd up pS,fun x hx=>?_⟩;rcases fI.mp hx with e | h;·rw [e];exact pn
 ·exact lt x h
variable {x:Nat}
theorem Gq:x∈aK n S↔x<n∧x∉S:=by unfold aK;rw [bF,aQ];simp
theorem e7.lA{n:Nat}{L:ax}{cy:Nat→Nat}(r:e7 n L cy)(n3:3≤n)(aM:cA n L):∀(o S:List Nat),S∈a9 n→o.Perm (aK n S)→df n L S o=fK o.length
 | [],_,_,_=>rfl
 | p::o,S,hS,ho=>by
  have hp:p∈aK n S:=ho.mem_iff.mp (by simp)
  obtain ⟨pn,pS⟩:=Gq.mp hp;show bJ n L S p+df n L (aH S p) o=fK (o.length+1);rw [e7.lA r n3 aM o (aH S p) (Gp hS pn pS) (F6 ho)];exact r.step n3 aM hS hp (by rw [←ho.length_eq];rfl)
theorem PX(n:Nat):aK n []=List.range n:=by unfold aK;exact List.filter_eq_self.mpr fun x _=>by simp
def lB(M:List (Nat×Nat))(a b:Nat):Bool:=M.any fun z=>(z.1 == a && z.2 == b) || (z.1 == b && z.2 == a)
def cI(M:List (Nat×Nat)):List (Int×Int):=M.map fun z=>((z.1:Int),(z.2:Int))
variable {M:List (Nat×Nat)}
theorem Gr:(((a:Int),(b:Int))∈cI M)↔(a,b)∈M:=by
 unfold cI;rw [bS];constructor
 ·rintro ⟨⟨x,y⟩,h,e⟩
  have e1:=b_ Prod.fst e;have e2:=b_ Prod.snd e;dsimp only at e1 e2;have h1:x=a:=by omega
  have h2:y=b:=by omega
  rw [←h1,←h2];exact h
 ·exact fun h=>⟨(a,b),h,rfl⟩
theorem x9(ha:a<n)(hb:b<n):lB M a b=true↔aL n (cI M) a b:=by
 unfold lB aL;rw [tY,Gr,Gr];constructor
 ·rintro ⟨⟨x,y⟩,h,e⟩
  simp only [wq,iu,beq_iff_eq] at e;rcases e with ⟨rfl,rfl⟩ | ⟨rfl,rfl⟩;·exact ⟨ha,hb,.inl h⟩
  ·exact ⟨ha,hb,.inr h⟩
 ·rintro ⟨_,_,h | h⟩
  ·exact ⟨_,h,by simp⟩
  ·exact ⟨_,h,by simp⟩
def dC(n:Nat)(M:List (Nat×Nat)):Bool:=decide M.Nodup && M.all (fun z=>decide (z.1<z.2∧z.2<n)) && decide (M.length≤n*n / 2)
theorem ke(h:dC n M=true):hG n (cI M):=by
 unfold dC at h;obtain ⟨h1,h3⟩:=(iu ..).mp h;obtain ⟨h1,h2⟩:=(iu ..).mp h1;refine ⟨?_,fun z hz=>?_,by unfold cI;rw [aB];exact d7 h3⟩
 ·unfold cI
  rw [iA,iz];refine (iA.mp (d7 h1)).imp fun{a b} ne e=>ne ?_;have e1:=b_ Prod.fst e;have e2:=b_ Prod.snd e;dsimp only at e1 e2;exact Prod.ext (by omega) (by omega)
 ·unfold cI at hz
  obtain ⟨y,hy,rfl⟩:=bS.mp hz;have:=d7 (gv.mp h2 y hy);dsimp only;omega
theorem lC(ok:hG n L):cA n L:=fun p hp=>by have:=ok.lt p hp;exact ⟨this.1,by omega,by omega,this.2.2⟩
def PY(n:Nat)(M:List (Nat×Nat)):Bool:=(List.range n).all fun j=>(List.range n).all fun k=>lB M j k == decide (k=j+1∨j=k+1∨(j=0∧k+1=n)∨(k=0∧j+1=n))
theorem vt(h:PY n M=true):e7 n (cI M) fun k=>k:=by refine ⟨fun k hk=>hk,fun j k _ _ e=>e,fun x hx=>⟨x,hx,rfl⟩,fun j k hj hk=>?_⟩;have:=gv.mp (gv.mp h j (aQ.mpr hj)) k (aQ.mpr hk);rw [←x9 hj hk,beq_iff_eq.mp this,dS]
def e9(ps:List Nat):List (Nat×Nat):=(List.range ps.length).map fun k=>(min (ps.getD k 0) (ps.getD ((k+1) % ps.length) 0),max (ps.getD k 0) (ps.getD ((k+1) % ps.length) 0))
def gm:Nat→List (Nat×Nat)
 | 0=>[]
 | k+1=>gm k++(2*k,2*k+1)::(if 0<k then [(2*k-2,2*k),(2*k-1,2*k+1)] else [])
def lE(one other:Nat):List (Nat×Nat):=e9 (List.range one)++e9 (0::(List.range (other-1)).map fun k=>one+k)
def rK(size:Nat):List (Nat×Nat):=e9 (List.range size)++(List.range size).map fun k=>(k,size)
def Gs(l S:List Nat):Nat:=(l.filter fun x=>!S.contains x).length
def x_(A B:List Nat)(S:List Nat):Int:=fK (Gs A S)+fK (Gs B S)-(if S.contains 0 then 0 else 1)
structure kg (n:Nat) (M:List (Nat×Nat)) (c:Int):Prop where
 ok:hG n (cI M)
 low:c≤wW n (cI M) []
 Gu:∃o:List Nat,o.Perm (List.range n)∧df n (cI M) [] o=c
theorem oU{val:List Nat→Int}(h1:dC n M=true)(h2:Gk n (lB M) k val=true)(h3:val (List.range n)≤0)(h4:val []=c)(h5:rJ n (lB M) k [] o=some c)(h6:o.isPerm (List.range n)=true):kg n M c:=by have ok:=ke h1;refine ⟨ok,?_,o,List.isPerm_iff.mp h6,Gm (lC ok) (fun a b ha hb=>x9 ha hb) o [] c h5⟩;rw [←h4];exact PQ (lC ok) (fun a b ha hb=>x9 ha hb) h2 h3 n [] (x6 n) rfl
theorem PZ:kg 2 (gm 1) 6:=oU (k:=4) (val:=fun S=>fK (2-S.length)) (o:=[0,1]) (by decide +kernel) (by decide +kernel) (by decide +kernel) (by decide +kernel) (by decide +kernel) (by decide +kernel)
theorem P1:kg 4 (gm 2) 28:=oU (k:=4) (val:=fun S=>fK (4-S.length)) (o:=[0,1,2,3]) (by decide +kernel) (by decide +kernel) (by decide +kernel) (by decide +kernel) (by decide +kernel) (by decide +kernel)
theorem P2:kg 6 (gm 3) 50:=oU (k:=5) (val:=fun S=>fK (6-S.length)) (o:=[0,1,2,3,4,5]) (by decide +kernel) (by decide +kernel) (by decide +kernel) (by decide +kernel) (by decide +kernel) (by decide +kernel)
theorem P4:kg 5 (lE 3 3) 33:=oU (k:=4) (val:=x_ [0,1,2] [0,3,4]) (o:=[1,2,3,4,0]) (by decide +kernel) (by decide +kernel) (by decide +kernel) (by decide +kernel) (by decide +kernel) (by decide +kernel)
theorem P5:kg 6 (lE 3 4) 44:=oU (k:=4) (val:=x_ [0,1,2] [0,3,4,5]) (o:=[1,2,3,4,5,0]) (by decide +kernel) (by decide +kernel) (by decide +kernel) (by decide +kernel) (by decide +kernel) (by decide +kernel)
theorem P6:kg 6 (lE 4 3) 44:=oU (k:=4) (val:=x_ [0,1,2,3] [0,4,5]) (o:=[1,2,3,4,5,0]) (by decide +kernel) (by decide +kernel) (by decide +kernel) (by decide +kernel) (by decide +kernel) (by decide +kernel)
theorem P7:kg 7 (lE 4 4) 55:=oU (k:=4) (val:=x_ [0,1,2,3] [0,4,5,6]) (o:=[1,2,3,4,5,6,0]) (by decide +kernel) (by decide +kernel) (by decide +kernel) (by decide +kernel) (by decide +kernel) (by decide +kernel)
variable {m:Nat}
theorem P8(m1:1≤m)(m3:m≤3):kg (2*m) (gm m) (22*(m:Int)-16):=by
 rcases (show m=1∨m=2∨m=3 by omega) with rfl | rfl | rfl
 ·exact PZ
 ·exact P1
 ·exact P2
theorem P9(ha:a=3∨a=4)(hb:b=3∨b=4):kg (a+b-1) (lE a b) (11*((a:Int)+(b:Int))-33):=by
 rcases ha with rfl | rfl <;> rcases hb with rfl | rfl;·exact P4
 ·exact P5
 ·exact P6
 ·exact P7
theorem P_(m3:3≤m)(m7:m≤7):hG m (cI (e9 (List.range m)))∧e7 m (cI (e9 (List.range m))) fun k=>k:=by
 rcases (show m=3∨m=4∨m=5∨m=6∨m=7 by omega) with rfl | rfl | rfl | rfl | rfl
 ·exact ⟨ke (by decide +kernel),vt (by decide +kernel)⟩
 ·exact ⟨ke (by decide +kernel),vt (by decide +kernel)⟩
 ·exact ⟨ke (by decide +kernel),vt (by decide +kernel)⟩
 ·exact ⟨ke (by decide +kernel),vt (by decide +kernel)⟩
 ·exact ⟨ke (by decide +kernel),vt (by decide +kernel)⟩
def BF(size:Nat)(E:Nat→Nat→Bool)(k:Nat):Bool:=(a9 size).all fun S=>(aK size S).all fun p=>vp (size+1) E S p (e8 (size+1) E S p k) && decide (1≤rH (size+1) E S p k) && decide (cst (rH (size+1) E S p k-1)+fK (size-S.length-1)=fK (size-S.length))
theorem Qa(m3:3≤m)(m6:m≤6):hG (m+1) (cI (rK m))∧BF m (lB (rK m)) 5=true:=by
 rcases (show m=3∨m=4∨m=5∨m=6 by omega) with rfl | rfl | rfl | rfl
 ·exact ⟨ke (by decide +kernel),by decide +kernel⟩
 ·exact ⟨ke (by decide +kernel),by decide +kernel⟩
 ·exact ⟨ke (by decide +kernel),by decide +kernel⟩
 ·exact ⟨ke (by decide +kernel),by decide +kernel⟩
theorem Qb(h:cst a=cst b):a=b:=by
 unfold cst at h;rcases Nat.lt_trichotomy a b with c | c | c
 ·have h1:(a:Int)*a≤(b:Int)*b:=Int.mul_le_mul (by omega) (by omega) (by omega) (by omega)
  omega
 ·exact c
 ·have h1:(b:Int)*b≤(a:Int)*a:=Int.mul_le_mul (by omega) (by omega) (by omega) (by omega)
  omega
theorem Gv{A B:List Nat}(nd:(A++x::B).Nodup):(A++x::B).idxOf y<(A++x::B).idxOf x↔y∈A:=by
 have xA:x∉A:=fun h=>by rw [l5] at nd;exact nd.2.2 x h x (by simp) rfl
 rw [l9,l9,aa xA,List.idxOf_cons_self];constructor
 ·intro h
  by_cases e:y∈A;·exact e
  ·rw [aa e] at h
   omega
 ·intro h
  rw [ae h];have:=tZ h;omega
theorem Gw{n:Nat}:∀(pre acc:List Nat),acc∈a9 n→(∀x∈pre,x<n∧x∉acc)→pre.Nodup→pre.foldl aH acc∈a9 n∧(pre.foldl aH acc).length=acc.length+pre.length
 | [],acc,h,_,_=>⟨h,rfl⟩
 | p::pre,acc,h,hp,nd=>by
  obtain ⟨p1,p2⟩:=hp p (by simp)
  obtain ⟨n1,n2⟩:=eh.mp nd;have ih:=Gw pre (aH acc p) (Gp h p1 p2) (fun x hx=>⟨(hp x (cB _ hx)).1,fun hm=>?_⟩) n2
  ·refine ⟨ih.1,?_⟩
   rw [List.foldl_cons,ih.2,oQ,cL];omega
  ·rcases fI.mp hm with e | h'
   ·exact n1 (e▸hx)
   ·exact (hp x (cB _ hx)).2 h'
theorem dP.refl:dP n L L fun k=>k:=⟨fun _ h=>h,fun _ _ _ _ h=>h,fun x h=>⟨x,h,rfl⟩,fun _ _ _ _=>Iff.rfl⟩
theorem Gx{α:Type}(h:α→Int):∀{l m:List α},l.Perm m→(l.map h).sum=(m.map h).sum:=fun p=>by
 induction p with
 | nil=>rfl
 | cons x _ ih=>rw [bM,bM,cM,cM,ih]
 | swap x y l=>rw [bM,bM,bM,bM,cM,cM,cM,cM];omega
 | trans _ _ h1 h2=>exact h1.trans h2
variable {bA:List Nat} {g:Nat→List Nat}
theorem Qc(r:dP (m+1) (cI M) L' f)(aM:cA (m+1) (cI M))(i3:cA (m+1) L')(hw:BF m (lB M) k=true)(ho:bA.Perm (List.range m))
  (hg:∀p,p<m+1→gK (m+1) ((bA++[m]).map f) p (g p)∧ic (m+1) L' ((bA++[m]).map f) p (g p)) :
  (∀x,x<m→1≤(g (f x)).length)∧(bA.map fun x=>cst ((g (f x)).length-1)).sum=fK m∧(g (f m)).length=0:=by
 have hn:(bA++[m]).Perm (List.range (m+1)):=by rw [tQ];exact ho.append_right [m]
 have hp:=r.perm hn;have mZ:∀x∈bA,x<m:=fun x hx=>aQ.mp (ho.mem_iff.mp hx);have Qd:bA.Nodup:=ho.nodup_iff.mpr dr;have main:∀(rest pre:List Nat),bA=pre++rest→(∀x∈rest,1≤(g (f x)).length)∧(rest.map fun x=>cst ((g (f x)).length-1)).sum=fK rest.length:=fun rest=>by
  induction rest with
  | nil=>exact fun pre _=>⟨fun x h=>(by cases h),rfl⟩
  | cons p rest ih=>
   intro pre e;obtain ⟨i1,i2⟩:=ih (pre++[p]) (by rw [e,fP];rfl)
   have pm:p<m:=mZ p (by rw [e];simp)
   have nd:(pre++p::rest).Nodup:=e▸Qd;have eo:(bA++[m]).map f=pre.map f++f p::(rest++[m]).map f:=by rw [e,fP,List.cons_append,dR,bM]
   have BG:(pre.map f++f p::(rest++[m]).map f).Nodup:=eo▸(hp.nodup_iff.mpr dr);have BH:∀x∈pre,x<m:=fun x hx=>mZ x (by rw [e];exact qp _ hx)
   have hS:∀y,y∈pre.map f↔d5 (m+1) ((bA++[m]).map f) (((bA++[m]).map f).idxOf (f p)) y:=fun y=>by unfold d5;rw [eo,Gv BG];refine ⟨fun h=>⟨?_,h⟩,fun h=>h.2⟩;obtain ⟨x,hx,rfl⟩:=bS.mp h;exact r.lt x (by have:=BH x hx;omega)
   have c1:=F8 hp i3 (r.lt p (by omega)) hS (hg (f p) (r.lt p (by omega)))
   have c2:bJ (m+1) L' (pre.map f) (f p)=bJ (m+1) (cI M) pre p:=r.cost aM i3 (fun x xn=>by rw [bS];exact ⟨fun⟨y,hy,ey⟩=>r.inj y x (by have:=BH y hy;omega) xn ey▸hy,fun h=>⟨x,h,rfl⟩⟩) (by omega)
   have fp:=Gw (n:=m) pre [] (x6 m) (fun x hx=>⟨BH x hx,fun h=>by cases h⟩) (l5.mp nd).1
   have c3:bJ (m+1) (cI M) pre p=bJ (m+1) (cI M) (pre.foldl aH []) p:=dP.refl.cost aM aM (fun x _=>by rw [x5];simp) (by omega)
   have pS:p∉pre.foldl aH []:=fun h=>by
    rcases (x5 pre [] p).mp h with h | h;·exact (l5.mp nd).2.2 p h p (by simp) rfl
    ·cases h
   have ck:=gv.mp (gv.mp hw _ fp.1) p (Gq.mpr ⟨pm,pS⟩);obtain ⟨ck,k3⟩:=(iu ..).mp ck;obtain ⟨k1,k2⟩:=(iu ..).mp ck;have k2:=d7 k2;have k3:=d7 k3;have c4:=BD aM (fun a b ha hb=>x9 ha hb) (show p<m+1 by omega) k1
   have el:(g (f p)).length=rH (m+1) (lB M) (pre.foldl aH []) p k:=Qb (c1.trans (c2.trans (c3.trans c4)));have VB:pre.length+rest.length+1=m:=by have:=ho.length_eq;rw [e,dh,cL,b6] at this;omega
   have lf:(pre.foldl aH []).length=pre.length:=by rw [fp.2];simp
   rw [←el,lf,show m-pre.length-1=rest.length by omega,show m-pre.length=rest.length+1 by omega] at k3
   refine ⟨fun x hx=>?_,?_⟩
   ·rcases b3.mp hx with rfl | hx
    ·rw [el];exact k2
    ·exact i1 x hx
   ·rw [bM,cM,i2,cL]
    exact k3
 obtain ⟨h1,h2⟩:=main bA [] rfl;refine ⟨fun x hx=>h1 x (ho.mem_iff.mpr (aQ.mpr hx)),?_,?_⟩;·rw [h2,ho.length_eq,b6]
 ·have hm:=(hg (f m) (r.lt m (by omega))).1
  cases e:g (f m) with
  | nil=>rfl
  | cons q l=>
   rw [e] at hm;have h3:=hm.la q (by simp)
   have h4:=hm.lt q (by simp)
   have eo:(bA++[m]).map f=bA.map f++f m::[]:=by rw [dR];rfl
   have BG:(bA.map f++f m::[]).Nodup:=eo▸(hp.nodup_iff.mpr dr);have:q∈(bA++[m]).map f:=hp.mem_iff.mpr (aQ.mpr h4);rw [eo] at this h3;rcases dQ.mp this with h | h
   ·have:=(Gv BG).mpr h
    omega
   ·rw [cg.mp h] at h3
    exact absurd h3 (dm _)
theorem Qe{N:ax}(r:dP (m+1) (cI M) L' f)(aM:cA (m+1) (cI M))(i3:cA (m+1) L')(hw:BF m (lB M) k=true)(ho:bA.Perm (List.range m))
  (hg:∀p,p<m+1→gK (m+1) ((bA++[m]).map f) p (g p)∧ic (m+1) L' ((bA++[m]).map f) p (g p)) (fN:iV (m+1) L' ((bA++[m]).map f) N) :
  (mV (m+1) N:Int)=fK m+(((List.range (m+1)).filter fun x=>!decide (x=f m)).map fun x=>2*(((g x).length:Int)-1)+4).sum+1:=by
 obtain ⟨h1,h2,h3⟩:=Qc r aM i3 hw ho hg;have hn:(bA++[m]).Perm (List.range (m+1)):=by rw [tQ];exact ho.append_right [m]
 have hp:=r.perm hn;have e1:=Bn hp fN hg;have e2:(mV (m+1) N:Int)=((List.range (m+1)).map fun x=>cst (g x).length).sum:=by
  rw [←e1];generalize List.range (m+1)=l
  induction l with
  | nil=>rfl
  | cons x l ih=>
   rw [bM,bM,cM,cM,←ih];unfold cst
   push_cast
   rfl
 have pf:((List.range (m+1)).filter fun x=>!decide (x=f m)).Perm (bA.map f):=by
  have Qf:((bA++[m]).map f).filter (fun x=>!decide (x=f m))=bA.map f:=by
   rw [dR,qF,List.map_singleton,List.filter_eq_self.mpr,l8];·simp
   ·intro x hx
    obtain ⟨y,hy,rfl⟩:=bS.mp hx;have ym:=aQ.mp (ho.mem_iff.mp hy);have:f y≠f m:=fun e=>by have:=r.inj y m (by omega) (by omega) e;omega
    simp [this]
  rw [←Qf];exact hp.symm.filter _
 rw [e2,←Gx (fun x=>cst (g x).length) hp,Gx _ pf,dR,dR,List.sum_append,←h2];have e3:(List.map (fun x=>cst (g x).length) (List.map f [m])).sum=1:=by simp only [bM,qr,cM,List.sum_nil,h3];rfl
 rw [e3,bR,bR];have mZ:∀x∈bA,x<m:=fun x hx=>aQ.mp (ho.mem_iff.mp hx);clear h2 e3 pf e2 e1 fN hp hn hg ho
 congr 1
 induction bA with
 | nil=>rfl
 | cons x l ih=>
  have hx:=h1 x (mZ x (by simp))
  rw [bM,bM,bM,cM,cM,cM,ih fun y hy=>mZ y (cB _ hy)];dsimp only [Function.comp];obtain ⟨d,hd⟩:∃d,(g (f x)).length=d+1:=⟨(g (f x)).length-1,by omega⟩
  rw [hd,Nat.add_sub_cancel];have:cst (d+1)=cst d+(2*(((d+1:Nat):Int)-1)+4):=by
   unfold cst
   push_cast
   rw [Int.add_mul,Int.mul_add];omega
  rw [this];omega
end My
namespace L2
open PySem PySem.Spec PyProof.Rows My
section
variable {X:Cx}
def Qg:List V→Hp→VK→Prop:=fun xs H Q=>∃i j:Int,xs=[.int i,.int j]∧∀p,H p=none→Q (.ref p) (upd H p (.bH i j))
theorem Qh:eC X (.type "range") Qg:=by intro pins s σ H xs us Q I r h;obtain ⟨i,j,rfl,q⟩:=h;obtain ⟨u,v,rfl,ru,rv⟩:=vals2 r;obtain ⟨t,rfl⟩:=ru;obtain ⟨t',rfl⟩:=rv;refine call_range_2 ⟨.ref s.heap.objs.size,_,I.laid (o:=.bH i j) (fun b o e=>bW _ e) (aw _) ⟨_,_,_,dE _ rfl⟩,rfl,q _ (I.au.fresh (aw _))⟩
def Qi:List V→Hp→VK→Prop:=fun xs H Q=>∃(p:Addr) (a n:Nat),xs=[.ref p]∧H p=some (.bH (a:Int) ((a+n:Nat):Int))∧a+n≤10000∧∀l,H l=none→Q (.ref l) (upd H l (.lst ((List.range n).map fun i:Nat=>V.int ((a+i:Nat):Int))))
theorem Qj(hc:X.calm=true):eC X (.type "list") Qi:=by
 intro pins s σ H xs us Q I r h;obtain ⟨p,a,n,rfl,hp,hn,q⟩:=h;obtain ⟨u,rfl,ru⟩:=vals1 r;cases ru;obtain ⟨t,u,v,e⟩:=(show bX X.prog X.w H s.heap p (.bH (a:Int) ((a+n:Nat):Int)) from I.au p _ hp);refine call_list_range (n:=n) (I.ok.hd hc) e (small_one (by omega) (by omega) (by omega) (by omega)) (by rw [rangeSize_one];split <;> omega) (by omega) fun h' tk acc c hk hD hit=>?_
 refine ⟨.ref s.heap.objs.size,_,I.laid (o:=.lst ((List.range n).map fun i:Nat=>V.int ((a+i:Nat):Int))) (fun b o e=>hk b o e) (aw _) ⟨?_,acc.toList,c,?_,?_⟩,rfl,q _ (I.au.fresh (aw _))⟩
 ·rw [aB,b6]
  exact b5 (show n≤10000 by omega) (by decide)
 ·refine AB ?_ fun i x u h1 h2=>?_
  ·rw [aB,b6,ee,hit.1]
  ·have uI:acc[i]?=some u:=by simpa using h2
   obtain ⟨cJ,e'⟩:=hit.2 i u uI;rw [bt] at h1;have hi:i<n:=by have z:=(Array.getElem?_eq_some_iff.mp uI).1;rw [hit.1] at z;exact z
   rw [eN hi] at h1;cases h1;exact ⟨cJ,by rw [e'];simp⟩
 ·rw [hD]
end
end L2
namespace My
open PySem L2
def Qk:Sp:=fun vs H Q _=>∃(pl:Addr) (ps:List Nat),vs=[.ref pl]∧H pl=some (.lst (ps.map fun k:Nat=>V.int (k:Int)))∧1≤ps.length∧ps.length≤30 ∧
 ∀(H':Hp) (D:Addr) (us:List V),ai H H'→H D=none→H' D=some (.lst us)→bu H' us (cI (e9 ps))→Q (.ref D) H'
def Ql:Sp:=fun vs H Q _=>∃(m:Nat),vs=[.int (m:Int)]∧m≤30 ∧
 ∀(H':Hp) (D:Addr) (us:List V),ai H H'→H D=none→H' D=some (.lst us)→bu H' us (cI (gm m))→Q (.ref D) H'
theorem Gy:∀m,(gm m).length≤3*m
 | 0=>bU _
 | m+1=>by
  have:=Gy m;unfold gm;rw [dh,cL]
  split <;> simp <;> omega
theorem oV(A B:List (Nat×Nat)):cI (A++B)=cI A++cI B:=dR ..
theorem vv(A:List (Nat×Nat)):(cI A).length=A.length:=aB ..
theorem bu.snoc{H:Hp}{D b:Addr}{us:List V}{L:ax}{p:Int×Int}(h:bu H us L)(eD:H D=some (.lst us))(e:H b=some (.tup [.int p.1,.int p.2])):bu (upd H D (.lst (us++[.ref b]))) (us++[.ref b]) (L++[p]):=
 bu.cu (h.push e) eD (fun c o hc ec=>(aR hc).trans ec)
end My
namespace L2
open PySem PySem.Spec PyProof.Rows My
variable {K:aC}
theorem Qm{l:Addr}{xs:List V}{H1:Hp}(h:bC K H1 l xs):EC (q5 K l) ((List.range xs.length).zip xs |>.map fun p=>(V.int (p.1:Int),p.2)) H1 where
 go:=fun i Hc s hi=>by
  have hi:i<xs.length:=by simpa using hi
  exact ⟨xs,xs[i],s.seq h,by simp [hi]⟩
 cV:=fun i Hc v H' s y=>by
  obtain ⟨T,x,nT,e1,e2,e3⟩:=y;refine ⟨T,.int (i:Int),x,e1,nT,e2,fun hi=>?_⟩;have hi:i<xs.length:=by simpa using hi
  have:=e3 xs (s.seq h);rw [bt,(List.getElem?_zip_eq_some (z:=(i,x))).mpr ⟨eN hi,this⟩];rfl
 stop:=fun i Hc s hi=>by
  have hi:xs.length≤i:=by simpa using hi
  exact ⟨xs,s.seq h,hi⟩
theorem Qn{wi:TI}{ρ:St→St}{tt:TT}{te:TE}{σ:St}{H:Hp}{Q:VK}{zs:List (V×V)}(pr:V×V→Bool)(val:V×V→V)(eU:∀R:It→Hp→Prop,(∀J H1,ai H H1→EC J zs H1→R J H1)→wi σ H R)(hn:zs.length<sizeLine)
  (test:∀x y,(x,y)∈zs→∀(Hc:Hp) (R:Bool→Hp→Prop),ai H Hc→(∀Hd,ai Hc Hd→R (pr (x,y)) Hd)→tt (some x::some y::ρ σ) Hc R)
  (elem:∀x y,(x,y)∈zs→pr (x,y)=true→∀(Hc:Hp) (R:VK),ai H Hc→(∀Hd,ai Hc Hd→R (val (x,y)) Hd)→te (some x::some y::ρ σ) Hc R)
  (fin:∀D Hc,H D=none→ai H Hc→Hc D=some (.lst ((zs.filter pr).map val))→Q (.ref D) Hc):kW K wi ρ tt te σ H Q:=by
 refine eU _ fun J H1 s1 js=>?_;intro D nD;refine ⟨fun i m vs Hc=>m=zs.length-i∧i≤zs.length∧Hc D=some (.lst vs)∧ai H1 Hc∧vs.length≤i∧vs=((zs.take i).filter pr).map val,⟨_,rfl,bU _,ar,dW (ai.refl H1) nD,aw _,rfl⟩,?_⟩;rintro i m vs Hc ⟨rfl,hi,eD,sH,el,hP⟩;refine ⟨eD,?_⟩;by_cases ba:i<zs.length
 ·refine .inr ⟨js.go i Hc sH ba,fun v H' hy=>?_⟩
  obtain ⟨T,x,y,ev,nT,eH,hx⟩:=js.cV i Hc v H' sH hy;subst ev eH;have ex:=hx ba;have mx:(x,y)∈zs:=i8 ex;have tk:zs.take (i+1)=zs.take i++[(x,y)]:=by rw [l6,ex];rfl
  refine ⟨T,x,y,rfl,.of ar,?_⟩;have sT:ai Hc (upd Hc T (.tup [x,y])):=fun b o e=>by rw [aR (jd e nT)];exact e
  refine test x y mx _ _ (s1.trans (sH.trans sT)) fun Hd sd=>?_;have ya:=sd _ _ (sT _ _ eD);have BI:=sH.trans (sT.trans sd);by_cases hb:pr (x,y)=true
  ·rw [ae hb]
   refine elem x y mx hb _ _ (s1.trans BI) fun He se=>?_;refine ⟨se _ _ ya,by omega,zs.length-(i+1),by omega,rfl,ba,ar,dW (BI.trans se) nD,by simp;omega,?_⟩
   rw [tk,qF,dR,←hP,l8,ae hb];rfl
  ·rw [aa hb]
   refine ⟨zs.length-(i+1),by omega,rfl,ba,ya,BI,by omega,?_⟩
   rw [tk,qF,l8,aa hb,List.filter_nil,qq];exact hP
 ·have e:i=zs.length:=by omega
  subst e;rw [jJ] at hP;subst hP;exact .inl ⟨js.stop _ Hc sH (aw _),fin D Hc (none_of s1 nD) (s1.trans sH) eD⟩
end L2
namespace My
open PySem L2
def Qo(K:aC):Sp:=fun vs H Q _=>∃(P a:Addr) (ns:List Int) (m:Nat),vs=[.ref P,.int (m:Int)]∧dX H P a∧bC K (er P H) a (ns.map V.int)∧3≤m∧m≤6∧∀H',aJ P H H'→dX H' P a→Q (.bl true) H'
theorem yb{n:Nat}{ys:List V}(pm:ys.Perm (aW n)):∃nm:Nat→Int,ys=(List.range n).map (fun k=>V.int (nm k))∧uZ n nm:=by
 obtain ⟨nm,ly,hy,N⟩:=Nf pm;refine ⟨nm,tP fun i=>?_,N⟩;rcases qy i n with h | h
 ·rw [hy i h,bt,eN h]
  rfl
 ·rw [lT (by omega),lT (by simp;omega)]
theorem BJ{α β:Type}(G:α→β):∀l:List α,l.zip (l.map G)=l.map fun x=>(x,G x)
 | []=>rfl
 | x::l=>by rw [bM,List.zip_cons_cons,BJ G l];rfl
theorem Qp(n h:Nat)(rs:Nat→Addr)(g:Nat→List Nat):((((List.range ((List.range n).map fun p=>V.ref (rs p)).length).zip ((List.range n).map fun p=>V.ref (rs p))).map fun p=>(V.int (p.1:Int),p.2)).filter fun z=>!decide (z.1=V.int (h:Int))).map (fun z=>V.int (((g (oJ z.1)).length:Int)-1))=((List.range n).filter fun x=>!decide (x=h)).map fun x=>V.int (((g x).length:Int)-1):=by
 rw [aB,b6,BJ,bR,List.filter_map,bR];have e:(List.range n).filter ((fun z:V×V=>!decide (z.1=V.int (h:Int))) ∘ ((fun p:Nat×V=>(V.int (p.1:Int),p.2)) ∘ fun x=>(x,V.ref (rs x))))=(List.range n).filter fun x=>!decide (x=h):=List.filter_congr fun x _=>by
  show (!decide (V.int (x:Int)=V.int (h:Int))) = !decide (x=h);rw [uJ];by_cases q:x=h;·rw [cf q,cf (by rw [q])]
  ·rw [bV q,bV (fun z=>q (by omega))]
 rw [e];refine fj fun x _=>?_;show V.int (((g (oJ (.int (x:Int)))).length:Int)-1)=_;rw [F_]
theorem Qq{K:aC}{wi:TI}{ρ:St→St}{tt:TT}{te:TE}{σ:St}{H:Hp}{Q:VK}(h:wi σ H fun J H1=>kW K (fun _ H R=>R J H) ρ tt te σ H1 Q):kW K wi ρ tt te σ H Q:=h
end My
set_option maxRecDepth 100000
set_option maxHeartbeats 4000000
namespace My
open PySem L2
def top(i:Nat):Stmt:=PySem.Challenge.pw_bandwright_k31_whole_rings_and_ladders.main.body.getD i (.Pass ⟨0,0,0,0⟩)
abbrev yc:Stmt:=top 5
abbrev yd:Stmt:=top 7
abbrev ye:Stmt:=top 9
abbrev yf:Stmt:=top 10
abbrev yg:Stmt:=top 11
abbrev yh:Stmt:=top 12
abbrev yi:Stmt:=top 13
abbrev yj:Stmt:=top 14
abbrev yk:Stmt:=top 15
abbrev yl:Stmt:=top 18
abbrev yo:Stmt:=top 19
abbrev yq:Stmt:=top 20
abbrev yr:Stmt:=top 21
abbrev yt:Stmt:=top 22
abbrev yu:Stmt:=top 23
abbrev yv:Stmt:=top 24
abbrev yw:Stmt:=top 25
abbrev yy:Stmt:=top 27
abbrev yA:Stmt:=top 28
abbrev yB:Stmt:=top 29
abbrev yC:Stmt:=top 30
abbrev yE:Stmt:=top 31
abbrev yF:Stmt:=top 32
abbrev yG:Stmt:=top 33
abbrev yH:Stmt:=top 34
structure BK where
 oW:Addr
 rN:FuncData
 oX:Addr
 rO:FuncData
 oY:Addr
 rP:FuncData
 oZ:Addr
 rQ:FuncData
 o6:Addr
 rR:FuncData
 o7:Addr
 rS:FuncData
 o8:Addr
 rT:FuncData
 o9:Addr
 rV:FuncData
 o_:Addr
 rW:FuncData
 pb:Addr
 rX:FuncData
 ph:Addr
 rY:FuncData
 pA:Addr
 rZ:FuncData
 pB:Addr
 r6:FuncData
 pC:Addr
 r_:FuncData
 pD:Addr
 si:FuncData
 pE:Addr
 sj:FuncData
 pF:Addr
 sk:FuncData
 pG:Addr
 sq:FuncData
 pH:Addr
 sr:FuncData
 pI:Addr
 su:FuncData
 pJ:Addr
 sv:FuncData
 pK:Addr
 sC:FuncData
 pL:Addr
 sD:FuncData
 pM:Addr
 sE:FuncData
 m4:Addr
 pN:FuncData
 lF:Addr
 sF:Addr
abbrev dg (mg:cN) (x:Str) (f:Addr):Prop:=mg x=some (.ref f)
abbrev Gz (K:aC) (a:Addr):Prop:=PySem.W.excIn K a [.type "ValueError",.type "Exception",.type "BaseException",.type "object"] "ValueError.__new__"=true
structure Txt (K:aC) (mg:cN) (t:BK):Prop where
 sG:bj K "is_whole" yc t.oW t.rN
 GA:Binds K t.rN ["thing"] []
 GB:dg mg "is_whole" t.oW
 pO:bj K "neighbours" yd t.oX t.rO
 BL:Binds K t.rO ["shape"] []
 BM:dg mg "neighbours" t.oX
 sI:bj K "is_order" ye t.oY t.rP
 GC:Binds K t.rP ["thing","n"] []
 GD:dg mg "is_order" t.oY
 sJ:bj K "check_order" yf t.oZ t.rQ
 GF:Binds K t.rQ ["order","n"] []
 GG:dg mg "check_order" t.oZ
 sL:bj K "turns_of" yg t.o6 t.rR
 GH:Binds K t.rR ["order"] []
 GI:dg mg "turns_of" t.o6
 sM:bj K "link_all" yh t.o7 t.rS
 GJ:Binds K t.rS ["linked","places"] []
 GK:dg mg "link_all" t.o7
 pP:bj K "later" yi t.o8 t.rT
 BN:Binds K t.rT ["shape","order"] []
 BO:dg mg "later" t.o8
 pQ:bj K "place_deeds" yj t.o9 t.rV
 BP:Binds K t.rV ["many"] []
 BQ:dg mg "place_deeds" t.o9
 m5:bj K "deeds" yk t.o_ t.rW
 yI:Binds K t.rW ["shape","order"] []
 yJ:dg mg "deeds" t.o_
 pR:bj K "check_size" yl t.pb t.rX
 BR:Binds K t.rX ["shape"] []
 BS:dg mg "check_size" t.pb
 sN:bj K "still_near" yo t.ph t.rY
 GL:Binds K t.rY ["linked","done","place"] []
 GN:dg mg "still_near" t.ph
 sO:bj K "cost" yq t.pA t.rZ
 GO:Binds K t.rZ ["shape","done","place"] []
 GP:dg mg "cost" t.pA
 sP:bj K "rising_tuples" yr t.pB t.r6
 GQ:Binds K t.r6 ["n"] []
 GR:dg mg "rising_tuples" t.pB
 pU:bj K "and_done" yt t.pC t.r_
 BU:Binds K t.r_ ["done","place"] []
 BV:dg mg "and_done" t.pC
 pV:bj K "choices" yu t.pD t.si
 BW:Binds K t.si ["shape","done","worth_of"] []
 BX:dg mg "choices" t.pD
 sQ:bj K "worths" yv t.pE t.sj
 GS:Binds K t.sj ["shape"] []
 GU:dg mg "worths" t.pE
 lG:bj K "fewest" yw t.pF t.sk
 vw:Binds K t.sk ["shape"] []
 vx:dg mg "fewest" t.pF
 sR:bj K "_law_fill" yy t.pG t.sq
 GV:Binds K t.sq ["_law_cell","_law_at"] []
 GW:dg mg "_law_fill" t.pG
 jE:bj K "_law_next" yA t.pH t.sr
 pW:Binds K t.sr ["_law_pen","_law_many"] []
 pX:dg mg "_law_next" t.pH
 i4:bj K "_law_turned" yB t.pI t.su
 m8:Binds K t.su ["_law_pen","_law_some"] []
 m9:dg mg "_law_turned" t.pI
 lH:bj K "_law_named" yC t.pJ t.sv
 vy:Binds K t.sv ["_law_size","_law_links","_law_names"] []
 vz:dg mg "_law_named" t.pJ
 lJ:bj K "_law_round" yE t.pK t.sC
 vB:Binds K t.sC ["_law_places"] []
 vC:dg mg "_law_round" t.pK
 sS:bj K "_law_ladder" yF t.pL t.sD
 GX:Binds K t.sD ["_law_many"] []
 GY:dg mg "_law_ladder" t.pL
 sU:bj K "_law_hubbed" yG t.pM t.sE
 GZ:Binds K t.sE ["_law_pen","_law_size"] []
 G0:dg mg "_law_hubbed" t.pM
 sV:bj K "law" yH t.m4 t.pN
 Qr:Binds K t.pN ["script"] []
 G1:dg mg "law" t.m4
 G2:dg mg "NoOrder" t.lF
 G3:dg mg "NoSize" t.sF
 gM:mg "len"=none
 yK:mg "isinstance"=none
 G4:mg "int"=none
 G5:mg "bool"=none
 BY:mg "tuple"=none
 gp:mg "list"=none
 d6:mg "range"=none
 G6:mg "all"=none
 Qs:mg "any"=none
 BZ:mg "sum"=none
 B0:mg "enumerate"=none
 vD:mg "min"=none
 B1:mg "max"=none
 sW:mg "sorted"=none
 Qt:mg "ValueError"=none
 G7:∃u,mg "MOST"=some u∧RelV (.int 9) u
 G8:Gz K t.lF
 G9:Gz K t.sF
section
variable {P:Program} {w:World} {K:aC} {mg:cN} {base:Heap} {t:BK}
theorem Qu:cq ["thing"] ["thing"] (bI yc):=du
theorem Qv(T:Txt K mg t):bZ P w K mg base dw 1 t.oW t.rN ["thing"] Mf:=by
 have S:=Qu;refine T.sG.fg S (fun _ _ _ _ H _ Q _ hr h=>?_);obtain ⟨v,rfl,ha,k⟩:=h;refine ⟨_,(a8 (cP (Dt (cY (Ax (K:=K)) rfl T.yK boot_isinstance (af (pv 0) (af (zY (v:=.ty "int") rfl T.G4 boot_int rfl) ao))) (Ds (Jv (cY (Ax (K:=K)) rfl T.yK boot_isinstance (af (pv 0) (af (zY (v:=.ty "bool") rfl T.G5 boot_bool rfl) ao)))))))),?_⟩;obtain ⟨Ty,ty,k1,k2,_⟩:=ha.Aw (K:=K);refine ⟨_,rfl,_,_,_,_,rfl,rfl,ty,k1,_,rfl,gD (fun h1=>?_) (fun h1=>?_)⟩
 ·refine ⟨_,rfl,_,_,_,_,rfl,rfl,ty,k2,_,rfl,?_⟩
  have e:(!qY v)=qX v:=by
   cases h2:qY v with
   | true=>rw [Me h2];rfl
   | false=>rw [h2,Bool.or_false] at h1;rw [h1];rfl
  show Q (.bl (!qY v)) H;rw [e];exact k
 ·have e:qX v=false:=by
   cases h2:qX v with
   | true=>rw [h2] at h1;exact absurd rfl h1
   | false=>rfl
  rw [e] at k;exact k
theorem Qw:cq ["shape","linked","i","j"] ["shape"] (bI yd):=du
theorem G_(T:Txt K mg t):bZ P w K mg base dw 1 t.oX t.rO ["shape"] NM:=by
 have S:=Qw;refine T.pO.fg S (fun _ _ _ _ H _ _ _ hr h=>?_);obtain ⟨tp,n,L,rfl,⟨lt,us,fL,elt,hL⟩,ok,n9,kk⟩:=h;have hu:=jI (qK (show 1≤64 by decide) _) hr.units
 have Hi:((List.range n).map fun i:Nat=>V.int (0+(i:Int))).length=n:=by rw [aB,b6]
 refine ⟨_,(aI (AF (i0:=1) (N:=["place"]) (ρ:=(fun σ=>[])) (iK [] rfl) rfl S.nd rfl (Or.inl rfl) (mE rfl T.d6 (af (bO iH (pv 0) ay) ao)) (fun _ _ _=>.nil) (fun _ _ _=>Ny))
  (aI (gY gx rfl (JN (bO iH (pv 0) ay)) (ue rfl (jR (dI (i:=2) S.nd rfl (Or.inl rfl)) (jR (dI (i:=3) S.nd rfl (Or.inl rfl)) ud)))
   (aI (u7 hu (bO dv (pv 1) (pv 2)) (pv 3) jf rfl)
  (a8 (u7 hu (bO dv (pv 1) (pv 3)) (pv 2) jf rfl))))
  (a8 (cP (pv 1))))),?_⟩
 refine bL (kU (EI (xs:=(List.range n).map fun i:Nat=>V.int (0+(i:Int))) (n:=n) Hi (fun R h=>⟨_,rfl,tp,_,_,_,rfl,rfl,.of fL,rfl,(n:Int),rfl,by omega,by omega,h _ _ (ai.refl _) (by rw [cU];exact AE)⟩) (cS (by omega)) (fun _ i y Hx=>Hx y=some (.dK (dk []))∧H y=none) ?_ ?_ ?_))
 ·intro D i y Ha Hb ys ⟨h1,h2⟩ hy e f
  exact ⟨f y _ hy h1,h2⟩
 ·intro D i x hx Hc R sc _ kc
  refine fun p np=>kc p _ (dW (ai.refl _) np) np ⟨_,ar⟩ ⟨ar,?_⟩;cases e:H p with
  | none=>rfl
  | some o=>rw [sc _ _ e] at np;cases np
 ·intro D ds H1 nD s1 inj hA eD
  have K0:dc H1 D n ds (fun _=>True) (fun _=>[]):=⟨eD,inj,fun i hi=>(hA i hi).2,fun i hi _=>(hA i hi).1.1,fun i _=>iS.nil n⟩;have fr:∀i,i<n→H (ds i)=none:=fun i hi=>(hA i hi).1.2;dsimp only [aY];refine bL ⟨_,rfl,tp,_,_,_,rfl,rfl,.of (s1 _ _ fL),rfl,lt,rfl,⟨_,.of (s1 _ _ elt)⟩,?_⟩;refine JS (K:=K) (a:=lt) (xs:=us) (fun k σ Hc=>∃(f:Nat→List Nat) (v2 v3:Option V),σ=[some (.ref tp),some (.ref D),v2,v3]∧ai H Hc∧dc Hc D n ds (fun _=>True) f∧fF n (L.take k) f) ⟨_,_,_,rfl,s1,K0,fF.nil n⟩ (fun k σ Hc _ ⟨_,_,_,_,sc,_⟩=>.of (sc _ _ elt)) ?_ ?_
  ·rintro k x σ Hc hx ⟨f,v2,v3,rfl,sc,KL,nb⟩
   have hk:k<L.length:=by rw [←hL.1];exact (b9.mp hx).1
   obtain ⟨b,rfl,eb⟩:=hL.2 k x L[k] hx (by simp [hk])
   have pk:=ok L[k] (dH hk);have tk:L.take (k+1)=L.take k++[L[k]]:=by rw [l6,bQ hk];rfl
   generalize L[k]=p at eb pk tk;obtain ⟨p1,p2⟩:=p;dsimp only at pk eb;obtain ⟨i,rfl⟩:=ja pk.1;obtain ⟨j,rfl⟩:=ja pk.2.2.1;have hi:i<n:=by omega
   have hj:j<n:=by omega
   refine ⟨b,_,rfl,.of (sc _ _ eb),rfl,_,_,rfl,_,_,rfl,rfl,?_⟩;obtain ⟨q1,K1⟩:=KL.put hi hj trivial n9;obtain ⟨q2,K2⟩:=K1.put hj hi trivial n9;refine ⟨_,rfl,_,rfl,D,_,_,_,rfl,rfl,.of KL.lst,KL.ix hi,_,rfl,_,_,rfl,q1,?_⟩;refine ⟨_,rfl,_,rfl,D,_,_,_,rfl,rfl,.of K1.lst,K1.ix hj,_,rfl,_,_,rfl,q2,?_⟩;have off:∀(Hx:Hp) (i:Nat) (o:HO),i<n→ai H Hx→ai H (upd Hx (ds i) o):=fun Hx i o hi sx a u e=>by
    rw [aR (fun z=>by rw [z,fr i hi] at e;cases e)]
    exact sx _ _ e
   exact ⟨_,_,_,rfl,off _ _ _ hj (off _ _ _ hi sc),K2,by rw [tk];exact nb.more hi hj⟩
  ·rintro σ Hc ⟨f,v2,v3,rfl,sc,KL,nb⟩
   rw [hL.1,jJ] at nb;exact ⟨_,rfl,kk _ _ _ _ sc nD fr KL nb⟩
theorem Qx:cq ["many"] ["many"] (bI yj):=du
theorem Hj(T:Txt K mg t):bZ P w K mg base dw 1 t.o9 t.rV ["many"] Od:=by have S:=Qx;refine T.pQ.fg S (fun _ _ _ _ H _ _ _ hr h=>?_);obtain ⟨m,rfl,m1,k⟩:=h;refine ⟨_,(a8 (cP (aD cW (aD cW (aD cX (pv 0) (pv 0)) (aD cX ay (pv 0))) ay))),?_⟩;exact ⟨_,rfl,_,rfl,_,_,rfl,rfl,.inl ⟨by omega,by omega⟩,_,rfl,_,_,rfl,rfl,.inl ⟨by omega,by omega⟩,_,_,rfl,rfl,_,_,rfl,rfl,k⟩
theorem Qy:cq ["shape"] ["shape"] (bI yl):=du
theorem Hk(T:Txt K mg t):bZ P w K mg base (eV P w) 1 t.pb t.rX ["shape"] Oe:=by
 have S:=Qy;obtain ⟨uM,hM,rM⟩:=T.G7;refine T.pR.dC S (fun _ _ _ _ H _ _ _ hr h L=>?_);obtain ⟨tp,n,Lk,rfl,⟨lt,us,fL,elt,n5⟩,n9,k⟩:=h;refine ⟨_,(a8 (fA (eR ur (bO iH (pv 0) ay) (Jp (v:=.int 9) rfl hM rM)) (a8 (Em L rfl PySem.F.excBase_ValueError T.G9 rfl T.G3 (af Dq ao))) fz)),?_⟩;refine ⟨_,rfl,tp,_,_,_,rfl,rfl,.of fL,rfl,_,_,rfl,rfl,_,rfl,gD (fun hc=>?_) (fun hc=>?_)⟩
 ·have hc:(9:Int)<(n:Int):=d7 hc
  omega
 ·exact k
theorem Qz:cq ["linked","done","place","met","waiting","here","other"] ["linked","done","place"] (bI yo):=du
theorem QA(T:Txt K mg t):bZ P w K mg base dw 1 t.ph t.rY ["linked","done","place"] Oj:=by
 have S:=Qz
 refine T.sN.fg S (fun _ _ _ _ H vs Q _ hr h=>?_)
 obtain ⟨D,d,n,ds,f,done,p,rfl,KL,ed,ld,pn,QB,kk⟩:=h
 have hu:=jI (qK (show 1≤64 by decide) _) hr.units
 refine ⟨_,(aI (putL 3 S.nd (ND (NB (pv 2) jf NA) rfl rfl (fun h=>by cases h) (by decide)))
  (aI (putL 4 S.nd (g6 (af (pv 2) ao)))
  (aI (z_ gx (eR ur (cY jm rfl T.gM gR (af (pv 4) ao)) ay) (aI (putL 5 S.nd (Lc jN PySem.F.slot_list_pop PySem.F.type_list_pop Ll (pv 4)))
  (a8 (gY gx rfl (Bj (bO dv (pv 0) (pv 5))) (dI (i:=6) S.nd rfl (Or.inl rfl))
   (a8 (fA (Jq (Nu hu (pv 6) (pv 3)) rfl) (aI (u7 hu (pv 3) (pv 6) jf rfl)
  (a8 (fA (wM K8 (pv 6) (pv 1) rfl) (a8 (iD (kM jN ma md iJ (pv 4) (af (pv 6) ao)))) fz))) fz))))))
  (a8 (cP (kP (N:=["other","place","done"]) (ρ:=(fun σ=>[σ[2]?.join,σ[1]?.join])) (iK [2,1] rfl) rfl (Bj (pv 3)) (fun _ _ _=>(.one (PW.pt (pw_and (eR nY (pv 0) (pv 1)) (pw_and1 (wM (Fw (K:=K)) (pv 0) (pv 2) rfl)))))) (fun _ _ _=>(pv 0)))))))),?_⟩
 refine bL (kU fun mt pY=>⟨_,rfl,ar,[((Sum.inl (p:Int):Key),V.bl true)],rfl,by show 1≤15;decide,?_⟩)
 have VC:=pY
 have s0:∀b o,b≠mt→H b=some o→upd (upd H mt (.dK [])) mt (.dK (mT [] [((Sum.inl (p:Int):Key),V.bl true)])) b=some o:=fun b o ne e=>by rw [aR ne,aR ne];exact e
 have em:upd (upd H mt (.dK [])) mt (.dK (mT [] [((Sum.inl (p:Int):Key),V.bl true)])) mt=some (.dK (dk [p])):=by rw [ar];rfl
 generalize upd (upd H mt (.dK [])) mt (.dK (mT [] [((Sum.inl (p:Int):Key),V.bl true)]))=H1 at s0 em ⊢
 have sm:ai H H1:=fun b o e=>s0 b o (fun z=>by rw [z,pY] at e;cases e) e
 dsimp only [aY]
 refine ⟨_,rfl,by show 1≤sizeLine;decide,fun l nl=>?_⟩
 have sl:ai H1 (upd H1 l (.lst [V.int (p:Int)])):=aG nl
 have el:upd H1 l (.lst [V.int (p:Int)]) l=some (.lst (([p]:List Nat).map fun k:Nat=>V.int (k:Int))):=ar
 generalize upd H1 l (.lst [V.int (p:Int)])=H2 at sl el ⊢
 have vE:H l=none:=none_of sm nl
 have lm:l≠mt:=fun z=>by rw [z,em] at nl;cases nl
 have s2:=sm.trans sl
 have mD:mt≠D:=fun z=>absurd KL.lst (by rw [←z,pY];exact fun h=>by cases h)
 have lD:l≠D:=fun z=>absurd KL.lst (by rw [←z,vE];exact fun h=>by cases h)
 have B2:∀i,i<n→ds i≠mt:=fun i hi z=>absurd (KL.at' i hi trivial) (by rw [z,pY];exact fun h=>by cases h)
 have yL:∀i,i<n→ds i≠l:=fun i hi z=>absurd (KL.at' i hi trivial) (by rw [z,vE];exact fun h=>by cases h)
 have Hl:∀i,i<n→d≠ds i:=fun i hi z=>absurd (KL.at' i hi trivial) (by rw [←z,ed];exact fun h=>by cases h)
 dsimp only [aY]
 refine bL ⟨fun m σ Hc=>∃(ks ws:List Nat) (v5 v6:Option V),σ=[some (.ref D),some (.ref d),some (.int (p:Int)),some (.ref mt),some (.ref l),v5,v6]∧m=2*(n-ks.length)+ws.length∧oK n ds H Hc∧k_ Hc D n ds f∧Hc mt=some (.dK (dk ks))∧Hc l=some (.lst (ws.map fun k:Nat=>V.int (k:Int)))∧dZ n (fH n f) (·∈done) p none (fun _=>True) ks ws∧ws.length≤ks.length,⟨_,[p],[p],_,_,rfl,rfl,fun b o e _=>s2 _ _ e,(KL.mono s2).fr,sl _ _ em,el,dZ.start pn,aw _⟩,?_⟩
 rintro m' σ Hc ⟨ks,ws,v5,v6,rfl,VD,oc,Kc,Hm,B3,wk,wl⟩
 have VE:=wk.pl.len
 refine ⟨_,rfl,l,_,rfl,.inl (.of B3),_,_,rfl,rfl,_,rfl,gD (fun hb=>?_) (fun hb=>?_)⟩
 ·have hb:(0:Int)<((ws.map fun k:Nat=>V.int (k:Int)).length:Int):=d7 hb
  rw [aB] at hb
  have Hn:ws≠[]:=fun z=>by rw [z] at hb;simp at hb
  obtain ⟨us,h,rfl⟩:∃us h,ws=us++[h]:=⟨ws.dropLast,ws.getLast Hn,(List.dropLast_concat_getLast Hn).symm⟩
  have pZ:(us++[h]).length=us.length+1:=by simp
  have hh:=wk.wt h (dq _ (cg.mpr rfl))
  have hn:h<n:=wk.pl.2 h hh.1
  have vF:=wk.pop
  refine ⟨_,fun _ _ h=>h,?_⟩
  refine ⟨_,rfl,.inl ⟨rfl,_,.of B3⟩,l,_,.int (h:Int),rfl,rfl,B3,by simp,?_⟩
  rw [dR,bM,qr,List.dropLast_concat]
  have o1:∀b u,b≠l→Hc b=some u→upd Hc l (.lst (us.map fun k:Nat=>V.int (k:Int))) b=some u:=fun b u ne e=>by rw [aR ne];exact e
  have vG:upd Hc l (.lst (us.map fun k:Nat=>V.int (k:Int))) l=some (.lst (us.map fun k:Nat=>V.int (k:Int))):=ar
  have Ho:∀{Hx Hy:Hp},oK n ds H Hx→(∀b u,b≠l→Hx b=some u→Hy b=some u)→oK n ds H Hy:=fun h k b u e ne=>k b u (fun z=>by rw [z,vE] at e;cases e) (h b u e ne)
  have QC:∀{Hx Hy:Hp},oK n ds H Hx→(∀b u,b≠mt→Hx b=some u→Hy b=some u)→oK n ds H Hy:=fun h k b u e ne=>k b u (fun z=>by rw [z,pY] at e;cases e) (h b u e ne)
  have K1:=Kc.keep o1 lD yL
  have Hq:=Ho oc o1
  have Hr:=o1 _ _ (Ne.symm lm) Hm
  generalize upd Hc l (.lst (us.map fun k:Nat=>V.int (k:Int)))=H3 at o1 vG K1 Hq Hr ⊢
  dsimp only [aY]
  refine Fy (a:=ds h) (kvs:=dk (f h)) (fun Q q=>⟨_,rfl,_,rfl,D,_,_,_,rfl,rfl,.of K1.lst,xO hn,q⟩) (K1.at' h hn) fun ob Hf p8 off=>?_
  have Kf:=K1.bx off hn p8 KL.inj (KL.ne h hn)
  have QD:oK n ds H Hf:=fun b u e ne=>off b u (ne h hn) (Hq b u e ne)
  have QE:=off _ _ (Ne.symm (B2 h hn)) Hr
  have QF:=off _ _ (Ne.symm (yL h hn)) vG
  refine Ol (fun i σ He=>∃(ks us:List Nat) (v6:Option V),σ=[some (.ref D),some (.ref d),some (.int (p:Int)),some (.ref mt),some (.ref l),some (.int (h:Int)),v6]∧oK n ds H He∧k_ He D n ds f∧He (ds h)=some (.bx ob (.dK (dk (f h))))∧He mt=some (.dK (dk ks))∧He l=some (.lst (us.map fun k:Nat=>V.int (k:Int)))∧dZ n (fH n f) (·∈done) p (some h) (·∈(f h).take i) ks us∧us.length≤ks.length∧h∈ks∧2*(n-ks.length)+us.length<m') ⟨ks,us,_,rfl,QD,Kf,p8,QE,QF,⟨vF.pl,vF.st,vF.rc,vF.wt,fun x hx ox=>(vF.cl x hx ox).imp id fun e b hb=>(e b hb).imp id fun z=>⟨z.1,by simp⟩⟩,by omega,hh.1,by omega⟩ (fun i σ He _ ⟨_,_,_,_,_,_,e,_⟩=>e) ?_ ?_
  ·rintro i k σ He hk ⟨ks,us,v6,rfl,oe,Ke,B4,vH,yM,m_,ul,sX,lt⟩
   have km:k∈f h:=i8 hk
   have kn:k<n:=(KL.pl h hn).2 k km
   have tk:=take_snoc hk
   have VF:=m_.pl.len
   dsimp only [aY]
   refine ⟨_,rfl,_,rfl,mt,_,rfl,.inl ⟨dk ks,Sum.inl (k:Int),.inl vH,rfl,rfl⟩,_,rfl,?_⟩
   rw [NK]
   by_cases sY:k∈ks
   ·rw [ae sY]
    refine mL ⟨ks,us,_,rfl,oe,Ke,B4,vH,yM,?_,ul,sX,lt⟩
    have w2:=m_.old sY
    refine ⟨w2.pl,w2.st,w2.rc,w2.wt,fun x hx ox=>(w2.cl x hx ox).imp id fun e b hb=>(e b hb).imp id fun z=>⟨z.1,fun q=>z.2 ?_⟩⟩
    rw [tk] at q
    exact (dQ.mp q).imp id cg.mp
   ·rw [aa sY]
    refine El ?_
    have al:=Oi sY
    have o4:∀b u,b≠mt→He b=some u→upd He mt (.dK (dk (cz ks k))) b=some u:=fun b u ne e=>by rw [aR ne];exact e
    refine bL ⟨_,rfl,_,rfl,mt,upd He mt (.dK (dk (cz ks k))),rfl,.inl ⟨dk ks,Sum.inl (k:Int),vH,rfl,by rw [xM];exact cS (by omega),by rw [Fl]⟩,?_⟩
    have B5:upd He mt (.dK (dk (cz ks k))) mt=some (.dK (dk (cz ks k))):=ar
    have K4:=Ke.keep o4 mD B2
    have yN:=QC oe o4
    have p_:=o4 _ _ lm yM
    have B6:=o4 _ _ (B2 h hn) B4
    generalize upd He mt (.dK (dk (cz ks k)))=H4 at o4 B5 K4 yN p_ B6 ⊢
    have conv:∀{vs:List Nat},dZ n (fH n f) (·∈done) p (some h) (fun x=>x∈(f h).take i∨x=k) (cz ks k) vs→dZ n (fH n f) (·∈done) p (some h) (·∈(f h).take (i+1)) (cz ks k) vs:=fun w2=>⟨w2.pl,w2.st,w2.rc,w2.wt,fun x hx ox=>(w2.cl x hx ox).imp id fun e b hb=>(e b hb).imp id fun z=>⟨z.1,fun q=>z.2 (by
     rw [tk] at q
     exact (dQ.mp q).imp id cg.mp)⟩⟩
    have VG:=(m_.pl.add kn).len
    dsimp only
    refine ⟨_,rfl,_,rfl,d,_,rfl,.inr (.of (yN d _ ed Hl)),rfl,Fx done,_,rfl,gD (fun hb=>?_) (fun hb=>?_)⟩
    ·have hb:kL (.int (k:Int)) (done.map fun k:Nat=>V.int (k:Int))=true:=hb
     rw [xQ,dS] at hb
     refine ⟨_,rfl,.inl ⟨rfl,_,.of p_⟩,_,rfl,l,_,_,rfl,rfl,p_,cS (by rw [aB];omega),?_⟩
     have o5:∀b u,b≠l→H4 b=some u→upd H4 l (.lst ((us.map fun k:Nat=>V.int (k:Int))++[V.int (k:Int)])) b=some u:=fun b u ne e=>by rw [aR ne];exact e
     exact ⟨cz ks k,us++[k],_,rfl,Ho yN o5,K4.keep o5 lD yL,o5 _ _ (yL h hn) B6,o5 _ _ (Ne.symm lm) B5,by rw [ar,dR];rfl,conv (m_.new sY kn sX hh.2 ⟨hn,km⟩ (.inl ⟨hb,rfl⟩)),by rw [al,dh,kB];omega,gJ.mpr (.inl sX),by rw [al,dh,kB];omega⟩
    ·have hb:¬kL (.int (k:Int)) (done.map fun k:Nat=>V.int (k:Int))=true:=hb
     rw [xQ,dS] at hb
     exact ⟨cz ks k,us,_,rfl,yN,K4,B6,B5,p_,conv (m_.new sY kn sX hh.2 ⟨hn,km⟩ (.inr ⟨hb,rfl⟩)),by rw [al];omega,gJ.mpr (.inl sX),by rw [al];omega⟩
  ·rintro σ He ⟨ks,us,v6,rfl,oe,Ke,B4,vH,yM,m_,ul,sX,lt⟩
   rw [jJ] at m_
   exact ⟨_,lt,ks,us,_,_,rfl,rfl,oe,Ke,vH,yM,m_.next fun b hb=>hb.2,ul⟩
 ·have w0:ws=[]:=by
   cases ws with
   | nil=>rfl
   | cons x r=>
    refine absurd (cf ?_) hb
    show (0:Int)<_
    simp
  subst w0
  dsimp only
  refine AK (xP (Fy (a:=mt) (kvs:=dk ks) (fun Q q=>⟨_,rfl,q⟩) (.inl Hm) fun ob Hf p8 off=>?_))
  have QG:Hf d=some (.tup (done.map fun k:Nat=>V.int (k:Int))):=off _ _ (fun z=>by rw [z,pY] at ed;cases ed) (oc d _ ed Hl)
  refine Fp p8 (fun q=>!decide (q=p) && !decide (q∈done)) (cS (by omega)) ?_ ?_ ?_
  ·intro q hq Hx R sx hR
   refine ⟨_,rfl,_,rfl,rfl,_,rfl,gD (fun hb=>?_) (fun hb=>?_)⟩
   ·have ne:¬q=p:=fun z=>by
     subst z
     rw [uJ,cf rfl] at hb
     cases hb
    refine ⟨_,rfl,_,rfl,d,_,rfl,.inr (.of (sx _ _ QG)),rfl,Fx done,_,rfl,?_⟩
    rw [bV ne,Bool.not_false,Bool.true_and] at hR
    have e:(if true=true then !kL (.int (q:Int)) (done.map fun k:Nat=>V.int (k:Int)) else kL (.int (q:Int)) (done.map fun k:Nat=>V.int (k:Int))) = !decide (q∈done):=by rw [ae rfl,xQ]
    rw [e]
    exact hR
   ·have eq:q=p:=by
     by_cases z:(q:Int)=(p:Int)
     ·omega
     ·exact absurd (by rw [uJ,bV z];rfl) hb
    rw [cf eq,Bool.not_true,Bool.false_and] at hR
    exact hR
  ·intro q hq Hx R hR
   exact ⟨_,rfl,hR⟩
  ·intro r Hg nr sg eg
   refine kk Hg r _ (fun b u e ne=>sg _ _ (off _ _ (fun z=>by rw [z,pY] at e;cases e) (oc b u e ne))) eg ⟨ks,wk.pl,wk.done,by rw [aB]⟩
theorem QH:cq ["shape","done","place"] ["shape","done","place"] (bI yq):=du
theorem QI(T:Txt K mg t):bZ P w K mg base (eV P w) 2 t.pA t.rZ ["shape","done","place"] Oo:=by
 have S:=QH;refine T.sO.dC S (fun _ _ _ _ H _ _ _ hr h L=>?_);obtain ⟨tp,d,n,Lk,done,p,rfl,hS,hL,n9,ed,ld,pn,kk⟩:=h
 refine ⟨_,(aI (iD (bf (Hk T) hr T.BS T.pR.kp T.BR (n8 L) (af (pv 0) ao)))
  (a8 (cP (bf (Hj T) hr T.BQ T.pQ.kp T.BP b4 (af (cY jm rfl T.gM gR (af (bf (QA T) hr T.GN T.sN.kp T.GL b4 (af (bf (G_ T) hr T.BM T.pO.kp T.BL b4 (af (pv 0) ao)) (af (pv 1) (af (pv 2) ao)))) ao)) ao))))),?_⟩
 refine ⟨_,rfl,tp,n,Lk,rfl,hS,n9,?_⟩;refine ⟨_,rfl,tp,n,Lk,rfl,hS,hL,by omega,fun H1 D ds f s1 nD yO KL nb=>?_⟩
 refine ⟨_,rfl,_,rfl,D,d,n,ds,f,done,p,rfl,KL,s1 _ _ ed,ld,pn,by omega,fun H2 r xs off er near=>?_⟩
 have s2:ai H H2:=fun b u e=>off b u (s1 _ _ e) fun i hi z=>by rw [z,yO i hi] at e;cases e
 have c9:=near.le;exact ⟨r,xs,rfl,.inl (.of er),xs.length,rfl,by omega,kk H2 f xs.length s2 nb near⟩
theorem QJ:cq ["done","place"] ["done","place"] (bI yt):=du
theorem Hs(T:Txt K mg t):bZ P w K mg base dw 1 t.pC t.r_ ["done","place"] Pc:=by
 have S:=QJ;refine T.pU.fg S (fun _ _ _ _ H _ Q _ hr h=>?_);obtain ⟨d,done,p,rfl,ed,l1,kk⟩:=h;refine ⟨_,(a8 (cP (cZ Eb rfl T.BY boot_tuple (af (cY OW rfl T.sW t8 (af (aD (Fv (K:=K)) (pv 0) (gA (af (pv 1) ao))) ao)) ao)))),?_⟩;have fin:∀(H1:Hp) (b:Addr),ai H H1→H1 b=some (.tup ((done++[p]).map V.int))→wR FR (fun σ H Q=>Q [.ref b] H) [] H1 (fun x H2=>∃q ys,[x]=[V.ref q]∧((bC K H2 q ys∧∀l,H2 l=none→Q (.ref l) (upd H2 l (.tup ys)))∨(dt K H2 q ys∧Q (.ref q) H2))):=fun H1 b s1 eb=>by
  refine ⟨b,done++[p],rfl,eb,by simp;omega,fun ws D pm so nD=>⟨D,_,rfl,.inl ⟨.of ar,fun l nl=>?_⟩⟩⟩
  exact kk _ l ws pm so (none_of s1 (none_of (aG nD) nl)) (s1.trans ((aG nD).trans (aG nl))) ar
 refine ⟨_,rfl,_,rfl,by show 1≤sizeLine;decide,fun b nb=>?_⟩
 have s1:ai H (upd H b (.tup [.int p])):=aG nb;have eb:upd H b (.tup [.int p]) b=some (.tup [.int p]):=ar;generalize upd H b (.tup [.int p])=H1 at s1 eb ⊢;refine ⟨d,b,_,_,rfl,rfl,.of (s1 _ _ ed),.of eb,by simp,Pb (by rw [aB];simp;omega),fun e0=>?_,fun e1 c nc=>?_⟩
 ·have:done=[]:=qJ.mp e0
  subst this;exact fin H1 b s1 eb
 ·refine fin _ c (s1.trans (aG nc)) ?_
  rw [ar,dR];rfl
theorem QK:cq ["n","told","place"] ["n"] (bI yr):=du
theorem QL(T:Txt K mg t):bZ P w K mg base dw 1 t.pB t.r6 ["n"] Pd:=by
 have S:=QK;refine T.sP.fg S (fun _ _ _ _ H _ _ _ hr h=>?_);obtain ⟨n,rfl,n9,kk⟩:=h
 refine ⟨_,(aI (putL 1 S.nd (g6 (af (gA ao) ao)))
  (aI (gY gx rfl (mE rfl T.d6 (af (pv 0) ao)) (dI (i:=2) S.nd rfl (Or.inr rfl))
   (a8 (putL 1 S.nd (aD uz (pv 1) (kP (N:=["each","place"]) (ρ:=(fun σ=>[σ[2]?.join])) (iK [2] rfl) rfl (gX (pv 1)) (fun _ _ _=>.nil) (fun _ _ _=>(aD (Fv (K:=K)) (pv 0) (gA (af (pv 1) ao)))))))))
  (a8 (cP (pv 1))))),?_⟩
 refine ⟨bU _,fun b nb=>⟨by show 1≤sizeLine;decide,fun l nl=>?_⟩⟩
 have s0:ai H (upd (upd H b (.tup [])) l (.lst [.ref b])):=(aG nb).trans (aG nl);have lb:b≠l:=fun z=>by rw [z,ar] at nl;cases nl
 have eb:upd (upd H b (.tup [])) l (.lst [.ref b]) b=some (.tup []):=by rw [aR lb,ar]
 have el:upd (upd H b (.tup [])) l (.lst [.ref b]) l=some (.lst [.ref b]):=ar;generalize upd (upd H b (.tup [])) l (.lst [.ref b])=H0 at s0 eb el ⊢;dsimp only [aY];refine bL ⟨_,rfl,(n:Int),rfl,by omega,by omega,?_⟩
 rw [cU];refine uo (fun k σ Hc=>∃(D:Addr) (xs:List V) (v2:Option V),σ=[some (.int (n:Int)),some (.ref D),v2]∧ai H Hc∧H D=none∧Hc D=some (.lst xs)∧iY Hc xs (a9 k)) ⟨l,_,_,rfl,s0,none_of (aG nb) nl,el,⟨rfl,fun i v q h1 h2=>?_⟩⟩ ?_ ?_
 ·match i,h1,h2 with
  | 0,h1,h2=>cases h1;cases h2;exact ⟨b,rfl,eb⟩
  | i+1,h1,h2=>simp at h1
 ·rintro k σ Hc hk ⟨D,xs,v2,rfl,sc,nD,eD,tu⟩
  have p2:2 ^ k≤512:=b5 (Nat.pow_le_pow_right (by decide) (show k≤9 by omega)) (by decide)
  have lx:xs.length=2 ^ k:=tu.1.trans (Bs k);dsimp only [aY];refine kU ⟨_,rfl,qZ (xs:=xs) (fun R h=>⟨_,rfl,D,rfl,⟨_,.of eD⟩,h _ _ (ai.refl _) (mO (.of eD))⟩) (cS (by omega)) (fun _ i y Hz=>∀q,(a9 k)[i]?=some q→∃(b:Addr),y=.ref b∧Hz b=some (.tup ((q++[k]).map fun k:Nat=>V.int (k:Int)))) (fun Dd i y Ha Hb ys h e f q hq=>by obtain ⟨b,h1,h2⟩:=h q hq;exact ⟨b,h1,f b _ (fun z=>by rw [z,e] at h2;cases h2) h2⟩) ?_ ?_⟩
  ·intro Dd i x hx Hz R sz _ kz
   have hi:i<(a9 k).length:=by rw [←tu.1];exact (b9.mp hx).1
   obtain ⟨b,rfl,eb⟩:=tu.2 i x _ hx (bQ hi);have lp:(a9 k)[i]?=some (a9 k)[i]:=bQ hi;generalize (a9 k)[i]=us at eb lp;have lu:us.length≤60:=by obtain ⟨u1,u2⟩:=cQ.mp (i8 lp);have:=vi u1 u2;omega
   refine ⟨_,rfl,_,rfl,by show 1≤sizeLine;decide,fun q nq=>?_⟩
   have B7:=sz _ _ eb;have bq:b≠q:=fun z=>by rw [z,nq] at B7;cases B7
   have QM:upd Hz q (.tup [V.int (0+(k:Int))]) b=some (.tup (us.map fun k:Nat=>V.int (k:Int))):=(aR bq).trans B7;refine ⟨b,q,_,_,rfl,rfl,.of QM,.of ar,by simp,b5 (show _≤100 by simp;omega) (by decide),fun e=>?_,fun ne p np=>?_⟩
   ·refine kz _ _ (aG nq) fun r hr=>⟨q,rfl,?_⟩
    rw [lp] at hr;cases hr;have:us=[]:=qJ.mp e;subst this;rw [ar,nM];rfl
   ·refine kz _ _ ((aG nq).trans (aG np)) fun r hr=>⟨p,rfl,?_⟩
    rw [lp] at hr;cases hr;rw [ar,nM,dR];rfl
  ·intro Dd ys Hd QN sd ng qa B8
   refine ⟨D,Dd,xs,ys,rfl,rfl,sd _ _ eD,B8,b5 (show _≤2000 by omega) (by decide),fun l2 kh=>?_⟩
   have ty:iY Hd ys ((a9 k).map (·++[k])):=⟨by rw [ng,aB,tu.1],fun i v q h1 h2=>by
    rw [bt] at h2;cases e:(a9 k)[i]? with
    | none=>rw [e] at h2;cases h2
    | some r=>rw [e] at h2;cases h2;exact qa i v h1 r e⟩
   exact ⟨l2,_,_,rfl,(sc.trans sd).trans (aG kh),none_of (sc.trans sd) kh,ar,((tu.mono sd).cat ty).mono (aG kh)⟩
 ·rintro σ Hc ⟨D,xs,v2,rfl,sc,nD,eD,tu⟩
  exact ⟨_,rfl,kk D xs Hc sc nD eD tu⟩
theorem QO:cq ["shape","done","worth_of","left"] ["shape","done","worth_of"] (bI yu):=du
theorem Ht(T:Txt K mg t):bZ P w K mg base (eV P w) 3 t.pD t.si ["shape","done","worth_of"] Pg:=by
 have S:=QO;refine T.pV.dC S (fun _ _ _ _ H _ _ _ hr h L=>?_);obtain ⟨tp,d,wo,n,Lk,done,kvs,W,rfl,kj,aM,n9,ed,hd,QP,hW,kk⟩:=h;have lK:=hr.units;have QQ:=jI (qK (show 1≤64 by decide) _) hr.units
 refine ⟨_,(aI (AF (i0:=3) (N:=["place","done"]) (ρ:=(fun σ=>[σ[1]?.join])) (iK [1] rfl) rfl S.nd rfl (Or.inl rfl) (mE rfl T.d6 (af (bO iH (pv 0) ay) ao)) (fun _ _ _=>(.one (wM (Fw (K:=K)) (pv 0) (pv 1) rfl))) (fun _ _ _=>(pv 0)))
  (a8 (cP (kP (N:=["place","shape","done","worth_of"]) (ρ:=(fun σ=>[σ[0]?.join,σ[1]?.join,σ[2]?.join])) (iK [0,1,2] rfl) rfl (gX (pv 3)) (fun _ _ _=>.nil) (fun _ _ _=>(gA (af (aD cW (bf (QI T) hr T.GP T.sO.kp T.GO kO (af (pv 1) (af (pv 2) (af (pv 0) ao)))) (Fc QQ (pv 3) (bf (Hs T) hr T.BV T.pU.kp T.BU b4 (af (pv 2) (af (pv 0) ao))) (fun _ _=>rfl))) (af (pv 0) ao)))))))),?_⟩
 obtain ⟨lt,us,fL,elt,n5⟩:=id kj;obtain ⟨dup,QR⟩:=cQ.mp hd;have dl:done.length≤9:=b5 (vi dup QR) n9;have fl:(done.map fun k:Nat=>V.int (k:Int)).all jl=true:=by rw [gv];intro v hv;obtain ⟨q,_,rfl⟩:=bS.mp hv;rfl
 have Hi:((List.range n).map fun i:Nat=>V.int (0+(i:Int))).length=n:=by rw [aB,b6]
 refine bL (kU (OI (xs:=(List.range n).map fun i:Nat=>V.int (0+(i:Int))) (vj done) (fun R h=>⟨_,rfl,tp,_,_,_,rfl,rfl,.of fL,rfl,(n:Int),rfl,by omega,by omega,h _ _ (ai.refl _) (by rw [cU];exact AE)⟩) (cS (by omega)) ?_ (fun x Hx R h=>⟨_,rfl,h⟩) fun l H1 nl s1 el=>?_))
 ·intro x QS Hd R sd kR
  obtain ⟨q,hq,rfl⟩:=bS.mp QS;refine ⟨_,rfl,_,rfl,d,_,rfl,.inr (.of (sd _ _ ed)),rfl,fl,_,rfl,?_⟩;rw [Pe] at kR;exact kR
 rw [Pf] at el;dsimp only [aY];have VH:(aK n done).length≤n:=b5 (qG _ _) (by rw [b6];exact aw _)
 refine AK (qZ (xs:=(aK n done).map fun k:Nat=>V.int (k:Int)) (fun R h=>⟨_,rfl,l,rfl,⟨_,.of el⟩,h _ _ (ai.refl _) (mO (.of el))⟩) (cS (by rw [aB];omega)) (fun _ i y Hz=>∀p,(aK n done)[i]?=some p→∃b,y=.ref b∧Hz b=some (.tup [.int (bJ n Lk done p+W (aH done p)),.int (p:Int)])) (fun Dd i y Ha Hb ys h e f q hq=>by obtain ⟨b,h1,h2⟩:=h q hq;exact ⟨b,h1,f b _ (fun z=>by rw [z,e] at h2;cases h2) h2⟩) ?_ ?_)
 ·intro Dd i x hx Hz R sz _ kz
  rw [bt] at hx;cases ep:(aK n done)[i]? with
  | none=>rw [ep] at hx;cases hx
  | some p=>
   rw [ep] at hx;cases hx;have pm:=i8 ep;have pn:p<n:=by have:=(bF.mp pm).1;exact aQ.mp this
   have pd:p∉done:=by have:=(bF.mp pm).2;simpa using this
   have B9:=s1.trans sz;refine ⟨_,rfl,_,rfl,_,rfl,tp,d,n,Lk,done,p,rfl,kj.mono B9,aM,n9,B9 _ _ ed,by omega,pn,fun H2 f c s2 nb near=>?_⟩
   have lL:=B9.trans s2;refine ⟨_,rfl,_,rfl,_,rfl,d,done.map iN,(p:Int),rfl,by rw [lL _ _ ed,bR];rfl,by rw [aB];omega,fun H3 tq ws pm so QT s3 B_=>?_⟩
   have ew:=FX dup pd pm so;subst ew;have ie:=lL.trans s3;refine ⟨wo,_,rfl,(hW p pn pd)▸k8.t (k:=fJ (aH done p)) (ie _ _ QP) (by rw [B_];unfold fJ;rw [bR,bR];rfl),_,_,rfl,rfl,_,rfl,by show 2≤sizeLine;decide,fun q nq=>?_⟩
   refine kz _ _ ((s2.trans s3).trans (aG nq)) fun r hr=>⟨q,rfl,?_⟩;rw [ep] at hr;cases hr;rw [ar,Bt nb near]
 ·intro Dd ys Hd QN sd ng qa B8
  rw [aB] at ng;exact kk Hd Dd ys (s1.trans sd) B8 ⟨ng,fun i v p h1 h2=>qa i v h1 p h2⟩
theorem QU:cq ["shape","told","done"] ["shape"] (bI yv):=du
theorem QV(T:Txt K mg t):bZ P w K mg base (eV P w) 4 t.pE t.sj ["shape"] Pm:=by
 have S:=QU;refine T.sQ.dC S (fun _ _ _ _ H _ _ _ hr h L=>?_);obtain ⟨tp,n,Lk,rfl,kj,aM,n9,kk⟩:=h;have hu:=jI (qK (show 1≤64 by decide) _) hr.units
 refine ⟨_,(aI (iD (bf (Hk T) hr T.BS T.pR.kp T.BR (n8 L) (af (pv 0) ao)))
  (aI (putL 1 S.nd Nz)
  (aI (gY (Ft L) rfl (gX (OR (af (bf (QL T) hr T.GR T.sP.kp T.GQ b4 (af (bO iH (pv 0) ay) ao)) ao) rfl T.sW t8 rfl T.gM gR)) (dI (i:=2) S.nd rfl (Or.inl rfl))
   (a8 (u7 hu (pv 1) (pv 2) (O8 rfl (af (Mj (N:=["total","place"]) (ρ:=(fun σ=>[])) (Ez [] rfl) rfl (gX (bf (Ht T) hr T.BX T.pV.kp T.BW (n8 L) (af (pv 0) (af (pv 2) (af (pv 1) ao))))) (fun _ _ _=>.nil) (fun _ _ _=>(pv 0))) ao) ay rfl T.vD boot_min) rfl)))
  (a8 (cP (pv 1)))))),?_⟩
 refine ⟨_,rfl,tp,n,Lk,rfl,kj,n9,?_⟩;intro D nD;have s0:ai H (upd H D (.dT [])):=aG nD;have yP:upd H D (.dT []) D=some (.dT []):=ar;dsimp only [aY];generalize upd H D (.dT [])=H0 at s0 yP ⊢;obtain ⟨lt,us,fL,elt,n5⟩:=id (kj.mono s0);refine bL ⟨_,rfl,tp,_,_,_,rfl,rfl,.of fL,rfl,n,rfl,n9,fun Dx xs H1 s1 VI QW tu=>?_⟩;have QX:(a9 n).length≤512:=by rw [Bs];exact b5 (Nat.pow_le_pow_right (by decide) n9) (by decide)
 refine ⟨Dx,xs,fun i=>((a9 n).getD i []).length,rfl,QW,by have:=tu.1;omega,(fun i v hv=>?_),fun D2 p qb fp=>?_⟩
 ·have hi:i<(a9 n).length:=by rw [←tu.1];exact (b9.mp hv).1
  obtain ⟨b,e,g⟩:=tu.2 i v _ hv (bQ hi);have lq:(a9 n)[i].length≤9:=by obtain ⟨q1,q2⟩:=cQ.mp (dH hi);exact b5 (vi q1 q2) n9
  exact ⟨b,_,e,g,by rw [aB];show ((a9 n).getD i []).length=_;rw [ei,bQ hi];rfl,by rw [aB];omega⟩
 rw [tu.1] at fp;have fq:=Po fp;have tq:=(Pr tu (p:=p) fun i hi=>aQ.mp (fp.pm.mem_iff.mp hi)).mono (aG (o:=.lst (p.map fun i=>xs.getD i .aN)) qb);have fO:upd H1 D2 (.lst (p.map fun i=>xs.getD i .aN)) D2=some (.lst (p.map fun i=>xs.getD i .aN)):=ar;have vI:ai H0 (upd H1 D2 (.lst (p.map fun i=>xs.getD i .aN))):=s1.trans (aG qb);generalize upd H1 D2 (.lst (p.map fun i=>xs.getD i .aN))=H2 at tq fO vI ⊢;generalize (p.map fun i=>xs.getD i .aN)=QY at tq fO ⊢;generalize (p.map fun i=>(a9 n).getD i [])=qs at tq fq;have VJ:qs.length≤512:=by rw [fq.pm.length_eq];exact QX
 have QZ:D2≠D:=fun z=>by rw [z,vI _ _ yP] at fO;cases fO
 refine ⟨D2,rfl,⟨_,.of fO⟩,?_⟩;refine um (K:=K) (a:=D2) (xs:=QY) (fun j σ Hc=>∃(v2:Option V),σ=[some (.ref tp),some (.ref D),v2]∧ai H Hc∧(∀b o,b≠D→H2 b=some o→Hc b=some o)∧Hc D=some (.dT (wD (wW n Lk) (qs.take j)))) ⟨_,rfl,s0.trans vI,fun b o _ e=>e,vI _ _ yP⟩ (fun j σ Hc _ ⟨_,_,_,kc,_⟩=>.of (kc _ _ QZ fO)) ?_ ?_
 ·rintro j x σ Hc hx ⟨v2,rfl,sc,kc,eD⟩
  have hj:j<qs.length:=by rw [←tq.1];exact (b9.mp hx).1
  have hq:qs[j]?=some qs[j]:=bQ hj;obtain ⟨b,rfl,eb⟩:=tq.2 j x _ hx hq;generalize qs[j]=q at hq eb;have bD:b≠D:=fun z=>by rw [z,vI _ _ yP] at eb;cases eb
  have Hu:=kc _ _ bD eb;have qm:q∈a9 n:=fq.pm.mem_iff.mp (i8 hq);obtain ⟨nq,tk⟩:=Pq fq hq;have ll:(aK n q).length≤9:=b5 (qG _ _) (by rw [b6];exact n9)
  dsimp only [aY];refine Pn (Pj (Z:=(aK n q).map fun p=>(bJ n Lk q p+wW n Lk (aH q p),(p:Int))) (fun R h=>?_) (cS (by rw [aB];omega)) (fun z _ Hx R h=>⟨_,rfl,h⟩) fun D3 H4 VL s4 vJ=>?_)
  ·refine ⟨_,rfl,_,rfl,_,rfl,tp,b,D,n,Lk,q,_,wW n Lk,rfl,kj.mono sc,aM,n9,Hu,qm,eD,(fun p pn pq=>Bu _ (Pp fq hq pn pq)),fun H3 Dc ys s3 sZ ch=>?_⟩
   exact ⟨Dc,rfl,⟨_,.of sZ⟩,h _ _ s3 (Ph sZ (F1 ch))⟩
  ·refine ⟨D3,_,0,rfl,rfl,vJ,by rw [aB,aB];omega,fun m hm=>?_⟩
   have em:m=wW n Lk q:=by rw [Pk hm,bR,rE qm];rfl
   subst em;refine ⟨_,rfl,_,rfl,D,_,rfl,rh.t (k:=fJ q) (s4 _ _ eD) (by rw [s4 _ _ Hu];unfold fJ;rw [bR];rfl) (cS (by unfold wD;rw [aB,nF];omega)),?_⟩
   refine ⟨_,rfl,fun c o e=>?_,fun c o cD e=>(aR cD).trans (s4 _ _ (kc c o cD e)),by rw [ar,Pl _ nq,tk]⟩
   rw [aR (fun z=>by rw [z,nD] at e;cases e)]
   exact s4 _ _ (sc _ _ e)
 ·rintro σ Hc ⟨v2,rfl,sc,kc,eD⟩
  rw [tq.1,jJ] at eD;exact ⟨_,rfl,kk Hc D qs sc nD eD fq.pm⟩
theorem Q0:cq ["shape","worth_of","order","done","place"] ["shape"] (bI yw):=du
theorem yQ(T:Txt K mg t):bZ P w K mg base (eV P w) 5 t.pF t.sk ["shape"] Pu:=by
 have S:=Q0;refine T.lG.dC S (fun _ _ _ _ H _ _ _ hr h L=>?_);obtain ⟨tp,n,Lk,rfl,kj,aM,n9,kk⟩:=h;have lK:=hr.units;have hu:=jI (qK (show 1≤64 by decide) _) hr.units
 refine ⟨_,(aI (putL 1 S.nd (bf (QV T) hr T.GU T.sQ.kp T.GS (n8 L) (af (pv 0) ao)))
  (aI (putL 2 S.nd (g6 ao))
  (aI (putL 3 S.nd (gA ao))
  (aI (z_ (Ft L) (eR wL (cY jm rfl T.gM gR (af (pv 2) ao)) (bO iH (pv 0) ay)) (aI (putL 4 S.nd (bO iH (cY (O_ rfl lK) rfl T.vD boot_min (af (bf (Ht T) hr T.BX T.pV.kp T.BW (n8 L) (af (pv 0) (af (pv 3) (af (pv 1) ao)))) ao)) ay))
  (aI (iD (kM jN ma md iJ (pv 2) (af (pv 4) ao)))
  (a8 (putL 3 S.nd (bf (Hs T) hr T.BV T.pU.kp T.BU b4 (af (pv 3) (af (pv 4) ao))))))))
  (a8 (cP (gA (af (pv 2) (af (Fc hu (pv 1) (gA ao) (fun _ _=>rfl)) ao))))))))),?_⟩
 refine ⟨_,rfl,tp,n,Lk,rfl,kj,aM,n9,fun H1 D qs s1 nD eD pq=>?_⟩;dsimp only [aY];refine ⟨bU _,fun lo nh=>?_⟩;have s2:ai H1 (upd H1 lo (.lst [])):=aG nh;have ni:upd H1 lo (.lst []) lo=some (.lst []):=ar;have Hv:H lo=none:=none_of s1 nh;have fO:=s2 _ _ eD;dsimp only [aY];generalize upd H1 lo (.lst [])=H2 at s2 ni fO ⊢;refine ⟨bU _,fun td Q1=>?_⟩;have s3:ai H2 (upd H2 td (.tup [])):=aG Q1;have Hw:upd H2 td (.tup []) td=some (.tup []):=ar;have yR:=s3 _ _ ni;have vJ:=s3 _ _ fO;dsimp only [aY];generalize upd H2 td (.tup [])=H3 at s3 Hw yR vJ ⊢;have ie:=s1.trans (s2.trans s3);have Q2:lo≠D:=fun z=>by rw [z,vJ] at yR;cases yR
 have HA:∀q,q∈a9 n→eZ (wD (wW n Lk) qs) (fJ q)=some (.int (wW n Lk q)):=fun q hq=>Bu _ (pq.mem_iff.mpr hq);refine bL ⟨fun m σ Hc=>∃(o Sd:List Nat) (dn:Addr) (v4:Option V),σ=[some (.ref tp),some (.ref D),some (.ref lo),some (.ref dn),v4]∧m=n-o.length∧ai H Hc∧Hc D=some (.dT (wD (wW n Lk) qs))∧Hc lo=some (.lst (o.map fun k:Nat=>V.int (k:Int)))∧Hc dn=some (.tup (Sd.map fun k:Nat=>V.int (k:Int)))∧oS n Lk o Sd,⟨_,[],[],td,_,rfl,rfl,ie,vJ,yR,Hw,oS.start n Lk⟩,?_⟩;rintro m σ Hc ⟨o,Sd,dn,v4,rfl,rfl,sc,sZ,yT,yU,fw⟩;obtain ⟨lt,us,fL,elt,n5⟩:=id (kj.mono sc);obtain ⟨m1,m2⟩:=cQ.mp fw.mem;have lS:Sd.length=o.length:=fw.pm.length_eq;have VM:o.length≤n:=by rw [←lS];exact vi m1 m2
 refine ⟨_,rfl,lo,_,rfl,.inl (.of yT),_,rfl,tp,_,_,_,rfl,rfl,.of fL,rfl,_,_,rfl,rfl,_,rfl,gD (fun hc=>?_) (fun hc=>?_)⟩
 ·have hc:((o.map fun k:Nat=>V.int (k:Int)).length:Int)<(n:Int):=d7 hc
  rw [aB] at hc;have mZ:o.length<n:=by omega
  refine ⟨_,fun _ _ h=>h,?_⟩;refine ⟨_,rfl,_,rfl,_,rfl,tp,dn,D,n,Lk,Sd,_,wW n Lk,rfl,kj.mono sc,aM,n9,yU,fw.mem,sZ,(fun p pn pd=>HA _ (cQ.mpr ⟨kd m1 pd,fun x hx=>by
   rcases fI.mp hx with rfl | hx;·exact pn
   ·exact m2 x hx⟩)),fun H4 Dc ys s4 Q3 ch=>?_⟩
  have Q4:0<(aK n Sd).length:=Pt fw.mem (by omega)
  have lk:=F1 ch;refine ⟨Dc,ys,(fun i=>(((aK n Sd).map fun p=>(bJ n Lk Sd p+wW n Lk (aH Sd p),(p:Int))).getD i (0,0)).1),(fun i=>(((aK n Sd).map fun p=>(bJ n Lk Sd p+wW n Lk (aH Sd p),(p:Int))).getD i (0,0)).2),rfl,Q3,by rw [ch.1];exact Q4,(fun i v hv=>?_),fun i v hv best=>?_⟩
  ·have hi:i<(aK n Sd).length:=by rw [←ch.1];exact (b9.mp hv).1
   obtain ⟨b,e,g⟩:=ch.2 i v _ hv (bQ hi);have pl:(aK n Sd)[i]<n:=aQ.mp (bF.mp (dH hi)).1;simp only [ei,bt,bQ hi,Option.map_some,Option.getD_some];exact ⟨⟨b,e,g⟩,by omega,by omega⟩
  ·have hi:i<(aK n Sd).length:=by rw [←ch.1];exact (b9.mp hv).1
   obtain ⟨b,rfl,g⟩:=ch.2 i v _ hv (bQ hi);have yV:(aK n Sd)[i]∈aK n Sd:=dH hi;have pl:(aK n Sd)[i]<n:=aQ.mp (bF.mp yV).1;have oP:∀q∈aK n Sd,bJ n Lk Sd (aK n Sd)[i]+wW n Lk (aH Sd (aK n Sd)[i])≤bJ n Lk Sd q+wW n Lk (aH Sd q):=fun q hq=>by
    obtain ⟨j,hj,rfl⟩:=qw hq;have ql:(aK n Sd)[j]<n:=aQ.mp (bF.mp hq).1;have:=best j (by rw [ch.1];exact hj)
    simp only [ei,bt,bQ hi,bQ hj,Option.map_some,Option.getD_some] at this;omega
   generalize (aK n Sd)[i]=p at g yV pl oP;have pS:p∉Sd:=by have:=(bF.mp yV).2;simpa using this
   have HB:=s4 _ _ yT;refine ⟨b,_,_,_,rfl,rfl,.of g,rfl,?_⟩;dsimp only [aY];refine ⟨_,rfl,.inl ⟨rfl,_,.of HB⟩,_,rfl,lo,_,_,rfl,rfl,HB,cS (by rw [aB];omega),?_⟩
   have off:∀c u,c≠lo→H4 c=some u→upd H4 lo (.lst ((o.map fun k:Nat=>V.int (k:Int))++[V.int (p:Int)])) c=some u:=fun c u cl e=>(aR cl).trans e;have HC:upd H4 lo (.lst ((o.map fun k:Nat=>V.int (k:Int))++[V.int (p:Int)])) lo=some (.lst ((o++[p]).map fun k:Nat=>V.int (k:Int))):=by rw [ar,dR];rfl
   have Q5:dn≠lo:=fun z=>by rw [z,yT] at yU;cases yU
   have HD:=off _ _ Q5 (s4 _ _ yU);have HE:=off _ _ Q2.symm (s4 _ _ sZ);have s5:ai H (upd H4 lo (.lst ((o.map fun k:Nat=>V.int (k:Int))++[V.int (p:Int)]))):=fun c u e=>off c u (fun z=>by rw [z,Hv] at e;cases e) (s4 _ _ (sc _ _ e))
   generalize upd H4 lo (.lst ((o.map fun k:Nat=>V.int (k:Int))++[V.int (p:Int)]))=H5 at HC HD HE s5 ⊢;dsimp only;refine ⟨_,rfl,_,rfl,dn,Sd.map iN,(p:Int),rfl,by rw [HD,bR];rfl,by rw [aB];omega,fun H6 tq ws pm so QT s6 B_=>?_⟩
   have ew:=FX m1 pS pm so;subst ew;refine ⟨_,?_,o++[p],aH Sd p,tq,_,rfl,rfl,s5.trans s6,s6 _ _ HE,s6 _ _ HC,by rw [B_,bR];rfl,fw.next yV oP⟩
   rw [dh];simp only [kB];omega
 ·have hc:¬((o.map fun k:Nat=>V.int (k:Int)).length:Int)<(n:Int):=fun z=>hc (cf z)
  rw [aB] at hc;have oe:o.length=n:=by omega
  have sf:=F5 fw.mem (by omega)
  have w0:wW n Lk Sd=0:=by unfold wW;rw [lS,oe,qu];rfl
  have tt:=fw.lA;refine ⟨_,rfl,_,rfl,bU _,fun e0 Q6=>?_⟩;have s6:ai Hc (upd Hc e0 (.tup [])):=aG Q6;have e6:upd Hc e0 (.tup []) e0=some (.tup []):=ar;generalize upd Hc e0 (.tup [])=H6 at s6 e6 ⊢;refine ⟨D,_,rfl,(HA [] (cQ.mpr ⟨.nil,fun x h=>by cases h⟩))▸k8.t (k:=fJ []) (s6 _ _ sZ) e6,by show 2≤sizeLine;decide,fun t nt=>?_⟩
  exact kk _ t lo o (sc.trans (s6.trans (aG nt))) Hv ar (aG nt _ _ (s6 _ _ yT)) (fw.pm.symm.trans (sf▸.refl _)) (by omega)
theorem Q7:cq ["thing","n"] ["thing","n"] (bI ye):=du
theorem Q8(T:Txt K mg t):bZ P w K mg base dw 2 t.oY t.rP ["thing","n"] NS:=by
 have S:=Q7;refine T.sI.fg S (fun _ _ _ _ H _ _ _ hr h=>?_);obtain ⟨a,zs,n,rfl,ea,qc,n1,k⟩:=h;have lK:=hr.units
 refine ⟨_,(aI (fA (PW.pt (pw_or (z5 (zZ (cY (Ax (K:=K)) rfl T.yK boot_isinstance (af (pv 0) (af (zY (v:=.ty "list") rfl T.gp boot_list rfl) ao))))) (pw_or1 (z5 (zZ (cY (L8 (K:=K) rfl) rfl T.G6 boot_all (af (kP (N:=["place"]) (ρ:=(fun σ=>[])) (iK [] rfl) rfl (gX (pv 0)) (fun _ _ _=>.nil) (fun _ _ _=>(bf (Qv T) hr T.GB T.sG.kp T.GA b4 (af (pv 0) ao)))) ao))))))) (a8 (cP jf)) fz)
  (a8 (cP (Ae (NO lK) (cY Fi rfl T.sW t8 (af (pv 0) ao)) (cZ (jw rfl) rfl T.gp boot_list (af (cZ jv rfl T.d6 iM (af (pv 1) ao)) ao)))))),?_⟩
 refine ⟨_,rfl,_,_,_,true,rfl,rfl,.of (.lst ea),Md,true,rfl,mL ?_⟩;unfold Dr tB;refine xi (Mg (xs:=zs.map V.int) (fun R h=>⟨_,rfl,a,rfl,⟨_,.of ea⟩,h _ _ (ai.refl _) (mO (.of ea))⟩) (by rw [aB];exact cS (by omega)) (fun _ i y _=>y=.bl true) (fun _ _ _ _ _ _ h _ _=>h) ?_ ?_)
 ·intro D i v hi Hc R sc _ kc
  obtain ⟨z,rfl⟩:∃z:Int,v=.int z:=by
   rw [bt] at hi;cases e:zs[i]? with
   | none=>rw [e] at hi;cases hi
   | some z=>rw [e] at hi;exact ⟨z,(Option.some.inj hi).symm⟩
  exact ⟨_,rfl,.int z,rfl,.int z,kc _ Hc (ai.refl _) rfl⟩
 ·intro D ys Hc sc qa hP eD
  refine ⟨D,List.replicate ys.length true,rfl,.of (by rw [eD];exact b_ _ (b_ _ (Mn hP))),?_⟩
  rw [Mo];refine ⟨true,rfl,mL ?_⟩;dsimp only [qP];have Q9:=sc _ _ ea;refine ⟨_,rfl,a,zs,rfl,Q9,qc,fun ws D2 p o n2=>?_⟩;refine ⟨_,rfl,(n:Int),rfl,fun p1 Ca=>⟨p1,n,rfl,ar,by omega,fun l nl=>?_⟩⟩
  have d1:D2≠p1:=fun z=>by rw [←z,ar] at Ca;cases Ca
  have d2:D2≠l:=fun z=>by rw [←z,aR d1,ar] at nl;cases nl
  refine ⟨D2,l,ws,(List.range n).map iN,rfl,rfl,.of ?_,.of ?_,?_⟩;·rw [aR d2,aR d1,ar]
  ·rw [ar]
   unfold aW;rw [bR];rfl
  ·rw [NR p o]
   exact k _ (xN (xN (xN sc n2) Ca) nl)
theorem Q_:cq ["order","n"] ["order","n"] (bI yf):=du
theorem Ra(T:Txt K mg t):bZ P w K mg base (eV P w) 3 t.oZ t.rQ ["order","n"] (NT t.lF):=by
 have S:=Q_;refine T.sJ.dC S (fun _ _ _ _ H _ _ _ hr h L=>?_);obtain ⟨a,zs,n,rfl,ea,qc,n1,kE,k⟩:=h;refine ⟨_,(a8 (fA (z5 (zZ (bf (Q8 T) hr T.GD T.sI.kp T.GC b4 (af (pv 0) (af (pv 1) ao))))) (a8 (Em L rfl PySem.F.excBase_ValueError T.G8 rfl T.G2 (af Dq ao))) fz)),?_⟩;refine ⟨_,rfl,_,rfl,a,zs,n,rfl,ea,qc,n1,fun H1 s1=>⟨_,rfl,gD (fun hb=>?_) (fun hb=>?_)⟩⟩;·exact ⟨by show 1≤sizeLine;decide,kE (by simpa using hb) _ s1⟩
 ·exact k (by simpa using hb) _ s1
theorem Rb:cq ["order","turns","turn","place"] ["order"] (bI yg):=du
theorem Rc(T:Txt K mg t):bZ P w K mg base dw 1 t.o6 t.rR ["order"] NV:=by
 have S:=Rb;refine T.sL.fg S (fun _ _ _ _ H _ _ _ hr h=>?_);obtain ⟨a,n,o,rfl,⟨ea,ho⟩,n1,kk⟩:=h;have lo:=rj ho;have lm:(o.map fun k:Nat=>V.int (k:Int)).length=n:=by rw [aB,lo]
 refine ⟨_,(aI (putL 1 S.nd (aD Lr (g6 (af ay ao)) (cY jm rfl T.gM gR (af (pv 0) ao))))
  (aI (gY gx rfl (EH rfl T.B0 (af (pv 0) ao)) (ue rfl (jR (dI (i:=2) S.nd rfl (Or.inl rfl)) (jR (dI (i:=3) S.nd rfl (Or.inl rfl)) ud)))
   (a8 (@ug _ _ _ _ _ _ (pv 2) (uf (pv 1) (pv 3) set_list) (by rfl) (by rfl) (by rfl))))
  (a8 (cP (pv 1))))),?_⟩
 refine ⟨by show 1≤sizeLine;decide,fun l nl=>?_⟩
 have al:a≠l:=fun z=>by rw [z,nl] at ea;cases ea
 refine ⟨_,rfl,a,_,rfl,.inl (.of (by rw [aR al];exact ea)),l,_,_,rfl,rfl,ar,by omega,by rw [lm];omega,?_,fun c nc=>?_⟩
 ·rw [lm,cU]
  show 1*n≤sizeLine;rw [gO];omega
 rw [lm,cU,NY n o];have HF:H c=none:=none_of (aG nl) nc;have s0:ai H (upd (upd H l (.lst [.int 0])) c (.lst ((List.range n).map fun p=>V.int (iT o 0 p)))):=(aG nl).trans (aG nc);have e0:upd (upd H l (.lst [.int 0])) c (.lst ((List.range n).map fun p=>V.int (iT o 0 p))) c=_:=ar;generalize upd (upd H l (.lst [.int 0])) c (.lst ((List.range n).map fun p=>V.int (iT o 0 p)))=H0 at s0 e0 ⊢;dsimp only [aY];refine bL ⟨_,rfl,a,rfl,⟨_,.of (s0 _ _ ea)⟩,?_⟩
 refine Mv (K:=K) (l:=a) (xs:=o.map fun k:Nat=>V.int (k:Int)) (fun i σ Hc=>ai H Hc∧∃(v2 v3:Option V),σ=[some (.ref a),some (.ref c),v2,v3]∧Hc c=some (.lst ((List.range n).map fun p=>V.int (iT o i p))))
  ⟨s0,_,_,rfl,e0⟩ (fun i σ Hc ⟨z,_⟩=>.of (z _ _ ea)) ?_ ?_
 ·rintro i x σ Hc Tt hx ⟨sc,v2,v3,rfl,ec⟩ nT
  have hi:i<o.length:=by have:=(b9.mp hx).1;simpa using this
  have ex:x=.int ((o[i]:Nat):Int):=by rw [bt] at hx;simp [hi] at hx;exact hx.symm
  subst ex;have hp:o[i]<n:=(hV ho).mp (dH hi);have sT:ai Hc (upd Hc Tt (.tup [.int (i:Int),.int ((o[i]:Nat):Int)])):=aG nT;have eT:upd Hc Tt (.tup [.int (i:Int),.int ((o[i]:Nat):Int)]) Tt=_:=ar;generalize upd Hc Tt (.tup [.int (i:Int),.int ((o[i]:Nat):Int)])=H1 at sT eT ⊢;refine ⟨Tt,_,rfl,.of eT,rfl,_,_,rfl,_,_,rfl,rfl,?_⟩;refine ⟨_,rfl,_,rfl,_,rfl,c,_,_,o[i],rfl,rfl,sT _ _ ec,by rw [aB,b6];exact Fm hp,?_⟩
  exact ⟨dW (sc.trans sT) HF,_,_,rfl,by rw [ar,NX ho hi]⟩
 ·rintro σ Hc ⟨sc,v2,v3,rfl,ec⟩
  rw [aB,NZ ho] at ec;exact ⟨_,rfl,kk c Hc sc HF ec⟩
theorem Rf:cq ["linked","places","one","other"] ["linked","places"] (bI yh):=du
theorem Rg(T:Txt K mg t):bZ P w K mg base dw 1 t.o7 t.rS ["linked","places"] N0:=by
 have S:=Rf;refine T.sM.fg S (fun _ _ _ _ H _ _ _ hr h=>?_);obtain ⟨D,pl,n,ds,un,f,ps,rfl,KL,lN,Rh,n9,kk⟩:=h;have hu:=jI (qK (show 1≤64 by decide) _) hr.units
 have cu:∀i,i<n→un i→pl≠ds i:=fun i hi ui z=>by rw [z,KL.at' i hi ui] at lN;cases lN
 have vK:∀{i:Nat} {x:V},(ps.map fun k:Nat=>V.int (k:Int))[i]?=some x→∃p:Nat,ps[i]?=some p∧x=.int (p:Int)∧p<n∧un p:=fun{i x} hx=>by
  rw [bt] at hx;cases e:ps[i]? with
  | none=>rw [e] at hx;cases hx
  | some p=>rw [e] at hx;exact ⟨p,rfl,(Option.some.inj hx).symm,Rh p (i8 e)⟩
 refine ⟨_,(a8 (gY gx rfl (gX (pv 1)) (dI (i:=2) S.nd rfl (Or.inl rfl))
   (a8 (gY gx rfl (gX (pv 1)) (dI (i:=3) S.nd rfl (Or.inl rfl))
   (a8 (fA (eR nY (pv 2) (pv 3)) (a8 (u7 hu (bO dv (pv 0) (pv 2)) (pv 3) jf rfl)) fz)))))),?_⟩
 refine ⟨_,rfl,pl,rfl,⟨_,.of lN⟩,?_⟩;refine um (K:=K) (a:=pl) (xs:=ps.map fun k:Nat=>V.int (k:Int)) (fun i σ Hc=>∃(g:Nat→List Nat) (v2 v3:Option V),σ=[some (.ref D),some (.ref pl),v2,v3]∧mU n ds un H Hc∧dc Hc D n ds un g∧fG n f ps i 0 g) ⟨f,_,_,rfl,.refl,KL,fG.start n f ps⟩ (fun i σ Hc _ ⟨_,_,_,_,oc,_⟩=>.of (oc _ _ lN cu)) ?_ ?_
 ·rintro i x σ Hc hx ⟨g,v2,v3,rfl,oc,Kc,la⟩
  obtain ⟨p,hp,rfl,pn,up⟩:=vK hx;refine ⟨_,rfl,pl,rfl,⟨_,.of (oc _ _ lN cu)⟩,?_⟩;refine um (K:=K) (a:=pl) (xs:=ps.map fun k:Nat=>V.int (k:Int)) (fun j σ Hd=>∃(g:Nat→List Nat) (v3:Option V),σ=[some (.ref D),some (.ref pl),some (.int (p:Int)),v3]∧mU n ds un H Hd∧dc Hd D n ds un g∧fG n f ps i j g) ⟨g,_,rfl,oc,Kc,la⟩ (fun i σ Hc _ ⟨_,_,_,oc,_⟩=>.of (oc _ _ lN cu)) ?_ ?_
  ·rintro j y σ Hd hy ⟨g,v3,rfl,od,Kd,la⟩
   obtain ⟨q,hq,rfl,qn,uq⟩:=vK hy;refine ⟨_,rfl,_,rfl,rfl,_,rfl,gD (fun hb=>?_) (fun hb=>?_)⟩
   ·have ne:p≠q:=fun z=>by subst z;rw [uJ,cf rfl] at hb;cases hb
    obtain ⟨q1,K1⟩:=Kd.put pn qn up n9;exact ⟨_,rfl,_,rfl,D,_,_,_,rfl,rfl,.of Kd.lst,Kd.ix pn,_,rfl,_,_,rfl,q1,_,_,rfl,od.put pn up,K1,la.put hp hq ne⟩
   ·have e:p=q:=by
     by_cases z:(p:Int)=(q:Int);·omega
     ·exact absurd (by rw [uJ,bV z];rfl) hb
    subst e;exact ⟨_,_,rfl,od,Kd,la.same hp hq⟩
  ·rintro σ Hd ⟨g,v3,rfl,od,Kd,la⟩
   rw [aB] at la;exact ⟨g,_,_,rfl,od,Kd,la.row⟩
 ·rintro σ Hc ⟨g,v2,v3,rfl,oc,Kc,la⟩
  rw [aB] at la;exact kk _ g oc Kc la.done
theorem Ri:cq ["shape","order","linked","turns","told","place"] ["shape","order"] (bI yi):=du
theorem HG(T:Txt K mg t):bZ P w K mg base (eV P w) 4 t.o8 t.rT ["shape","order"] (Ot t.lF):=by
 have S:=Ri;refine T.pP.dC S (fun _ _ _ _ H _ _ _ hr h L=>?_);obtain ⟨tp,a,n,Lk,zs,rfl,hS,hL,ns,QB,ea,qc,kE,kk⟩:=h;obtain ⟨lt,us,fL,elt,n5⟩:=id hS
 refine ⟨_,(aI (iD (bf (Ra T) hr T.GG T.sJ.kp T.GF (n8 L) (af (pv 1) (af (bO iH (pv 0) ay) ao))))
  (eQ.nU (aI (putL 2 S.nd (bf (G_ T) hr T.BM T.pO.kp T.BL b4 (af (pv 0) ao)))
  (aI (Eu 3 S.nd (bf (Rc T) hr T.GI T.sL.kp T.GH b4 (af (pv 1) ao)))
  (aI (AF (i0:=4) (N:=["place"]) (ρ:=(fun σ=>[])) (iK [] rfl) rfl S.nd rfl (Or.inl rfl) (gX (pv 1)) (fun _ _ _=>.nil) (fun _ _ _=>(g6 ao)))
  (aI (gY gx rfl (gX (pv 1)) (dI (i:=5) S.nd rfl (Or.inr rfl))
   (aI (@ug _ _ _ _ _ _ (cY Fi rfl T.sW t8 (af (kP (N:=["other","turns","place"]) (ρ:=(fun σ=>[σ[3]?.join,σ[5]?.join])) (iK [3,5] rfl) rfl (Bj (bO dv (pv 2) (pv 5))) (fun _ _ _=>(.one (eR ur (bO (xh (K:=K)) (pv 1) (pv 0)) (bO (xh (K:=K)) (pv 1) (pv 2))))) (fun _ _ _=>(pv 0))) ao)) (uf (pv 4) (pv 5) set_list) (by rfl) (by rfl) (by rfl))
  (a8 (iD (bf (Rg T) hr T.GK T.sM.kp T.GJ b4 (af (pv 2) (af (bO dv (pv 4) (pv 5)) ao)))))))
  (a8 (cP (pv 4))))))))),?_⟩
 refine ⟨_,rfl,_,rfl,tp,_,_,_,rfl,rfl,.of fL,rfl,a,zs,n,rfl,ea,qc,by omega,fun no H1 s1=>kE no H1 s1,fun yes H1 s1=>?_⟩
 obtain ⟨o,rfl,ho⟩:=N7 yes;have kk:=kk o rfl ho;have lo:=rj ho;have nd:=u9 ho;have vL:H a=some (.lst (o.map fun k:Nat=>V.int (k:Int))):=by rw [ea,bR];rfl
 have lm:(o.map fun k:Nat=>V.int (k:Int)).length=n:=by rw [aB,lo]
 refine ⟨_,rfl,tp,n,Lk,rfl,⟨lt,us,s1 _ _ fL,s1 _ _ elt,n5.mono s1⟩,hL,by omega,fun H2 D ds f s2 nD yO KL nb=>?_⟩
 have VN:=none_of s1 nD;have HH:∀i,i<n→H (ds i)=none:=fun i hi=>none_of s1 (yO i hi);have lL:=s1.trans s2;dsimp only [aY];refine ⟨_,rfl,a,n,o,rfl,⟨lL _ _ vL,ho⟩,by omega,fun tr H3 s3 Rj e3=>?_⟩
 have ie:=lL.trans s3;have VO:=none_of lL Rj;have K3:=KL.mono s3;dsimp only [aY];refine bL (kU (EI (xs:=o.map fun k:Nat=>V.int (k:Int)) (n:=n) lm (fun R h=>⟨_,rfl,a,rfl,⟨_,.of (ie _ _ vL)⟩,h _ _ (ai.refl _) (mO (.of (ie _ _ vL)))⟩) (cS (by omega)) (fun _ i y Hx=>H3 y=none) (fun _ _ _ _ _ _ h _ _ _=>h) ?_ ?_))
 ·intro D' i x hx Hc R sc _ kc
  refine ⟨by show 0≤sizeLine;exact bU _,fun p np=>kc p _ (aG np) np ⟨_,ar⟩ (none_of sc np)⟩
 ·intro c Rk H4 nc s4 _ hA ec
  have s_:=ie.trans s4;have HI:=none_of ie nc;have K4:=K3.mono s4;have e4:=s4 _ _ e3;have cD:c≠D:=fun z=>by rw [z,K3.lst] at nc;cases nc
  have Rm:c≠tr:=fun z=>by rw [z,e3] at nc;cases nc
  dsimp only [aY];refine bL ⟨_,rfl,a,rfl,⟨_,.of (s_ _ _ vL)⟩,?_⟩
  refine um (K:=K) (a:=a) (xs:=o.map fun k:Nat=>V.int (k:Int)) (fun k σ Hc=>∃(rs:Nat→Addr) (f g:Nat→List Nat) (v5:Option V),σ=[some (.ref tp),some (.ref a),some (.ref D),some (.ref tr),some (.ref c),v5]∧ai H Hc∧dc Hc D n ds (fun p=>k≤o.idxOf p) f∧Hc tr=some (.lst ((List.range n).map fun p=>V.int (o.idxOf p:Int)))∧Hc c=some (.lst ((List.range n).map fun p=>V.ref (rs p))) ∧
    (∀p,p<n→o.idxOf p<k→H (rs p)=none∧rs p≠c∧Hc (rs p)=some (.lst ((g p).map fun k:Nat=>V.int (k:Int)))∧gK n o p (g p)∧ic n Lk o p (g p))∧oM n Lk o k f) ⟨Rk,f,fun _=>[],_,rfl,s_,K4.less (fun _ _ _=>trivial),e4,ec,fun p _ h=>absurd h (tU _),oM.start nb ns⟩ (fun k σ Hc _ ⟨_,_,_,_,_,sc,_⟩=>.of (sc _ _ vL)) ?_ ?_
  ·rintro k x σ Hc hx ⟨rs,f,g,v5,rfl,sc,Kc,Cb,yW,done,Cc⟩
   have hk:k<o.length:=by have:=(b9.mp hx).1;simpa using this
   have ex:x=.int ((o[k]:Nat):Int):=by rw [bt] at hx;simp [hk] at hx;exact hx.symm
   subst ex;have hp:o[k]<n:=(hV ho).mp (dH hk);have ip:o.idxOf o[k]=k:=Fn nd hk;generalize o[k]=p at hp ip ⊢;dsimp only [aY];have HJ:=Kc.at' p hp (by omega)
   refine bL (kU (xi (xP ⟨_,rfl,_,rfl,D,_,_,_,rfl,rfl,.of Kc.lst,Kc.ix hp,ds p,dk (f p),rfl,.inl ⟨HJ,fun ob=>?_⟩⟩)));have Kf:dc (upd Hc (ds p) (.bx ob (.dK (dk (f p))))) D n ds (fun q=>k+1≤o.idxOf q) f:=(Kc.less (fun i hi (ui:k+1≤o.idxOf i)=>show k≤o.idxOf i by omega)).upd (Kc.ne p hp) (fun i hi (ui:k+1≤o.idxOf i) z=>by have:=Kc.inj i p hi hp z;subst this;omega)
   have Cd:∀{b:Addr} {xs:List V},Hc b=some (.lst xs)→b≠ds p:=fun{b xs} e z=>by rw [z,HJ] at e;cases e
   have yX:upd Hc (ds p) (.bx ob (.dK (dk (f p)))) tr=_:=(aR (Cd Cb)).trans Cb;have yY:upd Hc (ds p) (.bx ob (.dK (dk (f p)))) c=_:=(aR (Cd yW)).trans yW;have sf:ai H (upd Hc (ds p) (.bx ob (.dK (dk (f p))))):=fun b u e=>by
    rw [aR (fun z=>by rw [z,HH p hp] at e;cases e)]
    exact sc _ _ e
   have Ce:∀q,q<n→o.idxOf q<k→H (rs q)=none∧rs q≠c∧upd Hc (ds p) (.bx ob (.dK (dk (f p)))) (rs q)=some (.lst ((g q).map fun k:Nat=>V.int (k:Int)))∧gK n o q (g q)∧ic n Lk o q (g q):=fun q hq yZ=>by obtain ⟨d1,d2,d3,d4⟩:=done q hq yZ;exact ⟨d1,d2,(aR (Cd d3)).trans d3,d4⟩
   have p8:upd Hc (ds p) (.bx ob (.dK (dk (f p)))) (ds p)=some (.bx ob (.dK (dk (f p)))):=ar;generalize upd Hc (ds p) (.bx ob (.dK (dk (f p))))=Hf at Kf yX yY sf Ce p8 ⊢;have vM:=Kc.pl p hp;refine Fp p8 (fun q=>decide ((o.idxOf p:Int)<(o.idxOf q:Int))) (jI vM.len (cS (by omega))) ?_ ?_ ?_
   ·intro q hq Hx R sx hR
    have qn:=vM.2 q hq;exact ⟨_,rfl,_,rfl,tr,_,_,_,rfl,rfl,.of (sx _ _ yX),xO qn,_,rfl,_,rfl,tr,_,_,_,rfl,rfl,.of (sx _ _ yX),xO hp,_,_,rfl,rfl,_,rfl,hR⟩
   ·intro q hq Hx R hR
    exact ⟨_,rfl,hR⟩
   ·intro D1 H1 Rn HK y4
    rw [Ob] at y4;have fl:((f p).filter fun q=>decide (o.idxOf p<o.idxOf q)).length≤n:=b5 (qG _ _) vM.len;refine ⟨D1,((f p).filter fun q=>decide (o.idxOf p<o.idxOf q)).map iN,rfl,by rw [y4,bR];rfl,by rw [aB];omega,fun ws D2 pw so qb=>?_⟩
    obtain ⟨ms,rfl,pm⟩:=Fq pw;have y6:=N5 vM pm so;have hm:∀q,q∈ms↔q∈f p∧k<o.idxOf q:=fun q=>by rw [pm.mem_iff,bF,dS,ip]
    have Ro:ic n Lk o p ms:=fun q=>by
     rw [hm q,ip];constructor
     ·rintro ⟨h1,h2⟩
      have qn:=vM.2 q h1;exact ⟨qn,h2,((Cc p q hp qn (by omega) (by omega)).mp h1).2⟩
     ·rintro ⟨h1,h2,h3⟩
      exact ⟨(Cc p q hp h1 (by omega) (by omega)).mpr ⟨fun e=>by subst e;omega,h3⟩,h2⟩
    have qd:ai Hf (upd H1 D2 (.lst ((ms.map iN).map V.int))):=xN HK qb;have fO:upd H1 D2 (.lst ((ms.map iN).map V.int)) D2=some (.lst (ms.map fun k:Nat=>V.int (k:Int))):=by rw [ar,bR];rfl
    have Cf:Hf D2=none:=none_of HK qb;have Rp:H D2=none:=none_of sf Cf;generalize upd H1 D2 (.lst ((ms.map iN).map V.int))=Hg at qd fO ⊢;have HL:D2≠c:=fun z=>by rw [z,yY] at Cf;cases Cf
    refine ⟨_,rfl,_,rfl,c,_,_,p,rfl,rfl,qd _ _ yY,by rw [aB,b6];exact Fm hp,?_⟩
    rw [N8];have Kg:=Kf.mono qd;have Kh:dc (upd Hg c (.lst ((List.range n).map fun q=>V.ref (iU rs p D2 q)))) D n ds (fun q=>k+1≤o.idxOf q) f:=Kg.upd cD (fun i hi ui z=>by have:=Kg.at' i hi ui;rw [z,qd _ _ yY] at this;cases this)
    have sh:ai H (upd Hg c (.lst ((List.range n).map fun q=>V.ref (iU rs p D2 q)))):=dW (sf.trans qd) HI;have Cg:upd Hg c (.lst ((List.range n).map fun q=>V.ref (iU rs p D2 q))) c=_:=ar;have HM:upd Hg c (.lst ((List.range n).map fun q=>V.ref (iU rs p D2 q))) tr=_:=(aR (Ne.symm Rm)).trans (qd _ _ yX);have Ci:upd Hg c (.lst ((List.range n).map fun q=>V.ref (iU rs p D2 q))) D2=_:=(aR HL).trans fO;have HN:∀q,q<n→o.idxOf q<k→upd Hg c (.lst ((List.range n).map fun q=>V.ref (iU rs p D2 q))) (rs q)=some (.lst ((g q).map fun k:Nat=>V.int (k:Int))):=fun q hq yZ=>by obtain ⟨d1,d2,d3,d4⟩:=Ce q hq yZ;exact (aR d2).trans (qd _ _ d3)
    generalize upd Hg c (.lst ((List.range n).map fun q=>V.ref (iU rs p D2 q)))=Hh at Kh sh Cg HM Ci HN ⊢;refine ⟨_,rfl,_,rfl,_,rfl,c,_,_,_,rfl,rfl,.of Cg,xO hp,?_⟩;rw [Fs];refine ⟨D,D2,n,ds,_,f,ms,rfl,Kh,Ci,fun q hq=>⟨y6.lt q hq,by have:=y6.la q hq;omega⟩,by omega,fun H5 g5 off K5 con=>?_⟩
    have cu:∀{b:Addr} {xs:List V},Hh b=some (.lst xs)→H5 b=some (.lst xs):=fun{b xs} e=>off _ _ e fun i hi ui z=>by rw [z,Kh.at' i hi ui] at e;cases e
    refine ⟨iU rs p D2,g5,eM g p ms,_,rfl,fun b u e=>off _ _ (sh _ _ e) (fun i hi _ z=>by rw [z,HH i hi] at e;cases e),K5,cu HM,cu Cg,fun q hq yZ=>?_,Cc.step ho hp ip hm y6.lt con⟩
    by_cases e:q=p
    ·subst e
     rw [Fs,N_];exact ⟨Rp,HL,cu Ci,y6,Ro⟩
    ·rw [N9 e,Oa e]
     have ne:=va ho hq hp e;have HP:o.idxOf q<k:=by omega
     obtain ⟨d1,d2,d3,d4⟩:=Ce q hq HP;exact ⟨d1,d2,cu (HN q hq HP),d4⟩
  ·rintro σ Hc ⟨rs,f,g,v5,rfl,sc,Kc,Cb,yW,done,_⟩
   rw [lm] at done;have lt:∀p,p<n→o.idxOf p<n:=fun p hp=>by have:=(u_ ((hV ho).mpr hp)).1;omega
   exact ⟨_,rfl,kk Hc c rs g sc HI (fun p hp=>(done p hp (lt p hp)).1) ⟨yW,fun p hp=>(done p hp (lt p hp)).2.2.1⟩ fun p hp=>(done p hp (lt p hp)).2.2.2⟩
theorem Rq:cq ["shape","order"] ["shape","order"] (bI yk):=du
theorem Cj(T:Txt K mg t):bZ P w K mg base (eV P w) 5 t.o_ t.rW ["shape","order"] (OH t.lF):=by
 have S:=Rq;refine T.m5.dC S (fun _ _ _ _ H _ _ _ hr h L=>?_);obtain ⟨tp,a,n,Lk,zs,rfl,hS,hL,ns,n9,ea,qc,kE,kk⟩:=h
 refine ⟨_,(aI (cP (cY (EA (K:=K) rfl) rfl T.BZ boot_sum (af (kP (N:=["others"]) (ρ:=(fun σ=>[])) (iK [] rfl) rfl (gX (bf (HG T) hr T.BO T.pP.kp T.BN (n8 L) (af (pv 0) (af (pv 1) ao)))) (fun _ _ _=>.nil) (fun _ _ _=>(bf (Hj T) hr T.BQ T.pQ.kp T.BP b4 (af (cY (ED (K:=K)) rfl T.gM gR (af (pv 0) ao)) ao)))) ao)))
  (eQ.nU fz)),?_⟩
 refine AK (xi (xP ⟨_,rfl,_,rfl,tp,a,n,Lk,zs,rfl,hS,hL,ns,by omega,ea,qc,kE,fun o ez ho H1 D rs g s1 nD Rr la ok=>⟨D,rfl,⟨_,.of la.1⟩,?_⟩⟩))
 have Ck:((List.range n).map fun p=>V.ref (rs p)).length=n:=by rw [aB,b6]
 refine qZ (xs:=(List.range n).map fun p=>V.ref (rs p)) (fun R h=>h _ _ (ai.refl _) (mO (.of la.1))) (by rw [Ck];exact cS (by omega)) (fun _ i y _=>y=.int (((g i).length:Int)*(g i).length+3*(g i).length+1)) (fun _ _ _ _ _ _ h _ _=>h) ?_ ?_
 ·intro D' k x hx Hc R sc _ kc
  have hk:k<n:=by have:=(b9.mp hx).1;rw [Ck] at this;exact this
  have ex:x=.ref (rs k):=by rw [bt,eN hk] at hx;exact (Option.some.inj hx).symm
  subst ex;have lg:(g k).length≤30:=b5 (Oc ho (ok k hk).1) (by omega)
  refine ⟨_,rfl,rs k,_,rfl,.inl (.of (sc _ _ (la.2 k hk))),(g k).length,by rw [aB];rfl,by omega,kc _ Hc (ai.refl _) rfl⟩
 ·intro D' ys Hc Rt sc ng qa ya
  rw [Ck] at ng;have ey:ys=((List.range n).map fun i=>((g i).length:Int)*(g i).length+3*(g i).length+1).map V.int:=by
   refine i9 (by simp [ng]) fun i h1 h2=>?_
   rw [jM,jM,qE];exact qa i _ (bQ h1)
  have es:((List.range n).map fun i=>((g i).length:Int)*(g i).length+3*(g i).length+1).sum=((((List.range n).map fun i=>(g i).length*(g i).length+3*(g i).length+1).sum:Nat):Int):=by
   generalize List.range n=l;clear ey qa ng kk
   induction l with
   | nil=>rfl
   | cons x l ih=>rw [bM,cM,bM,cM,ih];push_cast;rfl
  refine ⟨D',_,rfl,.of (by rw [ya,ey]),?_⟩
  rw [es];exact kk o ez ho _ (s1.trans sc) _ fun M fs=>Bn ho fs ok
theorem Ru:cq ["_law_cell","_law_at","_law_x"] ["_law_cell","_law_at"] (bI yy):=du
theorem Rv(T:Txt K mg t):bZ P w K mg base dw 1 t.pG t.sq ["_law_cell","_law_at"] Mr:=by
 have S:=Ru;refine T.sR.fg S (fun _ _ _ _ H _ _ _ hr h=>?_);obtain ⟨c,a,rfl,ha,k⟩:=h
 refine ⟨_,(aI (fA (eR J_ (pv 0) (aD JV ay ay)) (a8 (cP (pv 0))) fz)
  (aI (putL 2 S.nd (aD mH (aD cW (aD cW (aD cX (aD mH (pv 0) ay) ay) (aD cX (pv 1) ay)) ay) ay))
  (aI (putL 2 S.nd (aD mH (aD cW (aD cW (aD cX (pv 2) (pv 2)) (aD cX ay (pv 2))) (pv 1)) ay))
  (a8 (cP (aD cW (aD cX (pv 2) ay) (aD mH (aD cW (aD cX (pv 2) (pv 2)) (aD cX ay (pv 1))) ay))))))),?_⟩
 refine ⟨_,rfl,_,_,rfl,rfl,⟨by decide,by decide,by decide⟩,_,_,rfl,rfl,_,rfl,gD (fun h=>?_) (fun h=>?_)⟩
 ·have h:=d7 h
  exact ⟨_,rfl,k _ (cF (by decide) h)⟩
 ·refine ⟨_,rfl,_,_,rfl,rfl,(by show (0:Int)<2147483647;decide),_,_,rfl,rfl,.inr ⟨by decide,by decide⟩,_,rfl,_,_,rfl,rfl,.inr ⟨by decide,by decide⟩,_,_,rfl,rfl,_,_,rfl,rfl,_,_,rfl,rfl,(by show (0:Int)<2147483629;decide),?_⟩
  have b0:=kD (c % 2147483647*48271+a*69621+11) (show (2147483629:Int)≠0 by decide)
  have b1:=nN (c % 2147483647*48271+a*69621+11) (show (0:Int)<2147483629 by decide)
  generalize (c % 2147483647*48271+a*69621+11) % 2147483629=x at b0 b1 ⊢;refine ⟨_,rfl,_,rfl,_,_,rfl,rfl,.inl ⟨by omega,by omega⟩,_,rfl,_,_,rfl,rfl,.inl ⟨by decide,by decide⟩,_,_,rfl,rfl,_,rfl,_,_,rfl,rfl,_,_,rfl,rfl,(by show (0:Int)<2147483587;decide),?_⟩
  have c0:=kD (x*x+48271*x+a) (show (2147483587:Int)≠0 by decide)
  have c1:=nN (x*x+48271*x+a) (show (0:Int)<2147483587 by decide)
  generalize (x*x+48271*x+a) % 2147483587=y at c0 c1 ⊢;refine ⟨_,rfl,_,_,rfl,rfl,.inr ⟨by decide,by decide⟩,_,rfl,_,rfl,_,_,rfl,rfl,.inl ⟨by omega,by omega⟩,_,rfl,_,_,rfl,rfl,.inl ⟨by decide,by decide⟩,_,_,rfl,rfl,_,_,rfl,rfl,(by show (0:Int)<2147483579;decide),_,_,rfl,rfl,k _ (Int.add_nonneg (Int.mul_nonneg (kD _ (by decide)) (by decide)) (kD _ (by decide)))⟩
theorem Rw:cq ["_law_pen","_law_many","_law_at","_law_cell","_law_found"] ["_law_pen","_law_many"] (bI yA):=du
theorem tf(T:Txt K mg t):bZ P w K mg base dw 2 t.pH t.sr ["_law_pen","_law_many"] (Ms K):=by
 have S:=Rw;refine T.jE.fg S (fun _ _ _ _ H _ _ _ hr h=>?_);obtain ⟨P0,a,ns,many,rfl,⟨x,y,eP,hx,hy⟩,hS,m1,mm,k⟩:=h;have lK:=hr.units
 refine ⟨_,(aI (fA (eR wL (bO dv (pv 0) ay) (pv 1)) (aI (putL 2 S.nd (bO dv (pv 0) ay))
  (aI (putL 3 S.nd ay)
  (aI (fA (eR wL (pv 2) (cY jm rfl T.gM gR (af (bO dv (pv 0) ay) ao))) (a8 (putL 3 S.nd (bO dv (bO dv (pv 0) ay) (pv 2)))) (a8 (fA (eR ur (cY jm rfl T.gM gR (af (bO dv (pv 0) ay) ao)) ay) (a8 (putL 3 S.nd (aD cW (aD mH (bO dv (bO dv (pv 0) ay) (aD mH (aD cX (pv 2) ay) (cY jm rfl T.gM gR (af (bO dv (pv 0) ay) ao)))) ay) (aD cX (pv 2) ay)))) fz)))
  (aI (@ug _ _ _ _ _ _ (aD cW (pv 2) ay) (uf (pv 0) ay set_list) (by rfl) (by rfl) (by rfl))
  (a8 (@ug _ _ _ _ _ _ (bf (Rv T) hr T.GW T.sR.kp T.GV b4 (af (pv 3) (af (pv 2) ao))) (uf (pv 0) ay set_list) (by rfl) (by rfl) (by rfl))))))) fz)
  (aI (putL 4 S.nd (aD mH (bO dv (pv 0) ay) (pv 1)))
  (aI (@ug _ _ _ _ _ _ (aD L7 (bO dv (pv 0) ay) (pv 1)) (uf (pv 0) ay set_list) (by rfl) (by rfl) (by rfl))
  (a8 (cP (pv 4)))))),?_⟩
 have y7:=oA.seq hS;refine ⟨_,rfl,P0,_,_,_,rfl,rfl,.of eP,rfl,_,rfl,_,_,rfl,rfl,_,rfl,gD (fun ba=>?_) (fun ba=>?_)⟩
 ·refine ⟨_,rfl,P0,_,_,_,rfl,rfl,.of eP,rfl,?_⟩
  refine ⟨_,rfl,_,rfl,P0,_,_,_,rfl,rfl,.of eP,rfl,a,ns.map V.int,rfl,.inl y7,_,_,rfl,rfl,_,rfl,gD (fun h1=>?_) (fun h1=>?_)⟩
  ·have h1:x<((ns.map V.int).length:Int):=d7 h1
   obtain ⟨v,hv,mv⟩:=Ew (xs:=ns.map V.int) hx h1;obtain ⟨c,_,rfl⟩:=bS.mp mv;refine ⟨_,rfl,P0,_,_,_,rfl,rfl,.of eP,rfl,_,rfl,a,ns.map V.int,_,_,rfl,rfl,y7,hv,?_⟩;refine ⟨_,rfl,_,_,rfl,rfl,_,rfl,P0,_,1,1,rfl,rfl,eP,rfl,?_⟩;refine ⟨_,rfl,_,rfl,c,x,rfl,hx,fun r vO=>⟨_,rfl,P0,_,2,2,rfl,rfl,ar,rfl,?_⟩⟩;have q0:=kD (r) (show many≠0 by omega)
   have q1:=nN (r) (show 0<many by omega)
   have q2:=wA (vO) (show 0≤many by omega)
   refine ⟨_,rfl,P0,_,_,_,rfl,rfl,.of ar,rfl,_,rfl,_,_,rfl,rfl,(show 0<many by omega),?_⟩
   refine ⟨_,rfl,P0,_,_,_,rfl,rfl,.of ar,rfl,_,rfl,_,_,rfl,rfl,⟨show 0<many by omega,mm⟩,_,rfl,P0,_,2,2,rfl,rfl,ar,rfl,?_⟩
   exact ⟨_,rfl,k _ _ q0 q1 (((aJ.refl H).trans aJ.jZ).trans (aJ.jZ.trans aJ.jZ)) ⟨x+1,r / many,ar,by omega,q2⟩⟩
  ·refine ⟨_,rfl,P0,_,_,_,rfl,rfl,.of eP,rfl,a,ns.map V.int,rfl,.inl y7,_,_,rfl,rfl,_,rfl,?_⟩
   have y8:=eP;have HQ:=y7;have sl:=ai.refl H;refine gD (fun h2=>?_) (fun h2=>?_)
   ·have hl:0<(ns.map V.int).length:=by have:=d7 h2;omega
    have Rx:=kD (x*7) (show ((ns.map V.int).length:Int)≠0 by omega)
    have Ry:=nN (x*7) (show (0:Int)<((ns.map V.int).length:Int) by omega)
    obtain ⟨v,hv,mv⟩:=Ew (xs:=ns.map V.int) Rx Ry;obtain ⟨c,_,rfl⟩:=bS.mp mv;refine ⟨_,rfl,P0,_,_,_,rfl,rfl,.of y8,rfl,_,rfl,_,_,rfl,rfl,.inr ⟨by decide,by decide⟩,_,rfl,P0,_,_,_,rfl,rfl,.of y8,rfl,a,ns.map V.int,rfl,.inl HQ,_,_,rfl,rfl,(show (0:Int)<((ns.map V.int).length:Int) by omega),a,ns.map V.int,_,_,rfl,rfl,HQ,hv,_,_,rfl,rfl,(show (0:Int)<1000003 by decide),_,rfl,_,_,rfl,rfl,.inr ⟨by decide,by decide⟩,_,_,rfl,rfl,?_⟩
    refine ⟨_,rfl,_,_,rfl,rfl,_,rfl,P0,_,1,1,rfl,rfl,y8,rfl,?_⟩;refine ⟨_,rfl,_,rfl,_,x,rfl,hx,fun r vO=>⟨_,rfl,P0,_,2,2,rfl,rfl,ar,rfl,?_⟩⟩;have q0:=kD (r) (show many≠0 by omega)
    have q1:=nN (r) (show 0<many by omega)
    have q2:=wA (vO) (show 0≤many by omega)
    refine ⟨_,rfl,P0,_,_,_,rfl,rfl,.of ar,rfl,_,rfl,_,_,rfl,rfl,(show 0<many by omega),?_⟩
    refine ⟨_,rfl,P0,_,_,_,rfl,rfl,.of ar,rfl,_,rfl,_,_,rfl,rfl,⟨show 0<many by omega,mm⟩,_,rfl,P0,_,2,2,rfl,rfl,ar,rfl,?_⟩
    exact ⟨_,rfl,k _ _ q0 q1 (((aJ.of sl).trans aJ.jZ).trans (aJ.jZ.trans aJ.jZ)) ⟨x+1,r / many,ar,by omega,q2⟩⟩
   ·
    refine ⟨_,rfl,_,_,rfl,rfl,_,rfl,P0,_,1,1,rfl,rfl,y8,rfl,?_⟩;refine ⟨_,rfl,_,rfl,0,x,rfl,hx,fun r vO=>⟨_,rfl,P0,_,2,2,rfl,rfl,ar,rfl,?_⟩⟩;have q0:=kD (r) (show many≠0 by omega)
    have q1:=nN (r) (show 0<many by omega)
    have q2:=wA (vO) (show 0≤many by omega)
    refine ⟨_,rfl,P0,_,_,_,rfl,rfl,.of ar,rfl,_,rfl,_,_,rfl,rfl,(show 0<many by omega),?_⟩
    refine ⟨_,rfl,P0,_,_,_,rfl,rfl,.of ar,rfl,_,rfl,_,_,rfl,rfl,⟨show 0<many by omega,mm⟩,_,rfl,P0,_,2,2,rfl,rfl,ar,rfl,?_⟩
    exact ⟨_,rfl,k _ _ q0 q1 (((aJ.of sl).trans aJ.jZ).trans (aJ.jZ.trans aJ.jZ)) ⟨x+1,r / many,ar,by omega,q2⟩⟩
 ·dsimp only [qP]
  have q0:=kD (y) (show many≠0 by omega)
  have q1:=nN (y) (show 0<many by omega)
  have q2:=wA (hy) (show 0≤many by omega)
  refine ⟨_,rfl,P0,_,_,_,rfl,rfl,.of eP,rfl,_,rfl,_,_,rfl,rfl,(show 0<many by omega),?_⟩
  refine ⟨_,rfl,P0,_,_,_,rfl,rfl,.of eP,rfl,_,rfl,_,_,rfl,rfl,⟨show 0<many by omega,mm⟩,_,rfl,P0,_,2,2,rfl,rfl,eP,rfl,?_⟩
  exact ⟨_,rfl,k _ _ q0 q1 (aJ.jZ) ⟨x,y / many,ar,hx,q2⟩⟩
theorem Rz:cq ["_law_pen","_law_some","_law_left","_law_found"] ["_law_pen","_law_some"] (bI yB):=du
theorem qe(T:Txt K mg t):bZ P w K mg base dw 3 t.pI t.su ["_law_pen","_law_some"] (M_ K):=by
 have S:=Rz;refine T.i4.fg S (fun _ _ _ _ H _ _ _ hr h=>?_);obtain ⟨P0,a,l,ns,xs,rfl,pc,hS,nl,el,VP,kk⟩:=h;have lK:=hr.units
 refine ⟨_,(aI (putL 2 S.nd (cZ K_ rfl T.gp boot_list (af (pv 1) ao)))
  (aI (putL 3 S.nd (g6 ao))
  (aI (z_ gx (eR (M9 lK) (pv 2) (g6 ao)) (a8 (iD (kM jN ma md iJ (pv 3) (af (kM jN PySem.F.slot_list_pop PySem.F.type_list_pop Lo (pv 2) (af (bf (tf T) hr T.pX T.jE.kp T.pW b4 (af (pv 0) (af (cY jm rfl T.gM gR (af (pv 2) ao)) ao))) ao)) ao)))))
  (a8 (cP (pv 3)))))),?_⟩
 refine ⟨_,rfl,l,xs,rfl,.inl (.of el),fun l1 n1=>?_⟩;have s1:ai H (upd H l1 (.lst xs)):=aG n1;have e1:upd H l1 (.lst xs) l1=some (.lst xs):=ar;dsimp only [aY];generalize upd H l1 (.lst xs)=H1 at s1 e1 ⊢;refine ⟨by show 0≤sizeLine;decide,fun l2 n2=>?_⟩
 have s2:ai H1 (upd H1 l2 (.lst [])):=aG n2;have e2:upd H1 l2 (.lst []) l2=some (.lst []):=ar;dsimp only [aY];generalize upd H1 l2 (.lst [])=H2 at s2 e2 ⊢;have HR:l1≠P0:=pc.ne n1;have y_:l2≠P0:=(pc.mono s1).ne n2;have HS:H l2=none:=none_of s1 n2;have HU:l1≠l2:=fun e=>by rw [e,n2] at e1;cases e1
 refine bL ⟨fun m σ Hc=>∃zs ys:List V,σ=[some (.ref P0),some (.ref l),some (.ref l1),some (.ref l2)]∧m=zs.length∧Hc l1=some (.lst zs)∧Hc l2=some (.lst ys)∧(zs++ys).Perm xs∧aJ P0 H Hc∧dX Hc P0 a,⟨_,xs,[],rfl,rfl,s2 _ _ e1,e2,by rw [qq],aJ.of (s1.trans s2),(pc.mono s1).mono s2⟩,?_⟩
 rintro m σ Hc ⟨zs,ys,rfl,rfl,ez,ey,pm,sc,p1⟩;have lz:zs.length≤100:=by have:=pm.length_eq;rw [dh] at this;omega
 have ly:ys.length≤100:=by have:=pm.length_eq;rw [dh] at this;omega
 refine ⟨_,rfl,by show 0≤sizeLine;decide,fun le RA=>?_⟩
 have s3:ai Hc (upd Hc le (.lst [])):=aG RA;have e3:upd Hc le (.lst []) le=some (.lst []):=ar;generalize upd Hc le (.lst [])=H3 at s3 e3 ⊢;refine ⟨l1,le,zs,rfl,rfl,.of (s3 _ _ ez),e3,_,rfl,gD (fun hz=>?_) (fun hz=>?_)⟩
 ·have z0:1≤zs.length:=by
   cases zs with
   | nil=>cases hz
   | cons=>simp
  have HV:=sc.trans (aJ.of s3);refine ⟨_,fun _ _ h=>h,?_⟩;refine ⟨_,rfl,.inl ⟨rfl,_,.of (s3 _ _ ey)⟩,_,rfl,.inl ⟨rfl,_,.of (s3 _ _ ez)⟩,_,rfl,_,rfl,l1,zs,rfl,.inl (.of (s3 _ _ ez)),P0,a,ns,(zs.length:Int),rfl,p1.mono s3,ai.seq HV hS,by omega,iL.of_lt (by omega) (by omega),fun c H4 c0 c1 s4 p4=>?_⟩
  obtain ⟨k,rfl⟩:=ja c0;have hk:k<zs.length:=by omega
  have RB:=s4.at HR (s3 _ _ ez);have Cm:=s4.at y_ (s3 _ _ ey);have sx:seqIndex? (k:Int) zs.length=some k:=by unfold seqIndex?;simp;omega
  refine ⟨l1,zs,(k:Int),k,zs[k],rfl,rfl,RB,by omega,by omega,sx,by simp [hk],?_⟩
  have nn:l2≠l1:=fun e=>HU e.symm;refine ⟨l2,ys,zs[k],rfl,rfl,by rw [aR nn];exact Cm,cS (by omega),?_⟩
  refine ⟨_,?_,zs.eraseIdx k,ys++[zs[k]],rfl,rfl,by rw [aR HU,ar],ar,?_,?_,?_⟩
  ·rw [List.length_eraseIdx_of_lt hk]
   omega
  ·refine List.Perm.trans ?_ pm
   rw [←fP];refine (tS).trans ?_;show (zs[k]::(zs.eraseIdx k++ys)).Perm (zs++ys);exact (E2 zs k hk).append_right ys
  ·exact ((HV.trans s4).but n1).but HS
  ·exact ((p4.upd HR).upd y_)
 ·have z0:zs=[]:=by
   cases zs with
   | nil=>rfl
   | cons=>exact absurd rfl hz
  subst z0;refine ⟨_,rfl,kk l2 ys H3 (sc.trans (aJ.of s3)) (p1.mono s3) ?_ y_ (s3 _ _ ey) pm⟩;rw [xj y_];exact HS
theorem RC:cq ["_law_size","_law_links","_law_names","_law_found","_law_i","_law_j","_law_one"] ["_law_size","_law_links","_law_names"] (bI yC):=du
theorem za(T:Txt K mg t):bZ P w K mg base dw 3 t.pJ t.sv ["_law_size","_law_links","_law_names"] Nc:=by
 have S:=RC;refine T.lH.fg S (fun _ _ _ _ H _ _ _ hr h=>?_);obtain ⟨l,r,n,us,ws,L,nm,rfl,el,hL,ok,zb,RD,lw,hw,N,kk⟩:=h
 refine ⟨_,(aI (putL 3 S.nd (g6 ao))
  (aI (gY gx rfl (gX (pv 1)) (ue rfl (jR (dI (i:=4) S.nd rfl (Or.inl rfl)) (jR (dI (i:=5) S.nd rfl (Or.inl rfl)) ud)))
   (aI (putL 6 S.nd (cY (DM rfl) rfl T.vD boot_min (af (bO dv (pv 2) (pv 4)) (af (bO dv (pv 2) (pv 5)) ao))))
  (a8 (iD (kM jN ma md iJ (pv 3) (af (gA (af (pv 6) (af (cY (DL rfl) rfl T.B1 boot_max (af (bO dv (pv 2) (pv 4)) (af (bO dv (pv 2) (pv 5)) ao))) ao))) ao))))))
  (a8 (cP (gA (af (pv 0) (af (cZ Eb rfl T.BY boot_tuple (af (cY M7 rfl T.sW t8 (af (pv 3) ao)) ao)) ao))))))),?_⟩
 refine ⟨by show 0≤sizeLine;decide,fun fd i5=>?_⟩
 have s0:ai H (upd H fd (.lst [])):=aG i5;have HW:upd H fd (.lst []) fd=some (.lst []):=ar;dsimp only [aY];generalize upd H fd (.lst [])=H1 at s0 HW ⊢;refine ⟨_,rfl,l,rfl,⟨_,.of (s0 _ _ el)⟩,?_⟩;refine um (K:=K) (a:=l) (xs:=us) (fun k σ Hc=>∃(xs:List V) (v4 v5 v6:Option V),σ=[some (.int (n:Int)),some (.ref l),some (.ref r),some (.ref fd),v4,v5,v6]∧ai H Hc∧Hc fd=some (.lst xs)∧bu Hc xs ((L.take k).map (eX nm))) ⟨[],_,_,_,rfl,s0,HW,bu.nil _⟩ (fun k σ Hc _ ⟨_,_,_,_,_,sc,_⟩=>.of (sc _ _ el)) ?_ ?_
 ·rintro k x σ Hc hx ⟨xs,v4,v5,v6,rfl,sc,ef,hX⟩
  have hk:k<L.length:=by rw [←hL.1];exact (b9.mp hx).1
  obtain ⟨b,rfl,eb⟩:=(hL.mono sc).2 k x L[k] hx (by simp [hk])
  have pk:=ok.lt L[k] (dH hk);have tk:(L.take (k+1)).map (eX nm)=(L.take k).map (eX nm)++[eX nm L[k]]:=by rw [l6,bQ hk,dR];rfl
  have lX:=hX.1;rw [aB,nF] at lX;have j8:L.length≤450:=b5 ok.j8 (by have:n*n≤30*30:=Nat.mul_le_mul zb zb;omega)
  generalize L[k]=p at eb pk tk;obtain ⟨p1,p2⟩:=p;dsimp only at pk;obtain ⟨i,rfl⟩:=ja pk.1;obtain ⟨j,rfl⟩:=ja (show 0≤p2 by omega)
  have HX:fC ws (i:Int)=some (.int (nm i)):=n4 (hw i (by omega))
  have at2:fC ws (j:Int)=some (.int (nm j)):=n4 (hw j (by omega))
  have zc:=sc _ _ RD;refine ⟨b,_,rfl,.of eb,rfl,_,_,rfl,_,_,rfl,rfl,?_⟩;refine ⟨_,rfl,_,rfl,r,ws,_,.int (nm i),rfl,rfl,.of zc,HX,_,rfl,_,rfl,r,ws,_,.int (nm j),rfl,rfl,.of zc,at2,nm i,nm j,rfl,?_⟩;dsimp only [aY];refine ⟨_,rfl,.inl ⟨rfl,_,.of ef⟩,_,rfl,_,rfl,_,rfl,r,ws,_,.int (nm i),rfl,rfl,.of zc,HX,_,rfl,_,rfl,r,ws,_,.int (nm j),rfl,rfl,.of zc,at2,nm i,nm j,rfl,by show 2≤sizeLine;decide,fun tp d_=>?_⟩
  have eq:eX nm ((i:Int),(j:Int))=(if nm j<nm i then nm j else nm i,if nm j>nm i then nm j else nm i):=by
   unfold eX;simp only [cU];refine Prod.ext ?_ ?_
   ·show min (nm i) (nm j)=_
    split <;> omega
   ·show max (nm i) (nm j)=_
    split <;> omega
  have st:ai Hc (upd Hc tp (.tup [.int (if nm j<nm i then nm j else nm i),.int (if nm j>nm i then nm j else nm i)])):=aG d_
  have fL:upd Hc tp (.tup [.int (if nm j<nm i then nm j else nm i),.int (if nm j>nm i then nm j else nm i)]) tp=some (.tup [.int (eX nm ((i:Int),(j:Int))).1,.int (eX nm ((i:Int),(j:Int))).2]):=by rw [ar,eq]
  generalize upd Hc tp (.tup [.int (if nm j<nm i then nm j else nm i),.int (if nm j>nm i then nm j else nm i)])=Hd at st fL ⊢
  have HY:=st _ _ ef;refine ⟨fd,xs,_,rfl,rfl,HY,cS (by omega),xs++[.ref tp],_,_,_,rfl,dW (sc.trans st) i5,ar,?_⟩
  rw [tk];exact ((hX.mono st).push fL).cu HY fun b o nb e=>by rw [aR nb];exact e
 ·rintro σ Hc ⟨xs,v4,v5,v6,rfl,sc,ef,hX⟩
  rw [hL.1,jJ] at hX;have zd:=Nb ok N;have lX:=hX.1;have j8:L.length≤450:=b5 ok.j8 (by have:n*n≤30*30:=Nat.mul_le_mul zb zb;omega)
  have lM:(L.map (eX nm)).length=L.length:=aB ..;have small:∀q∈L.map (eX nm),0≤q.2∧q.2<1000:=fun q hq=>by have:=zd.lt q hq;omega
  generalize hM:L.map (eX nm)=M at hX zd lX lM small kk;dsimp only;refine ⟨_,rfl,_,rfl,fd,xs,fun i=>(M.getD i (0,0)).1,fun i=>(M.getD i (0,0)).2,rfl,ef,by omega,fun i v hv=>?_,fun p l' hp hu RE=>?_⟩
  ·have hi:i<M.length:=by rw [←lX];exact (b9.mp hv).1
   obtain ⟨b,rfl,eb⟩:=hX.2 i v M[i] hv (by simp [hi])
   dsimp only;rw [getD_at hi];exact ⟨⟨b,rfl,eb⟩,small _ (dH hi)⟩
  rw [lX] at hp hu;obtain ⟨pm,pw⟩:=Na hp hu zd.nd small;have sl:ai Hc (upd Hc l' (.lst (p.toList.map fun i=>xs.getD i .aN))):=aG RE;have hP:bu Hc (p.toList.map fun i=>xs.getD i .aN) (p.toList.map fun i=>M.getD i (0,0)):=hX.pick _ fun i hi=>by have:p.toList.Perm (List.range M.length):=qA.mp hp;exact aQ.mp (this.mem_iff.mp hi)
  generalize (p.toList.map fun i=>xs.getD i .aN)=zs at sl hP ⊢;refine ⟨l',zs,rfl,.inl ⟨.of ar,fun lt RF=>?_⟩⟩;have g7:=sl.trans (aG (o:=.tup zs) RF);have elt:upd (upd Hc l' (.lst zs)) lt (.tup zs) lt=some (.tup zs):=ar;generalize upd (upd Hc l' (.lst zs)) lt (.tup zs)=Hd at g7 elt ⊢;refine ⟨by show 2≤sizeLine;decide,fun tp d_=>?_⟩
  have st:ai Hd (upd Hd tp (.tup [.int (n:Int),.ref lt])):=aG d_;have sT:=sc.trans (g7.trans st);exact kk tp _ _ sT (none_of (sc.trans g7) d_) ⟨lt,zs,ar,st _ _ elt,(hP.mono g7).mono st⟩ (zd.perm pm) pw pm
theorem RG:cq ["_law_places","_law_found","_law_k","_law_one","_law_other"] ["_law_places"] (bI yE):=du
theorem ze(T:Txt K mg t):bZ P w K mg base dw 2 t.pK t.sC ["_law_places"] Qk:=by
 have S:=RG;refine T.lJ.fg S (fun _ _ _ _ H _ _ _ hr h=>?_);obtain ⟨pl,ps,rfl,lN,p1,VQ,kk⟩:=h
 refine ⟨_,(aI (putL 1 S.nd (g6 ao))
  (aI (gY gx rfl (mE rfl T.d6 (af (cY jm rfl T.gM gR (af (pv 0) ao)) ao)) (dI (i:=2) S.nd rfl (Or.inl rfl))
   (aI (putL 3 S.nd (bO dv (pv 0) (pv 2)))
  (aI (putL 4 S.nd (bO dv (pv 0) (aD mH (aD cW (pv 2) ay) (cY jm rfl T.gM gR (af (pv 0) ao)))))
  (a8 (iD (kM jN ma md iJ (pv 1) (af (gA (af (cY (DM rfl) rfl T.vD boot_min (af (pv 3) (af (pv 4) ao))) (af (cY (DL rfl) rfl T.B1 boot_max (af (pv 3) (af (pv 4) ao))) ao))) ao)))))))
  (a8 (cP (pv 1))))),?_⟩
 refine bL ⟨bU _,fun fd i5=>?_⟩;have s1:ai H (upd H fd (.lst [])):=aG i5;have e1:upd H fd (.lst []) fd=some (.lst []):=ar;dsimp only [aY];generalize upd H fd (.lst [])=H1 at s1 e1 ⊢;have HZ:(ps.map fun k:Nat=>V.int (k:Int)).length=ps.length:=aB ..;have vK:∀i,i<ps.length→fC (ps.map fun k:Nat=>V.int (k:Int)) (i:Int)=some (.int (ps.getD i 0:Nat)):=fun i hi=>n4 (by rw [bt,bQ hi,ei,bQ hi];rfl)
 refine bL ⟨_,rfl,pl,_,rfl,.inl (.of (s1 _ _ lN)),(ps.length:Int),by rw [HZ],by omega,by omega,?_⟩
 rw [cU];refine uo (fun k σ Hc=>∃(us:List V) (v2 v3 v4:Option V),σ=[some (.ref pl),some (.ref fd),v2,v3,v4]∧ai H Hc∧Hc fd=some (.lst us)∧bu Hc us (cI ((e9 ps).take k))) ⟨[],_,_,_,rfl,s1,e1,bu.nil _⟩ ?_ ?_
 ·rintro k σ Hc hk ⟨us,v2,v3,v4,rfl,sc,ef,hL⟩
  have Cn:=sc _ _ lN;have pZ:=hL.1;rw [vv,nF] at pZ;dsimp only [aY];refine bL ⟨_,rfl,_,rfl,pl,_,_,_,rfl,rfl,.of Cn,by rw [nM];exact vK k hk,?_⟩
  dsimp only [aY];have hm:(k+1) % ps.length<ps.length:=Nat.mod_lt _ (by omega)
  refine bL ⟨_,rfl,_,rfl,_,_,rfl,rfl,_,rfl,pl,_,rfl,.inl (.of Cn),_,_,rfl,rfl,by show (0:Int)<((ps.map fun k:Nat=>V.int (k:Int)).length:Int);omega,pl,_,_,_,rfl,rfl,.of Cn,by rw [HZ,show ((0:Int)+(k:Int)+1) % (ps.length:Int)=(((k+1) % ps.length:Nat):Int) by rw [nM];push_cast;rfl];exact vK _ hm,?_⟩
  dsimp only [aY];generalize RH:ps.getD k 0=one;generalize RI:ps.getD ((k+1) % ps.length) 0=other;refine ⟨_,rfl,.inl ⟨rfl,_,.of ef⟩,_,rfl,_,rfl,_,_,rfl,_,rfl,_,rfl,_,_,rfl,by show 2≤sizeLine;decide,fun tp d_=>?_⟩
  have e2:(if (other:Int)<(one:Int) then (other:Int) else (one:Int))=((min one other:Nat):Int):=by split <;> omega
  have e3:(if (other:Int)>(one:Int) then (other:Int) else (one:Int))=((max one other:Nat):Int):=by split <;> omega
  rw [e2,e3];have st:ai Hc (upd Hc tp (.tup [.int ((min one other:Nat):Int),.int ((max one other:Nat):Int)])):=aG d_;have et:upd Hc tp (.tup [.int ((min one other:Nat):Int),.int ((max one other:Nat):Int)]) tp=some (.tup [.int ((min one other:Nat):Int),.int ((max one other:Nat):Int)]):=ar;generalize upd Hc tp (.tup [.int ((min one other:Nat):Int),.int ((max one other:Nat):Int)])=Hf at st et ⊢;have ig:=st _ _ ef;refine ⟨fd,us,_,rfl,rfl,ig,cS (by omega),us++[.ref tp],_,_,_,rfl,dW (sc.trans st) i5,ar,?_⟩
  have tk:(e9 ps).take (k+1)=(e9 ps).take k++[(min one other,max one other)]:=by
   rw [l6]
   congr 1
   unfold e9;rw [bt,eN hk,Option.map_some,RH,RI];rfl
  rw [tk,oV];exact bu.snoc (p:=(((min one other:Nat):Int),((max one other:Nat):Int))) (hL.mono st) ig et
 ·rintro σ Hc ⟨us,v2,v3,v4,rfl,sc,ef,hL⟩
  rw [tT (by unfold e9;simp)] at hL
  exact ⟨_,rfl,kk _ _ _ sc i5 ef hL⟩
theorem RJ:cq ["_law_many","_law_found","_law_k"] ["_law_many"] (bI yF):=du
theorem RK(T:Txt K mg t):bZ P w K mg base dw 2 t.pL t.sD ["_law_many"] Ql:=by
 have S:=RJ;refine T.sS.fg S (fun _ _ _ _ H _ _ _ hr h=>?_);obtain ⟨m,rfl,VR,kk⟩:=h
 refine ⟨_,(aI (putL 1 S.nd (g6 ao))
  (aI (gY gx rfl (mE rfl T.d6 (af (pv 0) ao)) (dI (i:=2) S.nd rfl (Or.inl rfl))
   (aI (iD (kM jN ma md iJ (pv 1) (af (gA (af (aD cX ay (pv 2)) (af (aD cW (aD cX ay (pv 2)) ay) ao))) ao)))
  (a8 (fA (eR ur (pv 2) ay) (aI (iD (kM jN ma md iJ (pv 1) (af (gA (af (aD jg (aD cX ay (pv 2)) ay) (af (aD cX ay (pv 2)) ao))) ao)))
  (a8 (iD (kM jN ma md iJ (pv 1) (af (gA (af (aD jg (aD cX ay (pv 2)) ay) (af (aD cW (aD cX ay (pv 2)) ay) ao))) ao))))) fz))))
  (a8 (cP (pv 1))))),?_⟩
 refine bL ⟨bU _,fun fd i5=>?_⟩;have s1:ai H (upd H fd (.lst [])):=aG i5;have e1:upd H fd (.lst []) fd=some (.lst []):=ar;dsimp only [aY];generalize upd H fd (.lst [])=H1 at s1 e1 ⊢;refine bL ⟨_,rfl,(m:Int),rfl,by omega,by omega,?_⟩
 rw [cU];refine uo (fun k σ Hc=>∃(us:List V) (v2:Option V),σ=[some (.int (m:Int)),some (.ref fd),v2]∧ai H Hc∧Hc fd=some (.lst us)∧bu Hc us (cI (gm k))) ⟨[],_,rfl,s1,e1,bu.nil _⟩ ?_ ?_
 ·rintro k σ Hc hk ⟨us,v2,rfl,sc,ef,hL⟩
  have pZ:=hL.1;rw [vv] at pZ;have ll:=Gy k;dsimp only [aY];simp only [List.set_cons_zero,List.set_cons_succ];refine bL ⟨_,rfl,.inl ⟨rfl,_,.of ef⟩,_,rfl,_,_,rfl,rfl,.inl ⟨by decide,by decide⟩,_,rfl,_,_,rfl,rfl,.inl ⟨by decide,by decide⟩,_,_,rfl,rfl,by show 2≤sizeLine;decide,fun tp d_=>?_⟩
  have st:ai Hc (upd Hc tp (.tup [.int (2*(0+(k:Int))),.int (2*(0+(k:Int))+1)])):=aG d_;have et:upd Hc tp (.tup [.int (2*(0+(k:Int))),.int (2*(0+(k:Int))+1)]) tp=some (.tup [.int ((2*k:Nat):Int),.int ((2*k+1:Nat):Int)]):=by rw [ar,show (2*(0+(k:Int))+1:Int)=((2*k+1:Nat):Int) by omega,show (2*(0+(k:Int)):Int)=((2*k:Nat):Int) by omega]
  generalize upd Hc tp (.tup [.int (2*(0+(k:Int))),.int (2*(0+(k:Int))+1)])=Hf at st et ⊢;have ig:=st _ _ ef;refine ⟨fd,us,_,rfl,rfl,ig,cS (by omega),?_⟩
  have ko:=bu.snoc (p:=(((2*k:Nat):Int),((2*k+1:Nat):Int))) (hL.mono st) ig et;have sf:ai H (upd Hf fd (.lst (us++[.ref tp]))):=dW (sc.trans st) i5;have i6:upd Hf fd (.lst (us++[.ref tp])) fd=some (.lst (us++[.ref tp])):=ar;generalize upd Hf fd (.lst (us++[.ref tp]))=Hg at ko sf i6 ⊢;have Co:(us++[V.ref tp]).length≤3*k+1:=by rw [dh,kB];omega
  generalize us++[V.ref tp]=e_ at ko i6 Co;clear ig et st hL ef pZ us Hf;dsimp only;refine ⟨_,rfl,_,_,rfl,rfl,_,rfl,gD (fun h0=>?_) (fun h0=>?_)⟩
  ·have k0:0<k:=by have:(0:Int)<0+(k:Int):=d7 h0;omega
   have eL:gm (k+1)=gm k++[(2*k,2*k+1)]++[(2*k-2,2*k)]++[(2*k-1,2*k+1)]:=by
    show gm k++(2*k,2*k+1)::(if 0<k then [(2*k-2,2*k),(2*k-1,2*k+1)] else [])=_
    rw [ae k0];simp
   refine bL ⟨_,rfl,.inl ⟨rfl,_,.of i6⟩,_,rfl,_,_,rfl,rfl,.inl ⟨by decide,by decide⟩,_,_,rfl,rfl,_,rfl,_,_,rfl,rfl,.inl ⟨by decide,by decide⟩,by show 2≤sizeLine;decide,fun tp d_=>?_⟩
   have st:ai Hg (upd Hg tp (.tup [.int (2*(0+(k:Int))-2),.int (2*(0+(k:Int)))])):=aG d_;have et:upd Hg tp (.tup [.int (2*(0+(k:Int))-2),.int (2*(0+(k:Int)))]) tp=some (.tup [.int ((2*k-2:Nat):Int),.int ((2*k:Nat):Int)]):=by
    rw [ar];have ea:(2*(0+(k:Int))-2:Int)=((2*k-2:Nat):Int):=by omega
    have eb:(2*(0+(k:Int)):Int)=((2*k:Nat):Int):=by omega
    rw [ea,eb]
   generalize upd Hg tp (.tup [.int (2*(0+(k:Int))-2),.int (2*(0+(k:Int)))])=Hf at st et ⊢;have ig:=st _ _ i6;refine ⟨fd,e_,_,rfl,rfl,ig,cS (by omega),?_⟩
   have ko:=bu.snoc (p:=(((2*k-2:Nat):Int),((2*k:Nat):Int))) (ko.mono st) ig et;have sf:ai H (upd Hf fd (.lst (e_++[.ref tp]))):=dW (sf.trans st) i5;have i6:upd Hf fd (.lst (e_++[.ref tp])) fd=some (.lst (e_++[.ref tp])):=ar;generalize upd Hf fd (.lst (e_++[.ref tp]))=Hh at ko sf i6 ⊢;have Cp:(e_++[V.ref tp]).length≤3*k+2:=by rw [dh,kB];omega
   generalize e_++[V.ref tp]=gN at ko i6 Cp;clear ig et st;dsimp only;refine ⟨_,rfl,.inl ⟨rfl,_,.of i6⟩,_,rfl,_,_,rfl,rfl,.inl ⟨by decide,by decide⟩,_,_,rfl,rfl,_,rfl,_,_,rfl,rfl,.inl ⟨by decide,by decide⟩,_,_,rfl,rfl,by show 2≤sizeLine;decide,fun nj d_=>?_⟩
   have st:ai Hh (upd Hh nj (.tup [.int (2*(0+(k:Int))-1),.int (2*(0+(k:Int))+1)])):=aG d_;have et:upd Hh nj (.tup [.int (2*(0+(k:Int))-1),.int (2*(0+(k:Int))+1)]) nj=some (.tup [.int ((2*k-1:Nat):Int),.int ((2*k+1:Nat):Int)]):=by
    rw [ar];have ea:(2*(0+(k:Int))-1:Int)=((2*k-1:Nat):Int):=by omega
    have eb:(2*(0+(k:Int))+1:Int)=((2*k+1:Nat):Int):=by omega
    rw [eb,ea]
   generalize upd Hh nj (.tup [.int (2*(0+(k:Int))-1),.int (2*(0+(k:Int))+1)])=Hf at st et ⊢;have ig:=st _ _ i6;refine ⟨fd,gN,_,rfl,rfl,ig,cS (by omega),?_⟩
   have ko:=bu.snoc (p:=(((2*k-1:Nat):Int),((2*k+1:Nat):Int))) (ko.mono st) ig et;have sf:ai H (upd Hf fd (.lst (gN++[.ref nj]))):=dW (sf.trans st) i5;have i6:upd Hf fd (.lst (gN++[.ref nj])) fd=some (.lst (gN++[.ref nj])):=ar;refine ⟨gN++[.ref nj],_,rfl,sf,i6,?_⟩;rw [eL,oV,oV,oV];exact ko
  ·have k0:¬0<k:=fun z=>h0 (cf (by omega))
   refine ⟨e_,_,rfl,sf,i6,?_⟩;show bu Hg e_ (cI (gm k++(2*k,2*k+1)::(if 0<k then [(2*k-2,2*k),(2*k-1,2*k+1)] else [])))
   rw [aa k0,oV];exact ko
 ·rintro σ Hc ⟨us,v2,rfl,sc,ef,hL⟩
  exact ⟨_,rfl,kk _ _ _ sc i5 ef hL⟩
theorem RL:cq ["_law_pen","_law_size","_law_links","_law_names","_law_shape","_law_order","_law_ds","_law_due"] ["_law_pen","_law_size"] (bI yG):=du
theorem RM(T:Txt K mg t):bZ P w K mg base dw 8 t.pM t.sE ["_law_pen","_law_size"] (Qo K):=by
 have S:=RL
 refine T.sU.fg S (fun _ _ _ _ H _ Q _ hr h=>?_)
 obtain ⟨P0,a,ns,m,rfl,pc,hS,m3,m6,kk⟩:=h
 have lK:=hr.units
 obtain ⟨Cq,RN⟩:=Qa m3 m6
 have RO:=lC Cq
 refine ⟨_,(aI (putL 2 S.nd (aD uz (bf (ze T) hr T.vC T.lJ.kp T.vB b4 (af (cZ (jw rfl) rfl T.gp boot_list (af (cZ jv rfl T.d6 iM (af (pv 1) ao)) ao)) ao)) (kP (N:=["_law_k","_law_size"]) (ρ:=(fun σ=>[σ[1]?.join])) (iK [1] rfl) rfl (mE rfl T.d6 (af (pv 1) ao)) (fun _ _ _=>.nil) (fun _ _ _=>(gA (af (pv 0) (af (pv 1) ao)))))))
  (aI (Eu 3 S.nd (bf (qe T) hr T.m9 T.i4.kp T.m8 b4 (af (pv 0) (af (cZ (jw rfl) rfl T.gp boot_list (af (cZ jv rfl T.d6 iM (af (aD cW (pv 1) ay) ao)) ao)) ao))))
  (aI (putL 4 S.nd (bf (za T) hr T.vz T.lH.kp T.vy b4 (af (aD cW (pv 1) ay) (af (pv 2) (af (pv 3) ao)))))
  (aI (putL 5 S.nd (aD uz (kP (N:=["_law_k","_law_names"]) (ρ:=(fun σ=>[σ[3]?.join])) (iK [3] rfl) rfl (gX (bf (qe T) hr T.m9 T.i4.kp T.m8 b4 (af (pv 0) (af (cZ (jw rfl) rfl T.gp boot_list (af (cZ jv rfl T.d6 iM (af (pv 1) ao)) ao)) ao)))) (fun _ _ _=>.nil) (fun _ _ _=>(bO (xh (K:=K)) (pv 1) (pv 0)))) (g6 (af (bO dv (pv 3) (DB DD ay)) ao))))
  (aI (Mx (i0:=6) (N:=["_law_place","_law_row","_law_names"]) (ρ:=(fun σ=>[σ[3]?.join])) (Ez [3] rfl) rfl S.nd rfl (Or.inl rfl) (EH rfl T.B0 (af (bf (HG T) hr T.BO T.pP.kp T.BN kO (af (pv 4) (af (pv 5) ao))) ao)) (fun _ _ _=>(.one (eR nY (pv 0) (bO (xh (K:=K)) (pv 2) (DB DD ay))))) (fun _ _ _=>(aD jg (cY (ED (K:=K)) rfl T.gM gR (af (pv 1) ao)) ay)))
  (aI (putL 7 S.nd (aD cW (aD cW (aD jg (aD cX ay (pv 1)) ay) (cY (EA (K:=K) rfl) rfl T.BZ boot_sum (af (kP (N:=["_law_d"]) (ρ:=(fun σ=>[])) (iK [] rfl) rfl (gX (pv 6)) (fun _ _ _=>.nil) (fun _ _ _=>(aD cW (aD cX ay (pv 0)) ay))) ao))) ay))
  (a8 (cP (Dt (Ae JZ (bf (Cj T) hr T.yJ T.m5.kp T.yI kO (af (pv 4) (af (pv 5) ao))) (pv 7)) (Ds (Ae J0 (bO iH (bf (yQ T) hr T.vx T.lG.kp T.vw kO (af (pv 4) ao)) ay) (pv 7)))))))))))),?_⟩
 refine bL ⟨_,rfl,(m:Int),rfl,fun q1 tj=>⟨q1,m,rfl,ar,by omega,fun l nl=>?_⟩⟩
 have s1:ai H (upd (upd H q1 (.bH 0 (m:Int))) l (.lst (aW m))):=(aG tj).trans (aG nl)
 have el:upd (upd H q1 (.bH 0 (m:Int))) l (.lst (aW m)) l=some (.lst ((List.range m).map fun k:Nat=>V.int (k:Int))):=ar
 generalize upd (upd H q1 (.bH 0 (m:Int))) l (.lst (aW m))=H1 at s1 el ⊢
 refine ⟨l,List.range m,rfl,el,by simp;omega,by simp;omega,fun H2 D us s2 nD eD hU=>?_⟩
 have pZ:=hU.1
 rw [vv] at pZ
 have VS:(e9 (List.range m)).length=m:=by unfold e9;simp
 refine qZ (xs:=(List.range m).map fun i:Nat=>V.int (0+(i:Int))) (fun R h=>⟨_,rfl,(m:Int),rfl,by omega,by omega,h _ _ (ai.refl _) (by rw [cU];exact AE)⟩) (by rw [aB,b6];exact cS (by omega)) (fun _ i y Hx=>∃b,y=.ref b∧Hx b=some (.tup [.int (i:Int),.int (m:Int)])) (fun _ i y Ha Hb ys ⟨b,h1,h2⟩ e f=>⟨b,h1,f _ _ (fun z=>by rw [z,e] at h2;cases h2) h2⟩) ?_ ?_
 ·intro _ i x hx Hx R sx _ kR
  obtain ⟨hi,rfl⟩:=Mp hx
  exact ⟨_,rfl,_,rfl,by show 2≤sizeLine;decide,fun b nb=>kR _ _ (aG nb) ⟨b,rfl,ar⟩⟩
 intro D2 ys H3 qb s3 ly hy fO
 rw [aB,b6] at ly
 refine ⟨D,D2,us,ys,rfl,rfl,s3 _ _ eD,fO,ky (cS (by omega)),fun lk kq=>?_⟩
 have s4:ai H3 (upd H3 lk (.lst (us++ys))):=aG kq
 have jF:upd H3 lk (.lst (us++ys)) lk=some (.lst (us++ys)):=ar
 generalize upd H3 lk (.lst (us++ys))=H4 at s4 jF ⊢
 have hL:bu H4 (us++ys) (cI (rK m)):=by
  unfold rK
  rw [oV]
  have hY:bu H3 ys (cI ((List.range m).map fun k=>(k,m))):=⟨by rw [vv];simp [ly],fun k v p h1 h2=>by
   obtain ⟨b,e1,e2⟩:=hy k v h1
   refine ⟨b,e1,?_⟩
   have hk:=(b9.mp h1).1
   unfold cI at h2
   rw [bR,bt,eN (by omega)] at h2
   cases h2
   exact e2⟩
  exact ((hU.mono s3).app hY).mono s4
 have H_:=s1.trans (s2.trans (s3.trans s4))
 have tm:lk≠P0:=(pc.mono (s1.trans (s2.trans s3))).ne kq
 have p4:=pc.mono H_
 dsimp only [aY]
 refine bL ⟨_,rfl,_,rfl,_,_,rfl,rfl,_,rfl,fun q2 tw=>⟨q2,m+1,rfl,ar,by omega,fun l2 kh=>?_⟩⟩
 have s5:ai H4 (upd (upd H4 q2 (.bH 0 ((m:Int)+1))) l2 (.lst (aW (m+1)))):=(aG tw).trans (aG kh)
 have tD:upd (upd H4 q2 (.bH 0 ((m:Int)+1))) l2 (.lst (aW (m+1))) l2=some (.lst (aW (m+1))):=ar
 have RP:l2≠P0:=p4.ne (none_of (aG tw) kh)
 generalize upd (upd H4 q2 (.bH 0 ((m:Int)+1))) l2 (.lst (aW (m+1)))=H5 at s5 tD ⊢
 have zf:=H_.trans s5
 have lu:∀n,(aW n).length=n:=fun n=>by unfold aW;simp
 refine ⟨P0,a,l2,ns,aW (m+1),rfl,pc.mono zf,ai.seq (aJ.of zf) hS,RP,tD,by rw [lu];omega,fun nr VT H6 s6 p6 vP Cr kr pm=>?_⟩
 obtain ⟨nm,rfl,N⟩:=yb pm
 have RQ:aJ P0 H H6:=(aJ.of zf).trans s6
 dsimp only [aY]
 have p5:=pc.mono zf
 have RR:=s6.at tm (s5 _ _ jF)
 have RS:bu H6 (us++ys) (cI (rK m)):=(((hL.mono s5).er p5).mono s6).mono oA
 refine bL ⟨_,rfl,_,_,rfl,rfl,_,rfl,_,rfl,lk,nr,m+1,us++ys,_,cI (rK m),nm,rfl,RR,RS,Cq,by omega,kr,by simp,fun i hi=>by rw [bt,eN hi];rfl,N,fun tp L' H7 s7 d_ zg Ia VU RT=>?_⟩
 have r:=dP.named Cq N RT
 have vQ:=lC Ia
 have nk:rq L':=fun p hp=>by
  have:=Ia.lt p hp
  omega
 have RU:∀k,k<m+1→nm k=(((nm k).toNat:Nat):Int):=fun k hk=>(nJ (N.lt k hk).1).symm
 generalize hf:(fun k=>(nm k).toNat)=f at r
 have fk:∀k,k<m+1→nm k=((f k:Nat):Int):=fun k hk=>by rw [RU k hk,←hf]
 have Ib:tp≠P0:=p6.ne d_
 have p7:=p6.mono s7
 have RV:=RQ.trans (aJ.of s7)
 have RW:=s7 _ _ kr
 dsimp only [aY]
 refine bL (kU (AL (xP ⟨_,rfl,_,rfl,(m:Int),rfl,fun q3 gq=>⟨q3,m,rfl,ar,by omega,fun l3 gr=>?_⟩⟩)))
 have s8:ai H7 (upd (upd H7 q3 (.bH 0 (m:Int))) l3 (.lst (aW m))):=(aG gq).trans (aG gr)
 have gu:upd (upd H7 q3 (.bH 0 (m:Int))) l3 (.lst (aW m)) l3=some (.lst (aW m)):=ar
 have ku:l3≠P0:=p7.ne (none_of (aG gq) gr)
 generalize upd (upd H7 q3 (.bH 0 (m:Int))) l3 (.lst (aW m))=H8 at s8 gu ⊢
 have Ic:=RV.trans (aJ.of s8)
 refine ⟨P0,a,l3,ns,aW m,rfl,p7.mono s8,ai.seq Ic hS,ku,gu,by rw [lu];omega,fun orr VW H9 s9 p9 Ie Ig tE vR=>⟨orr,rfl,⟨_,.of tE⟩,?_⟩⟩
 obtain ⟨bA,rfl,zh⟩:=Bm vR
 have lor:=rj zh
 have RX:=Ic.trans s9
 have Ih:aJ P0 H7 H9:=(aJ.of s8).trans s9
 have Cs:H9 nr=some (.lst ((List.range (m+1)).map fun k=>V.int (nm k))):=Ih.at Cr RW
 have mZ:∀x∈bA,x<m:=fun x hx=>aQ.mp (zh.mem_iff.mp hx)
 have RY:∀k,k<m+1→fC ((List.range (m+1)).map fun k=>V.int (nm k)) (k:Int)=some (.int ((f k:Nat):Int)):=fun k hk=>n4 (by rw [bt,eN hk,←fk k hk];rfl)
 refine qZ (xs:=bA.map fun k:Nat=>V.int (k:Int)) (fun R h=>h _ _ (ai.refl _) (mO (.of tE))) (cS (by rw [aB];omega)) (fun _ i y _=>∀k,bA[i]?=some k→y=.int ((f k:Nat):Int)) (fun _ _ _ _ _ _ h _ _=>h) ?_ ?_
 ·intro _ i x hx Hx R sx _ kR
  rw [bt] at hx
  cases e:bA[i]? with
  | none=>rw [e] at hx;cases hx
  | some k=>
   rw [e] at hx
   cases hx
   have hk:=mZ k (i8 e)
   exact ⟨_,rfl,_,rfl,nr,_,_,_,rfl,rfl,.of (sx _ _ Cs),RY k (by omega),kR _ _ (ai.refl _) fun k' e'=>by rw [e] at e';cases e';rfl⟩
 intro Do RZ tF VX nu R0 R1 R3
 have R4:RZ=(bA.map f).map fun k:Nat=>V.int (k:Int):=by
  refine tP fun i=>?_
  rw [aB] at R0
  rcases qy i bA.length with h | h
  ·rw [bQ (by omega),R1 i _ (bQ (by omega)) _ (bQ h),bt,bt,bQ h]
   rfl
  ·rw [lT (by omega),lT (by simp;omega)]
 subst R4
 have R5:=nu _ _ Cs
 refine ⟨_,rfl,1,rfl,nr,_,_,.int ((f m:Nat):Int),rfl,rfl,.of R5,?_,by show 1≤sizeLine;decide,fun lh R6=>?_⟩
 ·refine FA (by simp) ?_
  rw [aB,b6,bt,eN (by omega),Nat.add_sub_cancel,←fk m (by omega)]
  rfl
 have Ct:ai tF (upd tF lh (.lst [.int ((f m:Nat):Int)])):=aG R6
 have Ii:upd tF lh (.lst [.int ((f m:Nat):Int)]) lh=some (.lst ([f m].map fun k:Nat=>V.int (k:Int))):=ar
 generalize upd tF lh (.lst [.int ((f m:Nat):Int)])=zi at Ct Ii ⊢
 refine ⟨Do,lh,_,_,rfl,rfl,Ct _ _ R3,Ii,ky (cS (by simp;omega)),fun od R7=>?_⟩
 rw [←dR,show bA.map f++[f m]=(bA++[m]).map f by rw [dR];rfl]
 have lL:ai zi (upd zi od (.lst (((bA++[m]).map f).map fun k:Nat=>V.int (k:Int)))):=aG R7
 have Cu:upd zi od (.lst (((bA++[m]).map f).map fun k:Nat=>V.int (k:Int))) od=some (.lst (((bA++[m]).map f).map fun k:Nat=>V.int (k:Int))):=ar
 generalize upd zi od (.lst (((bA++[m]).map f).map fun k:Nat=>V.int (k:Int)))=Ij at lL Cu ⊢
 have hn:(bA++[m]).Perm (List.range (m+1)):=by
  rw [tQ]
  exact zh.append_right [m]
 have po:=r.perm hn
 have zj:=nu.trans (Ct.trans lL)
 have R8:=p9.mono zj
 have R9:aJ P0 H7 Ij:=Ih.trans (aJ.of zj)
 have Ik:eY Ij tp (m+1) L':=((zg.er p7).mono R9).mono oA
 have R_:=zj _ _ Cs
 have Sa:=RX.trans (aJ.of zj)
 dsimp only [aY]
 have lpo:((bA++[m]).map f).length=m+1:=by rw [aB,dh,kB,lor]
 refine bL (kU (Qq ⟨_,rfl,_,rfl,tp,od,m+1,L',((bA++[m]).map f).map iN,rfl,Ik,vQ,nk,by omega,by rw [Cu,bR (g:=V.int) (f:=iN)];rfl,by rw [aB];omega,fun no=>absurd (po.map iN) no,fun o' e' mj VY D' rs g ie Rt Rr la hg=>⟨D',rfl,⟨_,.of la.1⟩,?_⟩⟩))
 have qf:∀l:List Nat,l.map (Int.toNat ∘ iN)=l:=fun l=>by
  conv=>rhs;rw [←l7 l]
  exact fj fun k _=>cU k
 have eo:o'=(bA++[m]).map f:=by
  have:=b_ (List.map Int.toNat) e'
  rw [bR,bR (g:=Int.toNat) (f:=iN) (l:=o'),qf,qf] at this
  exact this.symm
 subst eo
 have Sb:=ie _ _ R_
 have Se:fC ((List.range (m+1)).map fun k=>V.int (nm k)) (-1)=some (.int ((f m:Nat):Int)):=by
  refine FA (by simp) ?_
  rw [aB,b6,bt,eN (by omega),Nat.add_sub_cancel,←fk m (by omega)]
  rfl
 have Il:∀x y,(x,y)∈(((List.range ((List.range (m+1)).map fun p=>V.ref (rs p)).length).zip ((List.range (m+1)).map fun p=>V.ref (rs p))).map fun p=>(V.int (p.1:Int),p.2))→∃p,p<m+1∧x=V.int (p:Int)∧y=V.ref (rs p):=fun x y h=>by
  rw [aB,b6,BJ,bR] at h
  obtain ⟨p,hp,e⟩:=bS.mp h
  have e1:=b_ Prod.fst e
  have e2:=b_ Prod.snd e
  exact ⟨p,aQ.mp hp,e1.symm,e2.symm⟩
 refine Qn (fun z=>!decide (z.1=V.int ((f m:Nat):Int))) (fun z=>V.int (((g (oJ z.1)).length:Int)-1)) (fun R h=>h _ _ (ai.refl _) (Qm (.of la.1))) (cS (by simp;omega)) ?_ ?_ ?_
 ·intro x y gh Hx R sx kR
  obtain ⟨p,pn,rfl,rfl⟩:=Il x y gh
  exact ⟨_,rfl,_,rfl,1,rfl,nr,_,_,_,rfl,rfl,.of (sx _ _ Sb),Se,rfl,_,rfl,kR _ (ai.refl _)⟩
 ·intro x y gh _ Hx R sx kR
  obtain ⟨p,pn,rfl,rfl⟩:=Il x y gh
  have:=kR _ (ai.refl _)
  rw [F_] at this
  refine ⟨_,rfl,rs p,_,rfl,.inl (.of (sx _ _ (la.2 p pn))),_,_,rfl,rfl,?_⟩
  rw [aB]
  exact this
 intro ds VZ yO s_ zl
 rw [Qp] at zl
 dsimp only [aY]
 generalize hR:(List.range (m+1)).filter (fun x=>!decide (x=f m))=qg at zl
 have V0:qg.length≤m+1:=by
  rw [←hR]
  exact b5 (qG ..) (by simp)
 have Sf:=(R8.mono ie).mono s_
 have Sg:=Sa.trans (aJ.of (ie.trans s_))
 refine bL (kU (AL (AL ⟨_,rfl,_,_,rfl,rfl,.inl ⟨by decide,by decide⟩,_,_,rfl,rfl,?_⟩)))
 dsimp only
 refine xi (qZ (xs:=qg.map fun x=>V.int (((g x).length:Int)-1)) (fun R h=>⟨_,rfl,ds,rfl,⟨_,.of zl⟩,h _ _ (ai.refl _) (mO (.of zl))⟩) (cS (by rw [aB];omega)) (fun _ i y _=>∀x,qg[i]?=some x→y=.int (2*(((g x).length:Int)-1)+4)) (fun _ _ _ _ _ _ h _ _=>h) ?_ ?_)
 ·intro _ i x hx Hx R sx _ kR
  rw [bt] at hx
  cases e:qg[i]? with
  | none=>rw [e] at hx;cases hx
  | some k=>
   rw [e] at hx
   cases hx
   exact ⟨_,rfl,_,_,rfl,rfl,.inl ⟨by decide,by decide⟩,_,_,rfl,rfl,kR _ _ (ai.refl _) fun k' e'=>by rw [e] at e';cases e';rfl⟩
 intro D4 Sh V1 V2 Cv Si Sj Sk
 have Cm:Sh=(qg.map fun x=>2*(((g x).length:Int)-1)+4).map V.int:=by
  refine tP fun i=>?_
  rw [aB] at Si
  rcases qy i qg.length with h | h
  ·rw [bQ (by omega),Sj i _ (bQ (by omega)) _ (bQ h),bt,bt,bQ h]
   rfl
  ·rw [lT (by omega),lT (by simp;omega)]
 subst Cm
 refine ⟨D4,_,rfl,.of Sk,_,_,rfl,rfl,_,_,rfl,rfl,?_⟩
 dsimp only [aY]
 have Sl:=Sf.mono Cv
 have Sm:=Sg.trans (aJ.of Cv)
 have Im:=ie.trans (s_.trans Cv)
 have Io:=Ik.mono Im
 have Sn:=Im _ _ Cu
 refine ⟨_,rfl,_,rfl,tp,od,m+1,L',((bA++[m]).map f).map iN,rfl,Io,vQ,nk,by omega,by rw [Sn,bR (g:=V.int) (f:=iN)];rfl,by rw [aB];omega,fun no=>absurd (po.map iN) no,fun o2 e2 d8 V3 Cw d hd=>?_⟩
 have So:o2=(bA++[m]).map f:=by
  have:=b_ (List.map Int.toNat) e2
  rw [bR,bR (g:=Int.toNat) (f:=iN) (l:=o2),qf,qf] at this
  exact this.symm
 subst So
 obtain ⟨N',fN⟩:=By (m+1) L' ((bA++[m]).map f)
 have Ip:=hd N' fN
 have Iq:(d:Int)=11*(m:Int)-16+(qg.map fun x=>2*(((g x).length:Int)-1)+4).sum+1:=by
  rw [Ip,Qe r RO vQ RN zh hg fN,hR]
  obtain ⟨k,rfl⟩:∃k,m=k+2:=⟨m-2,by omega⟩
  show (11*(k:Int)+6)+_+1=_
  push_cast
  omega
 have hle:wW (m+1) L' []≤(d:Int):=by
  rw [Ip]
  exact Gd po vQ fN
 refine ⟨_,rfl,rfl,true,by rw [←Iq];simp,El ?_⟩
 refine ⟨_,rfl,tp,m+1,L',rfl,Io.mono Cw,vQ,by omega,fun Sq ft lo o3 Ir nh lO ni V4 qh=>?_⟩
 refine ⟨ft,_,_,_,rfl,rfl,.of lO,rfl,_,rfl,_,_,rfl,rfl,?_⟩
 rw [←Iq]
 show Q (.bl (decide (wW (m+1) L' []≤(d:Int)))) Sq
 rw [cf hle]
 exact kk _ (Sm.trans (aJ.of (Cw.trans Ir))) (Sl.mono (Cw.trans Ir))
theorem Sr:cq ["script","_law_pen","_law_size","_law_names","_law_shape","_law_turn","_law_many","_law_one","_law_other","_law_links"] ["script"] (bI yH):=du
theorem Ss(T:Txt K mg t):bZ P w K mg base dw 9 t.m4 t.pN ["script"] (xg K):=by
 have S:=Sr
 refine T.sV.fg S (fun _ _ _ _ H _ _ _ hr h=>?_)
 obtain ⟨a,ns,rfl,hS,hlen,kQ⟩:=h
 have lK:=hr.units
 refine ⟨_,(aI (putL 1 S.nd (g6 (af (pv 0) (af ay (af ay ao)))))
  (aI (putL 2 S.nd (aD cW ay (bf (tf T) hr T.pX T.jE.kp T.pW b4 (af (pv 1) (af ay ao)))))
  (aI (putL 3 S.nd (bf (qe T) hr T.m9 T.i4.kp T.m8 b4 (af (pv 1) (af (cZ (jw rfl) rfl T.gp boot_list (af (cZ jv rfl T.d6 iM (af (pv 2) ao)) ao)) ao))))
  (aI (putL 4 S.nd (bf (za T) hr T.vz T.lH.kp T.vy b4 (af (pv 2) (af (bf (ze T) hr T.vC T.lJ.kp T.vB b4 (af (cZ (jw rfl) rfl T.gp boot_list (af (cZ jv rfl T.d6 iM (af (pv 2) ao)) ao)) ao)) (af (pv 3) ao)))))
  (aI (fA (eR nY (bO iH (bf (yQ T) hr T.vx T.lG.kp T.vw kO (af (pv 4) ao)) ay) (aD jg (aD cX ay (pv 2)) ay)) (a8 (cP jf)) fz)
  (aI (gY gx rfl (mE rfl T.d6 (af ay ao)) (dI (i:=5) S.nd rfl (Or.inl rfl))
   (a8 (fA (eR nY (bf (Cj T) hr T.yJ T.m5.kp T.yI kO (af (pv 4) (af (bf (qe T) hr T.m9 T.i4.kp T.m8 b4 (af (pv 1) (af (cZ (jw rfl) rfl T.gp boot_list (af (cZ jv rfl T.d6 iM (af (pv 2) ao)) ao)) ao))) ao))) (aD jg (aD cX ay (pv 2)) ay)) (a8 (cP jf)) fz)))
  (aI (putL 6 S.nd (aD cW ay (bf (tf T) hr T.pX T.jE.kp T.pW b4 (af (pv 1) (af ay ao)))))
  (aI (putL 4 S.nd (bf (za T) hr T.vz T.lH.kp T.vy b4 (af (aD cX ay (pv 6)) (af (bf (RK T) hr T.GY T.sS.kp T.GX b4 (af (pv 6) ao)) (af (bf (qe T) hr T.m9 T.i4.kp T.m8 b4 (af (pv 1) (af (cZ (jw rfl) rfl T.gp boot_list (af (cZ jv rfl T.d6 iM (af (aD cX ay (pv 6)) ao)) ao)) ao))) ao)))))
  (aI (fA (eR nY (bO iH (bf (yQ T) hr T.vx T.lG.kp T.vw kO (af (pv 4) ao)) ay) (aD jg (aD cX ay (pv 6)) ay)) (a8 (cP jf)) fz)
  (aI (gY gx rfl (mE rfl T.d6 (af ay ao)) (dI (i:=5) S.nd rfl (Or.inl rfl))
   (a8 (fA (eR wL (bf (Cj T) hr T.yJ T.m5.kp T.yI kO (af (pv 4) (af (bf (qe T) hr T.m9 T.i4.kp T.m8 b4 (af (pv 1) (af (cZ (jw rfl) rfl T.gp boot_list (af (cZ jv rfl T.d6 iM (af (aD cX ay (pv 6)) ao)) ao)) ao))) ao))) (aD jg (aD cX ay (pv 6)) ay)) (a8 (cP jf)) fz)))
  (aI (JF (i:=7) (j:=8) rfl S.nd rfl rfl (by decide) rfl rfl (af (aD cW ay (bf (tf T) hr T.pX T.jE.kp T.pW b4 (af (pv 1) (af ay ao)))) (af (aD cW ay (bf (tf T) hr T.pX T.jE.kp T.pW b4 (af (pv 1) (af ay ao)))) ao)) rfl)
  (aI (putL 9 S.nd (aD uz (bf (ze T) hr T.vC T.lJ.kp T.vB b4 (af (cZ (jw rfl) rfl T.gp boot_list (af (cZ jv rfl T.d6 iM (af (pv 7) ao)) ao)) ao)) (bf (ze T) hr T.vC T.lJ.kp T.vB b4 (af (aD uz (g6 (af ay ao)) (cZ (Qj rfl) rfl T.gp boot_list (af (cZ Qh rfl T.d6 iM (af (pv 7) (af (aD jg (aD cW (pv 7) (pv 8)) ay) ao))) ao))) ao))))
  (aI (putL 2 S.nd (aD jg (aD cW (pv 7) (pv 8)) ay))
  (aI (putL 4 S.nd (bf (za T) hr T.vz T.lH.kp T.vy b4 (af (pv 2) (af (pv 9) (af (bf (qe T) hr T.m9 T.i4.kp T.m8 b4 (af (pv 1) (af (cZ (jw rfl) rfl T.gp boot_list (af (cZ jv rfl T.d6 iM (af (pv 2) ao)) ao)) ao))) ao)))))
  (aI (fA (eR nY (bO iH (bf (yQ T) hr T.vx T.lG.kp T.vw kO (af (pv 4) ao)) ay) (aD jg (aD cX ay (aD cW (pv 7) (pv 8))) ay)) (a8 (cP jf)) fz)
  (a8 (cP (bf (RM T) hr T.G0 T.sU.kp T.GZ b4 (af (pv 1) (af (aD cW ay (bf (tf T) hr T.pX T.jE.kp T.pW b4 (af (pv 1) (af ay ao)))) ao)))))))))))))))))))),?_⟩
 refine ⟨_,rfl,by show 3≤sizeLine;decide,fun P0 nP=>?_⟩
 have p0:dX (upd H P0 (.lst [.ref a,.int 0,.int 0])) P0 a:=⟨0,0,ar,by decide,by decide⟩
 have rD:bC K (er P0 (upd H P0 (.lst [.ref a,.int 0,.int 0]))) a (ns.map V.int):=by
  rw [EE]
  exact ai.seq (fun b o e=>AM (jd e nP) e) hS
 dsimp only [aY]
 generalize upd H P0 (.lst [.ref a,.int 0,.int 0])=H0 at p0 rD ⊢
 have lu:∀n,(aW n).length=n:=fun n=>by unfold aW;simp
 have qf:∀l:List Nat,l.map (Int.toNat ∘ iN)=l:=fun l=>by
  conv=>rhs;rw [←l7 l]
  exact fj fun k _=>cU k
 have back:∀{x y:List Nat},x.map iN=y.map iN→y=x:=fun{x y} e=>by
  have:=b_ (List.map Int.toNat) e
  rw [bR,bR,qf,qf] at this
  exact this.symm
 refine bL ⟨_,rfl,P0,a,ns,5,rfl,p0,rD,by decide,iL.of_lt (by decide) (by decide),fun c H1 c0 c1 s1 p1=>⟨_,_,rfl,rfl,?_⟩⟩
 obtain ⟨m,hm⟩:∃m:Nat,3+c=(m:Int):=⟨(3+c).toNat,by omega⟩
 have m3:3≤m:=by omega
 have m7:m≤7:=by omega
 dsimp only [aY]
 rw [hm]
 clear hm c0 c1 c
 have Cy:bC K (er P0 H1) a (ns.map V.int):=ai.seq s1 rD
 refine bL ⟨_,rfl,_,rfl,(m:Int),rfl,fun q1 tj=>⟨q1,m,rfl,ar,by omega,fun l1 zo=>?_⟩⟩
 have s2:ai H1 (upd (upd H1 q1 (.bH 0 (m:Int))) l1 (.lst (aW m))):=(aG tj).trans (aG zo)
 have vG:upd (upd H1 q1 (.bH 0 (m:Int))) l1 (.lst (aW m)) l1=some (.lst (aW m)):=ar
 have Su:l1≠P0:=p1.ne (none_of (aG tj) zo)
 generalize upd (upd H1 q1 (.bH 0 (m:Int))) l1 (.lst (aW m))=H2 at s2 vG ⊢
 refine ⟨P0,a,l1,ns,aW m,rfl,p1.mono s2,ai.seq (aJ.of s2) Cy,Su,vG,by rw [lu];omega,fun nr ys H3 s3 p3 vP Cr kr pm=>?_⟩
 obtain ⟨nm,rfl,N⟩:=yb pm
 have t3:aJ P0 H1 H3:=(aJ.of s2).trans s3
 dsimp only [aY]
 refine bL ⟨_,rfl,_,rfl,(m:Int),rfl,fun q2 tw=>⟨q2,m,rfl,ar,by omega,fun l2 kh=>?_⟩⟩
 have s4:ai H3 (upd (upd H3 q2 (.bH 0 (m:Int))) l2 (.lst (aW m))):=(aG tw).trans (aG kh)
 have tD:upd (upd H3 q2 (.bH 0 (m:Int))) l2 (.lst (aW m)) l2=some (.lst ((List.range m).map fun k:Nat=>V.int (k:Int))):=ar
 generalize upd (upd H3 q2 (.bH 0 (m:Int))) l2 (.lst (aW m))=H4 at s4 tD ⊢
 refine ⟨l2,List.range m,rfl,tD,by simp;omega,by simp;omega,fun H5 lk us s5 kq jF hL=>?_⟩
 obtain ⟨Cz,Iu⟩:=P_ m3 m7
 refine ⟨_,rfl,lk,nr,m,us,_,cI (e9 (List.range m)),nm,rfl,jF,hL,Cz,by omega,(s4.trans s5) _ _ kr,by simp,fun i hi=>by rw [bt,eN hi];rfl,N,fun tp L' H6 s6 d_ tG CA Sv Iv=>?_⟩
 have r:=dP.named Cz N Iv
 have ri:=r.ring Iu
 have aM:=lC CA
 have nk:rq L':=fun p hp=>by
  have:=CA.lt p hp
  omega
 have CB:=s4.trans (s5.trans s6)
 have p6:=p3.mono CB
 have t6:aJ P0 H1 H6:=t3.trans (aJ.of CB)
 have Ib:tp≠P0:=(p3.mono (s4.trans s5)).ne d_
 dsimp only [aY]
 have rv:fK m=11*(m:Int)-16:=by
  obtain ⟨k,rfl⟩:∃k,m=k+2:=⟨m-2,by omega⟩
  show 11*(k:Int)+6=_
  push_cast
  omega
 refine bL ⟨_,rfl,tp,m,L',rfl,tG,aM,by omega,fun H7 ft lo o s7 nh lO ni po qh=>?_⟩
 have hw:wW m L' []=11*(m:Int)-16:=by rw [←rv];exact ri.worth m3 aM m [] (x6 m) rfl
 refine ⟨ft,_,_,_,rfl,rfl,.of lO,rfl,_,rfl,_,_,rfl,rfl,.inl ⟨by decide,by decide⟩,_,_,rfl,rfl,rfl,false,by rw [hw];simp,mL ?_⟩
 dsimp only [qP]
 have zg:=tG.mono s7
 have p7:=p6.mono s7
 have t7:=t6.trans (aJ.of s7)
 refine bL ⟨5,rfl,by decide,by decide,?_⟩
 refine uo (fun j σ Hd=>∃(v5 v6 v7 v8 v9:Option V),σ=[some (.ref a),some (.ref P0),some (.int (m:Int)),some (.ref nr),some (.ref tp),v5,v6,v7,v8,v9]∧aJ P0 H7 Hd∧dX Hd P0 a) ⟨_,_,_,_,_,rfl,aJ.refl _,p7⟩ ?_ ?_
 ·rintro j σ Hd hj ⟨v5,v6,v7,v8,v9,rfl,sd,pd⟩
  dsimp only [aY]
  refine ⟨_,rfl,_,rfl,_,rfl,(m:Int),rfl,fun q3 gq=>⟨q3,m,rfl,ar,by omega,fun l3 gr=>?_⟩⟩
  have s8:ai Hd (upd (upd Hd q3 (.bH 0 (m:Int))) l3 (.lst (aW m))):=(aG gq).trans (aG gr)
  have gu:upd (upd Hd q3 (.bH 0 (m:Int))) l3 (.lst (aW m)) l3=some (.lst (aW m)):=ar
  have ku:l3≠P0:=pd.ne (none_of (aG gq) gr)
  generalize upd (upd Hd q3 (.bH 0 (m:Int))) l3 (.lst (aW m))=H8 at s8 gu ⊢
  refine ⟨P0,a,l3,ns,aW m,rfl,pd.mono s8,ai.seq (t7.trans (sd.trans (aJ.of s8))) Cy,ku,gu,by rw [lu];omega,fun orr ys H9 s9 p9 Ie Ig tE vR=>?_⟩
  obtain ⟨o2,rfl,d8⟩:=Bm vR
  have Iw:=rj d8
  have vS:=sd.trans ((aJ.of s8).trans s9)
  have CD:eY H9 tp m L':=((zg.er p7).mono vS).mono oA
  refine ⟨tp,orr,m,L',o2.map iN,rfl,CD,aM,nk,by omega,by rw [tE,bR (g:=V.int) (f:=iN)];rfl,by rw [aB];omega,fun no=>absurd (d8.map iN) no,fun o3 e3 Sw tF nu d hd=>?_⟩
  have:=back e3
  subst this
  obtain ⟨M,fM⟩:=By m L' o3
  have CF:(d:Int)=11*(m:Int)-16:=by
   rw [hd M fM,←Gb d8 aM fM,←rv,ri.lA m3 aM o3 [] (x6 m) (by rw [PX];exact d8),Iw]
  refine ⟨_,rfl,_,_,rfl,rfl,.inl ⟨by decide,by decide⟩,_,_,rfl,rfl,rfl,false,by rw [CF];simp,mL ?_⟩
  exact ⟨_,_,_,_,_,rfl,vS.trans (aJ.of nu),p9.mono nu⟩
 rintro σ Hd ⟨v5,v6,v7,v8,v9,rfl,sd,pd⟩
 have td:=t7.trans sd
 have zq:bC K (er P0 Hd) a (ns.map V.int):=ai.seq td Cy
 clear sd t7 p7 zg qh po ni lO nh s7 hw t6 p6 Ib CB ri r Iv Sv tG CA d_ s6 hL jF kq s5 Iu Cz tD s4 t3 pm N kr Cr vP p3 s3 nk aM
 dsimp only
 refine bL ⟨_,rfl,P0,a,ns,3,rfl,pd,zq,by decide,iL.of_lt (by decide) (by decide),fun c I1 c0 c1 xE Iy=>⟨_,_,rfl,rfl,?_⟩⟩
 obtain ⟨y,hy⟩:∃y:Nat,1+c=(y:Int):=⟨(1+c).toNat,by omega⟩
 have y1:1≤y:=by omega
 have y3:y≤3:=by omega
 dsimp only [aY]
 rw [hy]
 clear hy c0 c1 c
 have FC:=P8 y1 y3
 have zr:=lC FC.ok
 have two:(2:Int)*(y:Int)=((2*y:Nat):Int):=by omega
 refine bL ⟨_,rfl,_,_,rfl,rfl,.inl ⟨by decide,by decide⟩,_,rfl,y,rfl,by omega,fun I2 lk us qi kq jF hL=>?_⟩
 refine ⟨_,rfl,_,rfl,_,_,rfl,rfl,.inl ⟨by decide,by decide⟩,_,b_ (fun z=>[V.int z]) two,fun q3 gq=>⟨q3,2*y,rfl,ar,by omega,fun l3 gr=>?_⟩⟩
 have lP:ai I2 (upd (upd I2 q3 (.bH 0 ((2*y:Nat):Int))) l3 (.lst (aW (2*y)))):=(aG gq).trans (aG gr)
 have gu:upd (upd I2 q3 (.bH 0 ((2*y:Nat):Int))) l3 (.lst (aW (2*y))) l3=some (.lst (aW (2*y))):=ar
 have CG:=Iy.mono qi
 have ku:l3≠P0:=CG.ne (none_of (aG gq) gr)
 have tm:lk≠P0:=Iy.ne kq
 generalize upd (upd I2 q3 (.bH 0 ((2*y:Nat):Int))) l3 (.lst (aW (2*y)))=I3 at lP gu ⊢
 have uX:=CG.mono lP
 refine ⟨P0,a,l3,ns,aW (2*y),rfl,uX,ai.seq (xE.trans (aJ.of (qi.trans lP))) zq,ku,gu,by rw [lu];omega,fun CH ys I4 qj Iz vP IA kr pm=>?_⟩
 obtain ⟨CI,rfl,N⟩:=yb pm
 have zt:=qj.at tm (lP _ _ jF)
 have zu:bu I4 us (cI (gm y)):=(((hL.mono lP).er uX).mono qj).mono oA
 refine ⟨lk,CH,2*y,us,_,cI (gm y),CI,by rw [←two];rfl,zt,zu,FC.ok,by omega,kr,by simp,fun i hi=>by rw [bt,eN hi];rfl,N,fun tp L' I5 qk d_ vT vU IC zv=>?_⟩
 have r:=dP.named FC.ok N zv
 have aM:=lC vU
 have nk:rq L':=fun p hp=>by
  have:=vU.lt p hp
  omega
 have ID:=Iz.mono qk
 have IE:aJ P0 Hd I5:=xE.trans ((aJ.of (qi.trans lP)).trans (qj.trans (aJ.of qk)))
 dsimp only [aY]
 refine bL ⟨_,rfl,tp,2*y,L',rfl,vT,aM,by omega,fun I6 ft lo o qo nh lO ni po qh=>?_⟩
 obtain ⟨o₀,zw,zA⟩:=FC.Gu
 have hw:=r.j8 zr aM FC.low zw zA po qh
 refine ⟨ft,_,_,_,rfl,rfl,.of lO,rfl,_,rfl,_,_,rfl,rfl,.inl ⟨by decide,by decide⟩,_,_,rfl,rfl,rfl,false,by rw [hw];simp,mL ?_⟩
 dsimp only [qP]
 have tG:=vT.mono qo
 have CJ:=ID.mono qo
 have CK:=IE.trans (aJ.of qo)
 refine bL ⟨5,rfl,by decide,by decide,?_⟩
 refine uo (fun j σ He=>∃(v5 v7 v8 v9:Option V),σ=[some (.ref a),some (.ref P0),some (.int (m:Int)),some (.ref nr),some (.ref tp),v5,some (.int (y:Int)),v7,v8,v9]∧aJ P0 I6 He∧dX He P0 a) ⟨_,_,_,_,rfl,aJ.refl _,CJ⟩ ?_ ?_
 ·rintro j σ He hj ⟨v5,v7,v8,v9,rfl,sd,pe⟩
  dsimp only [aY]
  refine ⟨_,rfl,_,rfl,_,rfl,_,_,rfl,rfl,.inl ⟨by decide,by decide⟩,_,b_ (fun z=>[V.int z]) two,fun q3 gq=>⟨q3,2*y,rfl,ar,by omega,fun l3 gr=>?_⟩⟩
  have s8:ai He (upd (upd He q3 (.bH 0 ((2*y:Nat):Int))) l3 (.lst (aW (2*y)))):=(aG gq).trans (aG gr)
  have gu:upd (upd He q3 (.bH 0 ((2*y:Nat):Int))) l3 (.lst (aW (2*y))) l3=some (.lst (aW (2*y))):=ar
  have ku:l3≠P0:=pe.ne (none_of (aG gq) gr)
  generalize upd (upd He q3 (.bH 0 ((2*y:Nat):Int))) l3 (.lst (aW (2*y)))=H8 at s8 gu ⊢
  refine ⟨P0,a,l3,ns,aW (2*y),rfl,pe.mono s8,ai.seq (CK.trans (sd.trans (aJ.of s8))) zq,ku,gu,by rw [lu];omega,fun orr ys H9 s9 p9 Ie Ig tE vR=>?_⟩
  obtain ⟨o2,rfl,d8⟩:=Bm vR
  have Iw:=rj d8
  have vS:=sd.trans ((aJ.of s8).trans s9)
  have CD:eY H9 tp (2*y) L':=((tG.er CJ).mono vS).mono oA
  refine ⟨tp,orr,2*y,L',o2.map iN,rfl,CD,aM,nk,by omega,by rw [tE,bR (g:=V.int) (f:=iN)];rfl,by rw [aB];omega,fun no=>absurd (d8.map iN) no,fun o3 e3 Sw tF nu d hd=>?_⟩
  have:=back e3
  subst this
  obtain ⟨M,fM⟩:=By (2*y) L' o3
  have CF:¬(d:Int)<22*(y:Int)-16:=by
   rw [hd M fM,←hw]
   have:=Gd d8 aM fM
   omega
  refine ⟨_,rfl,_,_,rfl,rfl,.inl ⟨by decide,by decide⟩,_,_,rfl,rfl,_,_,rfl,rfl,false,b_ V.bl (bV CF),mL ?_⟩
  exact ⟨_,_,_,_,rfl,vS.trans (aJ.of nu),p9.mono nu⟩
 rintro σ He ⟨v5,v7,v8,v9,rfl,sd,pe⟩
 have te:=CK.trans sd
 have vV:bC K (er P0 He) a (ns.map V.int):=ai.seq te zq
 clear sd CK CJ tG hw zA zw qh po ni lO nh qo IE ID nk aM r zv IC vU vT d_ qk zu zt N pm kr IA vP Iz qj uX gu lP ku tm CG gr gq hL jF kq qi zr FC
 dsimp only
 refine bL ⟨_,rfl,P0,a,ns,2,rfl,pe,vV,by decide,iL.of_lt (by decide) (by decide),fun c J1 c0 c1 u1 r1=>⟨_,_,rfl,rfl,_,rfl,P0,a,ns,2,rfl,r1,ai.seq u1 vV,by decide,iL.of_lt (by decide) (by decide),fun c' J2 Sx Sy u2 r2=>⟨_,_,rfl,rfl,?_⟩⟩⟩
 refine ⟨_,_,rfl,?_⟩
 obtain ⟨x,hx⟩:∃x:Nat,3+c=(x:Int):=⟨(3+c).toNat,by omega⟩
 obtain ⟨z,hz⟩:∃z:Nat,3+c'=(z:Int):=⟨(3+c').toNat,by omega⟩
 have x3:x=3∨x=4:=by omega
 have z3:z=3∨z=4:=by omega
 dsimp only
 rw [hx,hz]
 clear hx hz c0 c1 Sx Sy c c'
 have FC:=P9 x3 z3
 have zr:=lC FC.ok
 have Sz:=u1.trans u2
 have lx:3≤x∧x≤4:=by omega
 have lz:3≤z∧z≤4:=by omega
 have SA:(x:Int)+(z:Int)-1=((x+z-1:Nat):Int):=by omega
 simp only [List.set_cons_zero,List.set_cons_succ]
 refine bL ⟨_,rfl,(x:Int),rfl,fun q1 tj=>⟨q1,x,rfl,ar,by omega,fun l1 zo=>?_⟩⟩
 have qi:ai J2 (upd (upd J2 q1 (.bH 0 (x:Int))) l1 (.lst (aW x))):=(aG tj).trans (aG zo)
 have IF:upd (upd J2 q1 (.bH 0 (x:Int))) l1 (.lst (aW x)) l1=some (.lst ((List.range x).map fun k:Nat=>V.int (k:Int))):=ar
 generalize upd (upd J2 q1 (.bH 0 (x:Int))) l1 (.lst (aW x))=J3 at qi IF ⊢
 refine ⟨l1,List.range x,rfl,IF,by simp;omega,by simp;omega,fun J4 D1 e_ lP Rn y4 IG=>?_⟩
 refine ⟨by show 1≤sizeLine;decide,fun l0 vE=>?_⟩
 have qj:ai J4 (upd J4 l0 (.lst [.int 0])):=aG vE
 have IH:upd J4 l0 (.lst [.int 0]) l0=some (.lst [.int 0]):=ar
 generalize upd J4 l0 (.lst [.int 0])=J5 at qj IH ⊢
 refine ⟨_,rfl,_,rfl,_,rfl,_,_,rfl,rfl,_,_,rfl,rfl,(x:Int),((x+(z-1):Nat):Int),b_ (fun w=>[V.int (x:Int),V.int w]) (show (x:Int)+(z:Int)-1=((x+(z-1):Nat):Int) by omega),fun q2 tw=>⟨q2,x,z-1,rfl,ar,by omega,fun l2 kh=>?_⟩⟩
 have qk:ai J5 (upd (upd J5 q2 (.bH (x:Int) ((x+(z-1):Nat):Int))) l2 (.lst ((List.range (z-1)).map fun i:Nat=>V.int ((x+i:Nat):Int)))):=(aG tw).trans (aG kh)
 have II:upd (upd J5 q2 (.bH (x:Int) ((x+(z-1):Nat):Int))) l2 (.lst ((List.range (z-1)).map fun i:Nat=>V.int ((x+i:Nat):Int))) l2=some (.lst ((List.range (z-1)).map fun i:Nat=>V.int ((x+i:Nat):Int))):=ar
 generalize upd (upd J5 q2 (.bH (x:Int) ((x+(z-1):Nat):Int))) l2 (.lst ((List.range (z-1)).map fun i:Nat=>V.int ((x+i:Nat):Int)))=J6 at qk II ⊢
 refine ⟨l0,l2,_,_,rfl,rfl,qk _ _ IH,II,ky (cS (by simp;omega)),fun l4 SD=>?_⟩
 have ep:([V.int 0]++(List.range (z-1)).map fun i:Nat=>V.int ((x+i:Nat):Int))=(0::(List.range (z-1)).map fun k=>x+k).map fun k:Nat=>V.int (k:Int):=by
  rw [bM,bR]
  rfl
 rw [ep]
 have qo:ai J6 (upd J6 l4 (.lst ((0::(List.range (z-1)).map fun k=>x+k).map fun k:Nat=>V.int (k:Int)))):=aG SD
 have p_:upd J6 l4 (.lst ((0::(List.range (z-1)).map fun k=>x+k).map fun k:Nat=>V.int (k:Int))) l4=some (.lst ((0::(List.range (z-1)).map fun k=>x+k).map fun k:Nat=>V.int (k:Int))):=ar
 generalize upd J6 l4 (.lst ((0::(List.range (z-1)).map fun k=>x+k).map fun k:Nat=>V.int (k:Int)))=J7 at qo p_ ⊢
 refine ⟨l4,_,rfl,p_,by simp,by simp;omega,fun J8 D2 gN SE qb fO IJ=>?_⟩
 have CL:=qj.trans (qk.trans (qo.trans SE))
 have Co:=IG.1
 have Cp:=IJ.1
 rw [vv] at Co Cp
 have V5:(e9 (List.range x)).length=x:=by unfold e9;simp
 have V6:(e9 (0::(List.range (z-1)).map fun k=>x+k)).length=z:=by unfold e9;simp;omega
 refine ⟨D1,D2,e_,gN,rfl,rfl,CL _ _ y4,fO,ky (cS (by omega)),fun lk kq=>?_⟩
 have zB:ai J8 (upd J8 lk (.lst (e_++gN))):=aG kq
 have jF:upd J8 lk (.lst (e_++gN)) lk=some (.lst (e_++gN)):=ar
 generalize upd J8 lk (.lst (e_++gN))=J9 at zB jF ⊢
 have hL:bu J9 (e_++gN) (cI (lE x z)):=by
  unfold lE
  rw [oV]
  exact ((IG.mono CL).app IJ).mono zB
 have IK:=qi.trans (lP.trans CL)
 have r8:=r2.mono IK
 have tm:lk≠P0:=r8.ne kq
 have r9:=r8.mono zB
 have IL:=Sz.trans (aJ.of (IK.trans zB))
 dsimp only [aY]
 refine bL ⟨_,rfl,_,rfl,_,_,rfl,rfl,_,_,rfl,rfl,?_⟩
 dsimp only [aY]
 rw [SA]
 refine bL ⟨_,rfl,_,rfl,_,rfl,_,rfl,_,rfl,fun q3 gq=>⟨q3,x+z-1,rfl,ar,by omega,fun l3 gr=>?_⟩⟩
 have tH:ai J9 (upd (upd J9 q3 (.bH 0 ((x+z-1:Nat):Int))) l3 (.lst (aW (x+z-1)))):=(aG gq).trans (aG gr)
 have gu:upd (upd J9 q3 (.bH 0 ((x+z-1:Nat):Int))) l3 (.lst (aW (x+z-1))) l3=some (.lst (aW (x+z-1))):=ar
 have ku:l3≠P0:=r9.ne (none_of (aG gq) gr)
 generalize upd (upd J9 q3 (.bH 0 ((x+z-1:Nat):Int))) l3 (.lst (aW (x+z-1)))=K1 at tH gu ⊢
 have IM:=r9.mono tH
 refine ⟨P0,a,l3,ns,aW (x+z-1),rfl,IM,ai.seq (IL.trans (aJ.of tH)) vV,ku,gu,by rw [lu];omega,fun CH ys K2 CM SF vP IA kr pm=>?_⟩
 obtain ⟨CI,rfl,N⟩:=yb pm
 have zt:=CM.at tm (tH _ _ jF)
 have zu:bu K2 (e_++gN) (cI (lE x z)):=(((hL.mono tH).er IM).mono CM).mono oA
 refine ⟨lk,CH,x+z-1,e_++gN,_,cI (lE x z),CI,rfl,zt,zu,FC.ok,by omega,kr,by simp,fun i hi=>by rw [bt,eN hi];rfl,N,fun tp L' K3 IP d_ vT vU IC zv=>?_⟩
 have r:=dP.named FC.ok N zv
 have aM:=lC vU
 have SG:=SF.mono IP
 have SH:=IL.trans ((aJ.of tH).trans (CM.trans (aJ.of IP)))
 dsimp only [aY]
 refine bL ⟨_,rfl,tp,x+z-1,L',rfl,vT,aM,by omega,fun K4 ft lo o IQ nh lO ni po qh=>?_⟩
 obtain ⟨o₀,zw,zA⟩:=FC.Gu
 have hw:=r.j8 zr aM FC.low zw zA po qh
 refine ⟨ft,_,_,_,rfl,rfl,.of lO,rfl,_,rfl,_,rfl,_,_,rfl,rfl,_,_,rfl,rfl,.inl ⟨by decide,by decide⟩,_,_,rfl,rfl,rfl,false,by rw [hw];simp,mL ?_⟩
 dsimp only [qP]
 have IS:=SH.trans (aJ.of IQ)
 refine ⟨_,rfl,_,rfl,P0,a,ns,4,rfl,SG.mono IQ,ai.seq IS vV,by decide,iL.of_lt (by decide) (by decide),fun c K5 c0 c1 SI SJ=>⟨_,_,rfl,rfl,?_⟩⟩
 obtain ⟨h,hh⟩:∃h:Nat,3+c=(h:Int):=⟨(3+c).toNat,by omega⟩
 exact ⟨P0,a,ns,h,b_ (fun w=>[V.ref P0,V.int w]) hh,SJ,ai.seq (IS.trans SI) vV,by omega,by omega,fun _ _ _=>kQ _⟩
theorem SK{l:PySem.W.OpenLaw}(T:Txt K mg t):∃fd:FuncData,(∀(s:Shared) (v:Value),BindsTo s fd ⟨[v],[]⟩ [("script",v)])∧∀base:Heap,K.In base→base.Ns mainGlobals mg→bZ l.prog w K mg base dw 9 t.m4 fd ["script"] (xg K):=by obtain ⟨oc,od,kV,doc,pm,an,bN,ct,jV,e,lk,gz⟩:=T.sV.ex;refine ⟨t.pN,fun s v=>?_,fun base _ _=>Ss T⟩;rw [e];exact .of_eq rfl
end
theorem walk{l:PySem.W.OpenLaw}{q:Program}{loose:List Str}{XP:(Str→Option Value)→Heap→Prop}{YP:World→Heap→Prop}{d:DefRec}{K:Params→PySem.W.Frag}(hn:l.most=some 63)(uA:d.params.defaults=[])
  (hY:∀(w:World) (h:Heap),YP w h→(K w.params).In h)
  (F:∀(w:World) (mg:cN) (fa:Addr) (h:Heap),(K w.params).In h→h.Ns mainGlobals mg→mg d.name=some (.ref fa)→
   ∃fd:FuncData,(∀(s:Shared) (u:Value),BindsTo s fd ⟨[u],[]⟩ [("script",u)])∧∀base:Heap,(K w.params).In base→base.Ns mainGlobals mg→bZ l.prog w (K w.params) mg base dw 9 fa fd ["script"] (xg (K w.params))) :
  PySem.W.WalkO q loose XP YP l.row.toRowW d [] (fun f vs=>PySem.call f vs):=
 L2.LH (n:=63) (k:=9) (x:="script") (CX:=fun _=>dw) (sp:=fun w=>xg (K w.params)) hn (by decide) uA ⟨rfl,by decide,by decide⟩ hY F (fun _ _ a ns hl _ hS=>⟨a,ns,rfl,hS,hl,fun _=>rfl⟩) fun _ _ _ _ _ z=>z
theorem SM{K:aC}{h:Heap}{mg:cN}(X:K.In h)(G:h.Ns mainGlobals mg)
  {lF:Addr}
  {sF:Addr}
  {SN:Tok}
  {oW oX oY oZ o6 o7 o8 o9 o_ pb ph pA pB pC pD pE pF pG pH pI pJ pK pL pM m4:Addr} {rN rO rP rQ rR rS rT rV rW rX rY rZ r6 r_ si sj sk sq sr su sv sC sD sE pN:FuncData}
  (CN:PySem.W.nsIn K mainGlobals "NoOrder"=some (some (.ref lF)))
  (CO:PySem.W.nsIn K mainGlobals "NoSize"=some (some (.ref sF)))
  (SO:mg "is_whole"=some (.ref oW))
  (sG:bj K "is_whole" yc oW rN)
  (SQ:mg "neighbours"=some (.ref oX))
  (pO:bj K "neighbours" yd oX rO)
  (SR:mg "is_order"=some (.ref oY))
  (sI:bj K "is_order" ye oY rP)
  (SS:mg "check_order"=some (.ref oZ))
  (sJ:bj K "check_order" yf oZ rQ)
  (SU:mg "turns_of"=some (.ref o6))
  (sL:bj K "turns_of" yg o6 rR)
  (SV:mg "link_all"=some (.ref o7))
  (sM:bj K "link_all" yh o7 rS)
  (SW:mg "later"=some (.ref o8))
  (pP:bj K "later" yi o8 rT)
  (SX:mg "place_deeds"=some (.ref o9))
  (pQ:bj K "place_deeds" yj o9 rV)
  (SY:mg "deeds"=some (.ref o_))
  (m5:bj K "deeds" yk o_ rW)
  (S0:mg "check_size"=some (.ref pb))
  (pR:bj K "check_size" yl pb rX)
  (S1:mg "still_near"=some (.ref ph))
  (sN:bj K "still_near" yo ph rY)
  (S2:mg "cost"=some (.ref pA))
  (sO:bj K "cost" yq pA rZ)
  (S3:mg "rising_tuples"=some (.ref pB))
  (sP:bj K "rising_tuples" yr pB r6)
  (S4:mg "and_done"=some (.ref pC))
  (pU:bj K "and_done" yt pC r_)
  (S5:mg "choices"=some (.ref pD))
  (pV:bj K "choices" yu pD si)
  (S6:mg "worths"=some (.ref pE))
  (sQ:bj K "worths" yv pE sj)
  (S7:mg "fewest"=some (.ref pF))
  (lG:bj K "fewest" yw pF sk)
  (S8:mg "_law_fill"=some (.ref pG))
  (sR:bj K "_law_fill" yy pG sq)
  (S9:mg "_law_next"=some (.ref pH))
  (jE:bj K "_law_next" yA pH sr)
  (S_:mg "_law_turned"=some (.ref pI))
  (i4:bj K "_law_turned" yB pI su)
  (Ta:mg "_law_named"=some (.ref pJ))
  (lH:bj K "_law_named" yC pJ sv)
  (Tb:mg "_law_round"=some (.ref pK))
  (lJ:bj K "_law_round" yE pK sC)
  (Tc:mg "_law_ladder"=some (.ref pL))
  (sS:bj K "_law_ladder" yF pL sD)
  (Td:mg "_law_hubbed"=some (.ref pM))
  (sU:bj K "_law_hubbed" yG pM sE)
  (Te:mg "law"=some (.ref m4))
  (sV:bj K "law" yH m4 pN)
  (CP:PySem.W.nsIn K mainGlobals "len"=some none)
  (CQ:PySem.W.nsIn K mainGlobals "isinstance"=some none)
  (CS:PySem.W.nsIn K mainGlobals "int"=some none)
  (CT:PySem.W.nsIn K mainGlobals "bool"=some none)
  (CU:PySem.W.nsIn K mainGlobals "tuple"=some none)
  (CV:PySem.W.nsIn K mainGlobals "list"=some none)
  (CW:PySem.W.nsIn K mainGlobals "range"=some none)
  (CY:PySem.W.nsIn K mainGlobals "all"=some none)
  (CZ:PySem.W.nsIn K mainGlobals "any"=some none)
  (C0:PySem.W.nsIn K mainGlobals "sum"=some none)
  (C1:PySem.W.nsIn K mainGlobals "enumerate"=some none)
  (C2:PySem.W.nsIn K mainGlobals "min"=some none)
  (C3:PySem.W.nsIn K mainGlobals "max"=some none)
  (C4:PySem.W.nsIn K mainGlobals "sorted"=some none)
  (C5:PySem.W.nsIn K mainGlobals "ValueError"=some none)
  (C6:PySem.W.nsIn K mainGlobals "MOST"=some (some (.int 9 SN)))
  (C7:PySem.W.excIn K lF [.type "ValueError",.type "Exception",.type "BaseException",.type "object"] "ValueError.__new__"=true)
  (C8:PySem.W.excIn K sF [.type "ValueError",.type "Exception",.type "BaseException",.type "object"] "ValueError.__new__"=true)
  : ∃t:BK,Txt K mg t:=by
 refine ⟨⟨oW,rN,oX,rO,oY,rP,oZ,rQ,o6,rR,o7,rS,o8,rT,o9,rV,o_,rW,pb,rX,ph,rY,pA,rZ,pB,r6,pC,r_,pD,si,pE,sj,pF,sk,pG,sq,pH,sr,pI,su,pJ,sv,pK,sC,pL,sD,pM,sE,m4,pN,lF,sF⟩,?_⟩
 exact {
  sG:=sG
  GA:=sG.dy
  GB:=SO
  pO:=pO
  BL:=pO.dy
  BM:=SQ
  sI:=sI
  GC:=sI.dy
  GD:=SR
  sJ:=sJ
  GF:=sJ.dy
  GG:=SS
  sL:=sL
  GH:=sL.dy
  GI:=SU
  sM:=sM
  GJ:=sM.dy
  GK:=SV
  pP:=pP
  BN:=pP.dy
  BO:=SW
  pQ:=pQ
  BP:=pQ.dy
  BQ:=SX
  m5:=m5
  yI:=m5.dy
  yJ:=SY
  pR:=pR
  BR:=pR.dy
  BS:=S0
  sN:=sN
  GL:=sN.dy
  GN:=S1
  sO:=sO
  GO:=sO.dy
  GP:=S2
  sP:=sP
  GQ:=sP.dy
  GR:=S3
  pU:=pU
  BU:=pU.dy
  BV:=S4
  pV:=pV
  BW:=pV.dy
  BX:=S5
  sQ:=sQ
  GS:=sQ.dy
  GU:=S6
  lG:=lG
  vw:=lG.dy
  vx:=S7
  sR:=sR
  GV:=sR.dy
  GW:=S8
  jE:=jE
  pW:=jE.dy
  pX:=S9
  i4:=i4
  m8:=i4.dy
  m9:=S_
  lH:=lH
  vy:=lH.dy
  vz:=Ta
  lJ:=lJ
  vB:=lJ.dy
  vC:=Tb
  sS:=sS
  GX:=sS.dy
  GY:=Tc
  sU:=sU
  GZ:=sU.dy
  G0:=Td
  sV:=sV
  Qr:=sV.dy
  G1:=Te
  G2:=cR X G CN
  G3:=cR X G CO
  gM:=fQ X G CP
  yK:=fQ X G CQ
  G4:=fQ X G CS
  G5:=fQ X G CT
  BY:=fQ X G CU
  gp:=fQ X G CV
  d6:=fQ X G CW
  G6:=fQ X G CY
  Qs:=fQ X G CZ
  BZ:=fQ X G C0
  B0:=fQ X G C1
  vD:=fQ X G C2
  B1:=fQ X G C3
  sW:=fQ X G C4
  Qt:=fQ X G C5
  G7:=⟨_,cR X G C6,_,rfl⟩
  G8:=C7
  G9:=C8
 }
end My
namespace PySem.W.Fast
def tw13090461022374476279:Unit:=()
def tw12646708782274017144:Unit:=()
def tw7646740843799387747:Unit:=()
def tw13797382160152782132:Unit:=()
def tw2539202328788785075:Unit:=()
def tw10146344205836518703:Unit:=()
def tw4922285186962187759:Unit:=()
def tw1471958158104594864:Unit:=()
def tw14555346147501367643:Unit:=()
def tw16699937241657950077:Unit:=()
def tw18350814718383350634:Unit:=()
def tw18173227119512821249:Unit:=()
def tw3265367770088477809:Unit:=()
def tw5741513056523699751:Unit:=()
def tw13528158559502774636:Unit:=()
def tw12951474365225074877:Unit:=()
end PySem.W.Fast
open PySem PySem.W PyProof.Rows
set_option maxRecDepth 100000 in
set_option maxHeartbeats 0 in
theorem PySem.Challenge.cw_bandwright_k31_whole_rings_and_ladders_holds : PySem.Challenge.rw_bandwright_k31_whole_rings_and_ladders.Holds := by
 w_on;o_law;k_head;(case hw=>w_witness2)
 k_fill
 refine My.walk (l:=PySem.Challenge.rw_bandwright_k31_whole_rings_and_ladders) rfl rfl (fun w h Y=>PySem.W.kIn_of Y) ?F
 case F=>
  intro w mg fa h KX G uB
  have T:∃t,My.Txt (L2.Ek KX) mg t:=by
   dsimp only [L2.Ek]
   refine' My.SM KX G ?CN ?CO (cR KX G ?Tf) (L2.dz (st:=My.yc) ?Tg ?Th ?Ti) (cR KX G ?Tj) (L2.dz (st:=My.yd) ?Tn ?To ?Tp) (cR KX G ?Tq) (L2.dz (st:=My.ye) ?Tr ?Tu ?Tv) (cR KX G ?Tw) (L2.dz (st:=My.yf) ?Tz ?TF ?TH) (cR KX G ?TJ) (L2.dz (st:=My.yg) ?TL ?TM ?TN) (cR KX G ?TQ) (L2.dz (st:=My.yh) ?TR ?TU ?TV) (cR KX G ?TY) (L2.dz (st:=My.yi) ?TZ ?T3 ?T4) (cR KX G ?T5) (L2.dz (st:=My.yj) ?T6 ?T7 ?T8) (cR KX G ?T9) (L2.dz (st:=My.yk) ?T_ ?Ua ?Ub) (cR KX G ?Uc) (L2.dz (st:=My.yl) ?Ud ?Ue ?Ug) (cR KX G ?Uh) (L2.dz (st:=My.yo) ?Ui ?Uj ?Uk) (cR KX G ?Ul) (L2.dz (st:=My.yq) ?Um ?Uo ?Up) (cR KX G ?Uq) (L2.dz (st:=My.yr) ?Ur ?Us ?Ut) (cR KX G ?Uu) (L2.dz (st:=My.yt) ?Uv ?Uw ?Ux) (cR KX G ?Uy) (L2.dz (st:=My.yu) ?Uz ?UA ?UB) (cR KX G ?UC) (L2.dz (st:=My.yv) ?UD ?UE ?UG) (cR KX G ?UH) (L2.dz (st:=My.yw) ?UI ?UJ ?UK) (cR KX G ?UL) (L2.dz (st:=My.yy) ?UM ?UN ?UO) (cR KX G ?UP) (L2.dz (st:=My.yA) ?UQ ?UR ?US) (cR KX G ?UT) (L2.dz (st:=My.yB) ?UU ?UW ?UX) (cR KX G ?UY) (L2.dz (st:=My.yC) ?UZ ?U0 ?U1) (cR KX G ?U3) (L2.dz (st:=My.yE) ?U4 ?U5 ?U6) (cR KX G ?U7) (L2.dz (st:=My.yF) ?U8 ?U9 ?U_) (cR KX G ?Va) (L2.dz (st:=My.yG) ?Vb ?Vc ?Vd) (cR KX G ?Ve) (L2.dz (st:=My.yH) ?Vf ?Vg ?Vh) ?CP ?CQ ?CS ?CT ?CU ?CV ?CW ?CY ?CZ ?C0 ?C1 ?C2 ?C3 ?C4 ?C5 ?C6 ?C7 ?C8
   (case CN|CO|Tf|Tg|Th|Ti|Tj|Tn|To|Tp|Tq|Tr|Tu|Tv|Tw|Tz|TF|TH|TJ|TL|TM|TN|TQ|TR|TU|TV|TY|TZ|T3|T4|T5|T6|T7|T8|T9|T_|Ua|Ub|Uc|Ud|Ue|Ug|Uh|Ui|Uj|Uk|Ul|Um|Uo|Up|Uq|Ur|Us|Ut|Uu|Uv|Uw|Ux|Uy|Uz|UA|UB|UC|UD|UE|UG|UH|UI|UJ|UK|UL|UM|UN|UO|UP|UQ|UR|US|UT|UU|UW|UX|UY|UZ|U0|U1|U3|U4|U5|U6|U7|U8|U9|U_|Va|Vb|Vc|Vd|Ve|Vf|Vg|Vh|CP|CQ|CS|CT|CU|CV|CW|CY|CZ|C0|C1|C2|C3|C4|C5|C6=>k_is)
   (case C7|C8=>k_exc)
  obtain ⟨t,T⟩:=T
  have e0:=uB.symm.trans T.G1
  cases e0
  exact My.SK T
#print axioms PySem.Challenge.cw_bandwright_k31_whole_rings_and_ladders_holds
