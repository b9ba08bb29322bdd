import PyProof.Rows.All
import Wide.All
import OpenK.AllK
import Wide.FinOn
import Lean
import PyProof.EqAt
import PyProof.EqKinds
import PyProof.TupleCall
import PySem.Challenge.RW_bandwright_k97_whole_filling_grows
set_option Elab.async false
set_option linter.all false
set_option maxRecDepth 100000
abbrev bL:=@decide_eq_false
abbrev n5:=@beq_eq_false_iff_ne
abbrev CP:=@List.getElem?_eq_none_iff
abbrev ae:=@if_pos
abbrev aa:=@if_neg
abbrev aZ:=@PySem.Heap.lt_size
abbrev dX:=@Nat.lt_of_lt_of_le
abbrev eE:=@Nat.lt_irrefl
abbrev cq:=@Nat.ne_of_lt
abbrev zv:=@PySem.W.hideAll_get
abbrev bI:=@List.mem_filter
abbrev bb:=@List.mem_range
abbrev bR:=@Nat.le_trans
abbrev mP:=@Nat.le_of_lt
abbrev zw:=@List.filterMap_cons
abbrev bV:=@List.mem_cons_self
abbrev bX:=@List.mem_cons_of_mem
abbrev bh:=@List.mem_cons
abbrev cZ:=@List.mem_append
abbrev kj:=@List.mem_append_left
abbrev cu:=@List.getElem?_eq_some_iff
abbrev lC:=@List.getElem_inj
abbrev c_:=@PySem.wpAny_mono
abbrev n6:=@PySem.wpAny_truthy_bool
abbrev gM:=@Array.length_toList
abbrev dP:=@congrArg
abbrev zA:=@PySem.wpAny_execs_nil
abbrev bo:=@PySem.wpAny_bind
abbrev sX:=@PySem.wpAny_holding
abbrev wR:=@PySem.wpAny_standAt
abbrev pS:=@PySem.wpAny_passesOwn
abbrev dA:=@Bool.false_ne_true
abbrev dB:=@PySem.wpAny_pure
abbrev wU:=@Bool.false_and
abbrev zB:=@PySem.wpAny_pyIter_list
abbrev cg:=@PySem.Heap.get?_push_of_some
abbrev eX:=@PySem.Heap.get?_push_size
abbrev ax:=@Nat.le_refl
abbrev wV:=@PyProof.Rows.callWith_type1
abbrev zC:=@List.mem_filterMap
abbrev d9:=@List.mem_append_right
abbrev bY:=@Nat.zero_le
abbrev pU:=@Bool.eq_iff_iff
abbrev n_:=@PySem.sizeLine_eq
abbrev zD:=@List.any_eq_false
abbrev jd:=@PySem.W.kia_one
abbrev ko:=@List.append_nil
abbrev zE:=@PySem.wpAny_Call_Name_kw
abbrev gq:=@List.nodup_cons
abbrev CQ:=@Option.isSome_iff_exists
abbrev oi:=@List.length_take
abbrev lE:=@PySem.mem_of_lookup
abbrev iM:=@List.getElem?_append_right
abbrev iO:=@List.getElem?_append_left
abbrev bq:=@List.getElem?_map
abbrev kq:=@List.mem_of_getElem?
abbrev di:=@List.length_append
abbrev aC:=@List.length_map
abbrev cQ:=@Int.toNat_natCast
abbrev sY:=@List.map_nil
abbrev cR:=@List.map_cons
abbrev bZ:=@List.size_toArray
abbrev CS:=@PySem.Heap.get?_update_other
abbrev lF:=@Bool.and_eq_true
abbrev oj:=@List.any_cons
abbrev mQ:=@List.replicate_succ
abbrev sZ:=@List.flatten_cons
abbrev jJ:=@Nat.le_succ
abbrev gr:=@List.append_assoc
abbrev om:=@PySem.call_meets
abbrev kr:=@List.length_singleton
abbrev wW:=@Array.getElem?_toList
abbrev CT:=@List.eraseIdxIfInBounds_toArray
abbrev a_:=@decide_eq_true
abbrev je:=@Nat.not_lt_zero
abbrev cx:=@PySem.W.mg_of
abbrev ku:=@Nat.lt_of_le_of_lt
abbrev CU:=@PySem.F.typeOf_object_class
abbrev wX:=@PySem.wpAny_loadPart_at
abbrev pV:=@List.all_eq_true
abbrev CW:=@PySem.wpAny_comprehension_free
abbrev dY:=@List.length_cons
abbrev CY:=@PySem.codeAny_compLoop_tests
abbrev zF:=@PySem.lookup_relabel_local
abbrev CZ:=@PySem.codeAny_compStart_list
abbrev dm:=@Int.le_of_lt
abbrev du:=@List.getD_eq_getElem?_getD
abbrev bS:=@List.mem_singleton
abbrev dI:=@List.length_range
abbrev jK:=@List.getElem?_range
abbrev pW:=@beq_self_eq_true
abbrev bT:=@List.getElem_mem
abbrev wY:=@Nat.sub_self
abbrev gu:=@List.take_length
abbrev mR:=@List.not_mem_nil
abbrev wZ:=@Nat.lt_succ_of_lt
abbrev pX:=@List.lookup_cons
abbrev w5:=@List.ext_getElem?
abbrev zG:=@List.getElem?_eq_none
abbrev s_:=@List.range_succ
abbrev fj:=@List.map_append
abbrev hE:=@List.map_congr_left
abbrev hG:=@List.ext_getElem
abbrev ar:=@PyProof.Rows.wpS_bind
abbrev jf:=@PyProof.Rows.wpS_get
abbrev aq:=@PyProof.Rows.wpS_pure
abbrev fR:=@PyProof.Rows.wpS_forRange
abbrev gv:=@PyProof.Rows.wpS_mono
abbrev C0:=@List.Pairwise.sublist
abbrev tj:=@List.pairwise_append
abbrev tm:=@List.perm_append_comm
abbrev oo:=@List.take_append_drop
abbrev C1:=@List.Perm.append_left
abbrev C2:=@List.drop_eq_getElem_cons
abbrev zH:=@List.take_of_length_le
abbrev tu:=@List.getElem_of_mem
abbrev mT:=@Int.le_refl
abbrev oq:=@List.pairwise_iff_getElem
abbrev ky:=@PyProof.Rows.wpS_modify
abbrev df:=@of_decide_eq_true
abbrev dz:=@Int.le_trans
abbrev ot:=@Array.toList_push
abbrev lG:=@Array.toList_append
abbrev pY:=@PySem.wpAny_rule
abbrev zI:=@Array.toList_reverse
abbrev lH:=@List.mem_reverse
abbrev mV:=@List.reverse_perm
abbrev d_:=@Nat.zero_add
abbrev w6:=@Nat.add_zero
abbrev pZ:=@Array.perm_iff_toList_perm
abbrev bu:=@List.getElem?_eq_getElem
abbrev mW:=@decide_eq_decide
abbrev cI:=@List.map_map
abbrev tD:=@PySem.Heap.get?_push_ne
abbrev zJ:=@PySem.Heap.get?_update_ne
abbrev hI:=@List.nodup_range
abbrev fD:=@List.getElem_map
abbrev mX:=@List.getElem_range
abbrev tE:=@List.nodup_nil
abbrev bD:=@List.mem_map
abbrev gA:=@Int.eq_ofNat_of_zero_le
abbrev kA:=@List.take_succ
abbrev p9:=@List.pairwise_cons
abbrev jL:=@List.nodup_append
abbrev zK:=@Nat.add_sub_cancel
abbrev mY:=@List.filter_append
abbrev tF:=@List.length_filter_le
abbrev mZ:=@List.pairwise_map
abbrev w_:=@List.pairwise_lt_range
abbrev p_:=@List.find?_cons
abbrev zL:=@Option.isSome_map
abbrev zM:=@List.any_eq_true
abbrev fk:=@decide_eq_true_iff
abbrev C3:=@List.length_erase_of_mem
abbrev m5:=@List.idxOf_lt_length_of_mem
abbrev tG:=@List.getElem_idxOf
abbrev tH:=@Option.some.injEq
abbrev xb:=@List.filter_map
abbrev tI:=@List.map_id
abbrev ou:=@List.nodup_iff_pairwise_ne
abbrev C4:=@List.Pairwise.imp_of_mem
abbrev fm:=@List.sum_cons
abbrev qa:=@List.perm_ext_iff_of_nodup
abbrev zN:=@PySem.Around.in1_units
abbrev jg:=@List.idxOf_cons_self
abbrev tJ:=@List.idxOf_cons
abbrev kB:=@List.filter_cons
abbrev jM:=@List.idxOf_append
abbrev zO:=@List.filter_nil
abbrev gB:=@Classical.byContradiction
abbrev C5:=@List.pairwise_singleton
abbrev tK:=@PySem.wpAny_ite_split
abbrev tL:=@List.filter_cons_of_pos
abbrev zP:=@List.filter_cons_of_neg
abbrev C6:=@List.getElem_cons_zero
abbrev xc:=@List.getElem_cons_succ
abbrev zQ:=@List.mem_iff_getElem
abbrev xf:=@List.getElem?_of_mem
abbrev qb:=@List.idxOf_lt_length_iff
abbrev oz:=@Int.zero_add
abbrev zR:=@decide_eq_true_eq
abbrev qc:=@Nat.add_le_add_left
abbrev dC:=@PySem.PassesOwn.never
abbrev oA:=@PyProof.Rows.boot_sorted
abbrev iP:=@PySem.boot_len
abbrev fq:=@PySem.F.plainAttrs_list
abbrev jN:=@PySem.F.slot_list_append
abbrev jO:=@PySem.F.type_list_append
abbrev m6:=@Int.emod_nonneg
abbrev qd:=@Int.emod_lt_of_pos
abbrev zS:=@Int.ediv_nonneg
abbrev qe:=@Nat.mul_le_mul
abbrev C7:=@PySem.F.slot_list_index
abbrev C8:=@PySem.F.type_list_index
abbrev fS:=@PySem.W.mg_none_of
abbrev TLL:=List (List (Int×Int))
abbrev au:=List (Int×Int)
abbrev TNN:=Nat→Nat→Int
abbrev cJ:=PySem.Str→Option PySem.Value
abbrev aM:=PySem.Value→PySem.Shared→Prop
abbrev aE:=PySem.W.Frag
abbrev aK:=List (PySem.Addr×PySem.Obj)
namespace L2
open PySem PySem.Spec PyProof.Rows
abbrev Key:=Sum Int Str
def qf:Key→Value→Bool
 | .inl k,v=>Value.isInt k v
 | .inr x,v=>Value.isStrOf x v
def OC(w:World):Key→Int
 | .inl k=>hashInt k
 | .inr x=>hashStr w x
theorem lI:∀{k:Key} {v:Value},qf k v=true→(∃i t,k=Sum.inl i∧v=Value.int i t)∨(∃x t,k=Sum.inr x∧v=Value.str x t)
 | .inl i,v,h=>by obtain ⟨t,e⟩:=Value.isInt_shape (k:=i) (v:=v) h;exact .inl ⟨i,t,rfl,e⟩
 | .inr x,v,h=>by obtain ⟨t,e⟩:=Value.isStrOf_shape (x:=x) (v:=v) h;exact .inr ⟨x,t,rfl,e⟩
theorem OD(i:Int)(t:Tok):qf (.inl i) (.int i t)=true:=by simp [qf,Value.isInt]
theorem OE(x:Str)(t:Tok):qf (.inr x) (.str x t)=true:=by simp [qf,Value.isStrOf]
theorem OF(a b:Int):decide ((Sum.inl a:Key)=Sum.inl b)=(a == b):=by
 by_cases e:a=b;·subst e;simp
 ·have h:¬(Sum.inl a:Key)=Sum.inl b:=fun q=>e (Sum.inl.inj q)
  rw [bL h];exact (n5.mpr e).symm
theorem OG(a b:Str):decide ((Sum.inr a:Key)=Sum.inr b)=decide (a=b):=by
 by_cases e:a=b;·subst e;simp
 ·have h:¬(Sum.inr a:Key)=Sum.inr b:=fun q=>e (Sum.inr.inj q)
  rw [bL h,bL e]
theorem OH(a:Int)(b:Str):decide ((Sum.inl a:Key)=Sum.inr b)=false:=bL (fun q=>nomatch q)
theorem OI(a:Str)(b:Int):decide ((Sum.inr a:Key)=Sum.inl b)=false:=bL (fun q=>nomatch q)
def gN(prog:Program)(w:World):PySem.KeyKind prog w Key where
 is:=qf
 hash:=OC w
 inj:=fun v a b ha hb=>by
  rcases lI ha with ⟨i,t,rfl,rfl⟩ | ⟨x,t,rfl,rfl⟩
  ·rcases lI hb with ⟨j,u,rfl,e⟩ | ⟨y,u,rfl,e⟩
   ·injection e with e1 _;rw [e1]
   ·exact nomatch e
  ·rcases lI hb with ⟨j,u,rfl,e⟩ | ⟨y,u,rfl,e⟩
   ·exact nomatch e
   ·injection e with e1 _;rw [e1]
 byValue:=fun k v h=>by
  rcases lI h with ⟨i,t,rfl,rfl⟩ | ⟨x,t,rfl,rfl⟩ <;> rfl
 pyHash:=fun hv h=>by
  rcases lI hv with ⟨i,t,rfl,rfl⟩ | ⟨x,t,rfl,rfl⟩
  ·exact wpAny_pyHash_int h
  ·exact wpAny_pyHash_str h
 eqBool:=fun hu hv h=>by
  rcases lI hu with ⟨i,t,rfl,rfl⟩ | ⟨x,t,rfl,rfl⟩
  ·rcases lI hv with ⟨j,u,rfl,rfl⟩ | ⟨y,u,rfl,rfl⟩
   ·rw [OF] at h;exact wpAny_eqBool_int h
   ·rw [OH] at h;exact SeqAt.EqAt.int_str i t y u _ _ _ _ h
  ·rcases lI hv with ⟨j,u,rfl,rfl⟩ | ⟨y,u,rfl,rfl⟩
   ·rw [OI] at h;exact SeqAt.EqAt.str_int x t j u _ _ _ _ h
   ·rw [OG] at h;exact wpAny_eqBool_str h
 «strs»:=fun k x t v h=>by
  rcases lI h with ⟨i,u,rfl,e⟩ | ⟨y,u,rfl,e⟩
  ·exact nomatch e
  ·injection e with e1 _
   subst e1
   cases v <;> rfl
theorem OJ(prog:Program)(w:World)(i:Int)(t:Tok):(gN prog w).is (.inl i) (.int i t)=true:=OD i t
theorem OK(prog:Program)(w:World)(x:Str)(t:Tok):(gN prog w).is (.inr x) (.str x t)=true:=OE x t
inductive V where
 | aN | bl (b:Bool) | int (i:Int) | str (x:Str) | kC (b:Array UInt8) | tM (b:UInt64) | ref (a:Addr) | ty (n:String)
 deriving DecidableEq
def RelV:V→Value→Prop
 | .aN,u=>u=Value.none
 | .bl b,u=>u=Value.bool b
 | .int i,u=>∃t,u=Value.int i t
 | .str x,u=>∃t,u=Value.str x t
 | .kC b,u=>∃t,u=Value.bytes b t
 | .tM b,u=>∃t,u=Value.float b t
 | .ref a,u=>u=Value.ref a
 | .ty n,u=>u=Value.type n
abbrev Vals:List V→List Value→Prop:=Paired RelV
variable {xs:List V} {us:List Value}
theorem Vals.length(r:Vals xs us):xs.length=us.length:=Paired.length r
theorem Vals.get:∀{xs:List V} {us:List Value} {i:Nat} {x:V},Vals xs us→xs[i]?=some x→∃u,us[i]?=some u∧RelV x u
 | _,_,_,_,.nil,e=>by simp at e
 | _,_,0,_,.cons r _,e=>by simp at e;subst e;exact ⟨_,rfl,r⟩
 | _,_,i+1,x,.cons _ t,e=>by
  obtain ⟨u,h1,h2⟩:=Vals.get (i:=i) (x:=x) t (by simpa using e)
  exact ⟨u,by simpa using h1,h2⟩
theorem Vals.set{x:V}{u:Value}(r:RelV x u):∀{xs:List V} {us:List Value} (i:Nat),Vals xs us→Vals (xs.set i x) (us.set i u)
 | _,_,_,.nil=>.nil
 | _,_,0,.cons _ t=>.cons r t
 | _,_,i+1,.cons q t=>.cons q (Vals.set r i t)
theorem Vals.append:∀{xs ys:List V} {us ws:List Value},Vals xs us→Vals ys ws→Vals (xs++ys) (us++ws)
 | _,_,_,_,.nil,s=>s
 | _,_,_,_,.cons r t,s=>.cons r (Vals.append t s)
theorem Vals.take:∀{xs:List V} {us:List Value} (n:Nat),Vals xs us→Vals (xs.take n) (us.take n)
 | _,_,0,_=>.nil
 | _,_,_+1,.nil=>.nil
 | _,_,n+1,.cons r t=>.cons r (Vals.take n t)
theorem Vals.drop:∀{xs:List V} {us:List Value} (n:Nat),Vals xs us→Vals (xs.drop n) (us.drop n)
 | _,_,0,r=>r
 | _,_,_+1,.nil=>.nil
 | _,_,n+1,.cons _ t=>Vals.drop n t
theorem Vals.none_of:∀{xs:List V} {us:List Value} {i:Nat},Vals xs us→xs[i]?=none→us[i]?=none:=fun{xs us i} r e=>by have h1:=r.length;have h2:xs.length≤i:=CP.mp e;exact CP.mpr (by lia)
def kD:Option V→Option Value→Prop
 | some v,some u=>RelV v u
 | none,none=>True
 | _,_=>False
def KV{κ:Type}:List (κ×V)→List (κ×Value)→Prop:=Paired fun(p:κ×V) (q:κ×Value)=>p.1=q.1∧RelV p.2 q.2
def kV:Key→V
 | .inl i=>.int i
 | .inr x=>.str x
inductive HO where
 | lst (xs:List V)
 | tup (xs:List V)
 | dK (kvs:List (Key×V)) | dT (kvs:List (List Key×V))
 | set (S:Int→Bool) (n:Nat)
 | ins (C dx:Addr) (fs:List (Str×V))
 | own (x:Addr)
 | xd (fs:List (Str×V))
 | met (f x:Addr)
 | gO (lo hi:Int)
 | bg (o:Obj) (u:HO)
 | dq (ps:Array Value)
 | ext (φ:Heap→Prop)
abbrev Hp:=Addr→Option HO
def upd(H:Hp)(a:Addr)(o:HO):Hp:=fun b=>if b=a then some o else H b
variable {H:Hp} {a:Addr} {o:HO}
theorem av:upd H a o a=some o:=by unfold upd;rw [ae rfl]
variable {b:Addr}
theorem aH(h:b≠a):upd H a o b=H b:=by unfold upd;rw [aa h]
theorem OL{u:HO}(h:H a=some o)(h':H b=some u)(d:o≠u):a≠b:=by intro e;subst e;rw [h] at h';exact d (Option.some.inj h')
theorem fT(h:H a=some o)(h':H b=none):a≠b:=by intro e;subst e;rw [h] at h';cases h'
section
variable (P:Program) (w:World)
def cw(H:Hp)(h:Heap)(a:Addr):HO→Prop
 | .lst xs=>xs.length≤sizeLine∧∃(its:List Value) (n:Nat),Vals xs its∧h.get? a=some {cls:=.type "list",data:=.seq its.toArray n}
 | .tup xs=>xs.length≤sizeLine∧∃its:List Value,Vals xs its∧IsTup h a its.toArray
 | .dK kvs=>kvs.length≤sizeLine∧(a == sysModules)=false∧∃vs,KV kvs vs∧h.DictOf (gN P w) a vs
 | .dT kvs=>kvs.length≤sizeLine∧(a == sysModules)=false∧∃xs:List (List Key×Addr×Value),
   Paired (fun(p:List Key×V) (q:List Key×Addr×Value)=>p.1=q.1∧H q.2.1=some (.tup (p.1.map kV))∧RelV p.2 q.2.2) kvs xs ∧
   ∃o es ep,h.get? a=some o∧o.ExactDict∧o.data=.dict es ep∧es.toList=xs.map (entryOfKey (tupleKind (gN P w)))∧(xs.map (·.1)).Nodup
 | .set S n=>h.SetOf (intKind P w) a S n
 | .ins C dx fs=>H dx=some (.own a)∧fs.length≤1000∧dx≠a∧h.get? a=some (PySem.W.instObj C dx) ∧
   ∃mA,h.Ns1 dx mA∧(∀f,kD (fs.lookup f) (mA f))∧PySem.Within mA (fs.map (·.1))
 | .own _=>∃o,h.get? a=some o
 | .xd fs=>∃mA,h.Ns1 a mA∧∀f,kD (fs.lookup f) (mA f)
 | .gO lo hi=>∃t u v,h.get? a=some {cls:=.type "range",data:=.fields #[.int lo t,.int hi u,.int 1 v]}
 | .bg o u=>h.get? a=some o∧cw H h a u
 | .dq ps=>h.get? a=some {cls:=.none,data:=.fields ps}
 | .met f x=>h.get? a=some (PySem.W.methodObj (.ref f) (.ref x))
 | .ext φ=>φ h∧(∃o,h.get? a=some o)∧∀h1 h2:Heap,φ h1→(∀o,h1.get? a=some o→h2.get? a=some o)→φ h2
def cy(H:Hp)(h:Heap):Prop:=∀a o,H a=some o→cw P w H h a o
end
section
variable {P:Program} {w:World} {H H':Hp} {h h':Heap} {a:Addr} {o:HO}
theorem cw.lt(x:cw P w H h a o):a<h.objs.size:=by
 cases o with
 | lst xs=>obtain ⟨_,_,_,_,e⟩:=x;exact aZ e
 | tup xs=>obtain ⟨_,_,_,p⟩:=x;exact p.lt
 | dK kvs=>obtain ⟨_,_,_,_,o,_,_,e,_⟩:=x;exact aZ e
 | dT kvs=>obtain ⟨_,_,_,_,o,_,_,e,_⟩:=x;exact aZ e
 | set S n=>obtain ⟨o,_,_,_,e,_⟩:=x;exact aZ e
 | ins C dx fs=>obtain ⟨_,_,_,e,_⟩:=x;exact aZ e
 | own y=>obtain ⟨_,e⟩:=x;exact aZ e
 | xd fs=>obtain ⟨_,⟨_,_,_,e,_⟩,_⟩:=x;exact aZ e
 | gO lo hi=>obtain ⟨_,_,_,e⟩:=x;exact aZ e
 | bg ob u=>obtain ⟨e,_⟩:=x;exact aZ e
 | dq ps=>exact aZ (show h.get? a=some _ from x)
 | met f y=>exact aZ (show h.get? a=some _ from x)
 | ext φ=>obtain ⟨_,⟨_,e⟩,_⟩:=x;exact aZ e
theorem Paired.C9{α β:Type}{F G:α→β→Prop}:∀{l₁:List α} {l₂:List β},Paired F l₁ l₂→(∀a b,F a b→G a b)→Paired G l₁ l₂
 | _,_,.nil,_=>.nil
 | _,_,.cons r t,f=>.cons (f _ _ r) (Paired.C9 t f)
theorem cw.jh(x:cw P w H h a o)(k:∀b u,(b=a∨H b=some (.own a))→h.get? b=some u→h'.get? b=some u)
  (ho:∀b,H b=some (.own a)→H' b=some (.own a)) (ht:∀b xs,H b=some (.tup xs)→H' b=some (.tup xs)):cw P w H' h' a o:=by
 induction o with
 | lst xs=>obtain ⟨z,its,n,r,e⟩:=x;exact ⟨z,its,n,r,k _ _ (.inl rfl) e⟩
 | tup xs=>obtain ⟨z,its,r,ob,e,c⟩:=x;exact ⟨z,its,r,ob,k _ _ (.inl rfl) e,c⟩
 | dK kvs=>obtain ⟨z,y,vs,r,ob,es,ep,e,c⟩:=x;exact ⟨z,y,vs,r,ob,es,ep,k _ _ (.inl rfl) e,c⟩
 | dT kvs=>obtain ⟨z,y,xs,r,ob,es,ep,e,c⟩:=x;exact ⟨z,y,xs,Paired.C9 r fun p q z=>⟨z.1,ht _ _ z.2.1,z.2.2⟩,ob,es,ep,k _ _ (.inl rfl) e,c⟩
 | set S n=>obtain ⟨ob,es,ep,t,e,c⟩:=x;exact ⟨ob,es,ep,t,k _ _ (.inl rfl) e,c⟩
 | ins C dx fs=>obtain ⟨d,z,ne,e,mA,⟨od,es,ep,e2,c⟩,r⟩:=x;exact ⟨ho _ d,z,ne,k _ _ (.inl rfl) e,mA,⟨od,es,ep,k _ _ (.inr d) e2,c⟩,r⟩
 | own y=>obtain ⟨ob,e⟩:=x;exact ⟨ob,k _ _ (.inl rfl) e⟩
 | xd fs=>obtain ⟨mA,⟨od,es,ep,e,c⟩,r⟩:=x;exact ⟨mA,⟨od,es,ep,k _ _ (.inl rfl) e,c⟩,r⟩
 | gO lo hi=>obtain ⟨t,u,v,e⟩:=x;exact ⟨t,u,v,k _ _ (.inl rfl) e⟩
 | bg ob u ih=>obtain ⟨e,q⟩:=x;exact ⟨k _ _ (.inl rfl) e,ih q⟩
 | dq ps=>have e:h.get? a=some {cls:=.none,data:=.fields ps}:=x;show h'.get? a=some {cls:=.none,data:=.fields ps};exact k a _ (.inl rfl) e
 | met f y=>have e:h.get? a=some (PySem.W.methodObj (.ref f) (.ref y)):=x;show h'.get? a=some (PySem.W.methodObj (.ref f) (.ref y));exact k a _ (.inl rfl) e
 | ext φ=>obtain ⟨p,⟨o,e⟩,st⟩:=x;exact ⟨st _ _ p fun o q=>k _ _ (.inl rfl) q,⟨o,k _ _ (.inl rfl) e⟩,st⟩
theorem cy.lt(x:cy P w H h)(e:H a=some o):a<h.objs.size:=(x a o e).lt
theorem cy.fresh(x:cy P w H h)(e:h.objs.size≤a):H a=none:=by
 cases q:H a with
 | none=>rfl
 | some u=>exact absurd (dX (x.lt q) e) (eE _)
theorem cy.kept(x:cy P w H h)(k:∀b u,h.get? b=some u→h'.get? b=some u):cy P w H h':=fun a o e=>(x a o e).jh (fun b u _ q=>k b u q) (fun _ q=>q) fun _ _ q=>q
theorem cy.laid(x:cy P w H h)(k:∀b u,h.get? b=some u→h'.get? b=some u)(hp:h.objs.size≤a)(new:cw P w (upd H a o) h' a o):cy P w (upd H a o) h':=fun b u e=>by
 have hn:=x.fresh hp;by_cases hb:b=a;·subst hb;rw [av] at e;cases e;exact new
 ·rw [aH hb] at e
  exact (x b u e).jh (fun c v _ q=>k c v q) (fun c q=>by rw [aH (fT q hn)];exact q) fun c xs q=>by rw [aH (fT q hn)];exact q
end
def Rd(H:Hp)(a:Addr)(u:HO):Prop:=H a=some u∨∃o,H a=some (.bg o u)
variable {P:Program} {w:World} {h:Heap}
theorem Rd.ok{u:HO}(r:Rd H a u)(x:cy P w H h):cw P w H h a u:=by
 rcases r with r | ⟨o,r⟩;·exact x a u r
 ·obtain ⟨_,q⟩:=x a _ r
  exact q
def xg:Option HO→Prop
 | some (.lst _)=>True
 | some (.dK _)=>True
 | some (.dT _)=>True
 | some (.set _ _)=>True
 | some (.ins _ _ _)=>True
 | some (.ext _)=>True
 | _=>False
section
variable {P:Program} {w:World} {H:Hp} {h h':Heap} {x e:Addr} {o':HO}
theorem cy.write(ok:cy P w H h)(mu:xg (H x))(he:e=x∨H e=some (.own x))(k:∀b u,b≠e→h.get? b=some u→h'.get? b=some u)(tN:∃u,h'.get? e=some u)
  (new:cw P w (upd H x o') h' x o'):cy P w (upd H x o') h':=fun b u q=>by
 have Hk:∀c y,H c=some (.own y)→c≠x:=fun c y r z=>by subst z;rw [r] at mu;exact mu
 have OM:∀c xs,H c=some (.tup xs)→c≠x:=fun c xs r z=>by subst z;rw [r] at mu;exact mu
 by_cases hb:b=x;·subst hb;rw [av] at q;cases q;exact new
 ·rw [aH hb] at q
  by_cases qg:b=e
  ·have q':H b=some (.own x):=by
    rcases he with z | z;·exact absurd (qg.trans z) hb
    ·rw [qg];exact z
   rw [q] at q';cases q';obtain ⟨v,hv⟩:=tN;exact ⟨v,by rw [qg];exact hv⟩
  ·refine (ok b u q).jh (fun c v hc r=>k c v ?_ r) (fun c r=>by rw [aH (Hk c b r)];exact r) fun c xs r=>by rw [aH (OM c xs r)];exact r
   rcases hc with rfl | hc;·exact qg
   ·rintro rfl
    rcases he with z | z;·exact Hk c b hc z
    ·rw [hc] at z;cases z;exact hb rfl
end
structure Un (fs ex:List Addr) (H H':Hp) (h h':Heap):Prop where
 keep:∀b o,h.get? b=some o→H b=none→b∉fs→b∉ex→h'.get? b=some o
 slot:∀b o,h.get? b=some o→H b=none→b∈fs→b∉ex→∃sl,h'.get? b=some {o with slots:=sl}
 free:∀b o,h.get? b=some o→H b=none→b∉ex→H' b=none
 there:∀b o,h.get? b=some o→b∉ex→∃o',h'.get? b=some o'
 hJ:∀b xs,H b=some (.tup xs)→H' b=some (.tup xs)
 gP:∀b o u,H b=some (.bg o u)→H' b=some (.bg o u)
 gQ:∀b ps,H b=some (.dq ps)→∃more,H' b=some (.dq (ps++more))
section
variable {fs C_ ex xh:List Addr} {H H1 H2:Hp} {h h1 h2 h':Heap} {a x e:Addr} {o:HO}
theorem Un.any(u:Un fs ex H H1 h h1){ob:Obj}(q:h.get? b=some ob)(n:H b=none)(hx:b∉ex):∃sl,h1.get? b=some {ob with slots:=sl}:=by
 by_cases hb:b∈fs;·exact u.slot b ob q n hb hx
 ·exact ⟨ob.slots,u.keep b ob q n hb hx⟩
theorem Un.kept(k:∀b u,h.get? b=some u→h'.get? b=some u):Un fs ex H H h h':=
 ⟨fun b ob q _ _ _=>k b ob q,fun b ob q _ _ _=>⟨ob.slots,k b ob q⟩,fun _ _ _ n _=>n,fun b ob q _=>⟨ob,k b ob q⟩,fun _ _ q=>q,fun _ _ _ q=>q,fun _ ps q=>⟨#[],by rw [q];simp⟩⟩
theorem Un.refl:Un fs ex H H h h:=Un.kept fun _ _ q=>q
theorem Un.laid(k:∀b u,h.get? b=some u→h'.get? b=some u)(hp:h.objs.size≤a)(hn:H a=none):Un fs ex H (upd H a o) h h' where
 keep:=fun b u q _ _ _=>k b u q
 slot:=fun b u q _ _ _=>⟨u.slots,k b u q⟩
 free:=fun b u q n _=>by rw [aH (cq (dX (aZ q) hp))];exact n
 there:=fun b u q _=>⟨u,k b u q⟩
 hJ:=fun b xs q=>by rw [aH (fT q hn)];exact q
 gP:=fun b u xs q=>by rw [aH (fT q hn)];exact q
 gQ:=fun b ps q=>⟨#[],by rw [aH (fT q hn),q];simp⟩
theorem Un.write(mu:xg (H x))(he:e=x∨H e=some (.own x))(k:∀b u,b≠e→h.get? b=some u→h'.get? b=some u)(tN:∃u,h'.get? e=some u):Un fs ex H (upd H x o) h h':=by
 have hx:∀b,H b=none→b≠x:=fun b n z=>by subst z;rw [n] at mu;exact mu
 have hb:∀b,H b=none→b≠e:=fun b n z=>by
  subst z;rcases he with r | r;·exact hx b n r
  ·rw [n] at r;cases r
 have hm:∀b u,H b=some u→¬xg (some u)→b≠x:=fun b u q nm z=>by subst z;rw [q] at mu;exact nm mu
 refine ⟨fun b u q n _ _=>k b u (hb b n) q,fun b u q n _ _=>⟨u.slots,k b u (hb b n) q⟩,fun b u q n _=>by rw [aH (hx b n)];exact n,fun b u q _=>?_,
  fun b xs q=>by rw [aH (hm b _ q fun z=>z)];exact q,fun b u xs q=>by rw [aH (hm b _ q fun z=>z)];exact q,fun b ps q=>⟨#[],by rw [aH (hm b _ q fun z=>z),q];simp⟩⟩
 by_cases qg:b=e;·subst qg;exact tN
 ·exact ⟨u,k b u qg q⟩
end
def zT(h:Heap)(H:Hp):List Addr:=(List.range h.objs.size).filter fun a=>(H a).isSome
def lJ(h:Heap)(H:Hp):Heap:=PySem.W.hideAll h (zT h H)
theorem ON(h:Heap)(H:Hp):(lJ h H).objs.size=h.objs.size:=PySem.W.hideAll_size _ _
theorem OO{o:Obj}(e:h.get? b=some o)(n:H b=none):(lJ h H).get? b=some o:=
 zv _ e fun hm=>by have q:(H b).isSome=true:=(bI.mp hm).2;rw [n] at q;simp at q
theorem OP{o:Obj}(e:(lJ h H).get? b=some o):h.get? b=some o∧H b=none:=by
 have e':h.get? b=some o:=PySem.W.of_hideAll (zT h H) e;refine ⟨e',?_⟩;cases q:H b with
 | none=>rfl
 | some x=>
  have hm:b∈zT h H:=bI.mpr ⟨bb.mpr (aZ e'),by simp [q]⟩
  have z:(lJ h H).get? b=none:=PySem.W.hideAll_none (zT h H) hm;rw [z] at e;cases e
structure Mod (K:aE) (mg:cJ) (base:Heap):Prop where
 dv:K.In base
 glob:base.Ns mainGlobals mg
 blt:∃mb,base.Ns builtinsNs mb∧∀x:Str,x ≠ "__name__"→mb x=bootBuiltins x
 nolimit:base.NoLimit
structure Cx where
 prog:Program
 w:World
 K:PySem.W.Frag
 mg:Str→Option Value
 base:Heap
 A:Around
 N:List Str
 s₀:Shared
 H₀:Hp
 env:Env
 outer:List Env
 stack:List Env
 ex:List Addr
 fn:Str→Bool
 calm:Bool
 pn:List (Addr×Obj)
 xe:Value→Shared→Prop
def cS(l:List Env):List Addr:=l.filterMap (·.frame)
abbrev Cx.fs (X:Cx):List Addr:=cS X.outer
def qh(sc:Scope)(x:Str):Prop:=sc.names.lookup x=some .local∨sc.names.lookup x=some .cell∨sc.names.lookup x=some .free
def Loc(sc:Scope)(x:Str):Prop:=sc.names.lookup x=some .local∨sc.names.lookup x=some .cell
def Look(env:Env)(h:Heap)(m:cJ)(x:Str)(u:Value):Prop:=
 (env.kindOf x=some .local∧m x=some u)∨((env.kindOf x=some .cell∨env.kindOf x=some .free)∧∃c,env.cells.lookup x=some c∧h.IsCell c (some u))
structure Cx.Ok (X:Cx):Prop where
 mod:Mod X.K X.mg X.base
 kind:X.env.scope.kind=.function
 glob:X.env.globals=mainGlobals
 blt:X.env.builtins=builtinsNs
 above:X.s₀.heap.objs.size≤X.env.locals
 inj:∀x y c,X.env.cells.lookup x=some c→X.env.cells.lookup y=some c→x=y
 has:∀x,(X.env.kindOf x=some .cell∨X.env.kindOf x=some .free)→∃c,X.env.cells.lookup x=some c
 qi:∀x c,X.fn x=true→X.env.cells.lookup x=some c→X.s₀.heap.objs.size≤c
 hd:X.calm=true→X.A.handled=none
 frames:X.A.frames=some X.stack
 jj:X.stack=X.outer∨(X.stack=X.env::X.outer∧X.env.frame=some X.env.locals)
 Hm:∀b∈X.ex,b≠X.env.locals∧∀x c,X.env.cells.lookup x=some c→c≠b
 bs:∀b o,X.base.get? b=some o→X.s₀.heap.get? b=some o∧X.H₀ b=none
 jl:X.base.objs.size≤X.s₀.heap.objs.size
 qj:∀b o,X.base.get? b=some o→b∉X.ex
 qk:∀b∈X.ex,b∉X.fs
 kF:X.s₀.heap.FunFrames X.base X.outer
 oB:∀b∈X.fs,X.H₀ b=none
structure Inv (X:Cx) (pins:aK) (σ:List (Option V)) (H:Hp) (s:Shared):Prop where
 ok:X.Ok
 os:s.os=X.s₀.os
 bare:AllBare s.gens
 base:Un X.fs X.ex X.H₀ H X.s₀.heap s.heap
 loc:∃m,s.heap.Ns X.env.locals m∧∀(i:Nat) (x:Str) (v:V),X.N[i]?=some x→σ[i]?=some (some v)→qh X.env.scope x→∃u,RelV v u∧Look X.env s.heap m x u
 cell:∀x c,X.env.cells.lookup x=some c→∃v,s.heap.IsCell c v
 free:H X.env.locals=none
 jP:∀x c,X.env.cells.lookup x=some c→H c=none
 pin:∀p∈X.pn++pins,s.heap.get? p.1=some p.2∧H p.1=none∧p.1≠X.env.locals∧p.1∉X.fs∧∀v,p.2.data≠.cell v
 ay:cy X.prog X.w H s.heap
 len:σ.length=X.N.length
section
variable {X:Cx} {pins:aK} {σ:List (Option V)} {H H':Hp} {s:Shared} {h':Heap}
theorem Cx.Ok.OQ(ok:X.Ok){o:Obj}(e:X.base.get? b=some o):b∉X.fs:=fun hb=>by have:=(ok.kF.mem hb).1;rw [e] at this;cases this
theorem Inv.bs(I:Inv X pins σ H s):∀b o,X.base.get? b=some o→s.heap.get? b=some o∧H b=none:=fun b o e=>⟨I.base.keep b o (I.ok.bs b o e).1 (I.ok.bs b o e).2 (I.ok.OQ e) (I.ok.qj b o e),I.base.free b o (I.ok.bs b o e).1 (I.ok.bs b o e).2 (I.ok.qj b o e)⟩
theorem Inv.bk(I:Inv X pins σ H s):∀b o,X.base.get? b=some o→s.heap.get? b=some o:=fun b o e=>(I.bs b o e).1
theorem Inv.mod(I:Inv X pins σ H s):Mod X.K X.mg X.base:=I.ok.mod
theorem Inv.ft(I:Inv X pins σ H s):X.K.In s.heap:=I.ok.mod.dv.keeps I.bk
theorem Inv.lt(I:Inv X pins σ H s):X.env.locals<s.heap.objs.size:=let ⟨_,hn,_⟩:=I.loc;hn.lt
theorem Inv.sz(I:Inv X pins σ H s):X.s₀.heap.objs.size≤s.heap.objs.size:=bR I.ok.above (mP I.lt)
theorem Inv.OR(I:Inv X pins σ H s)(h:s.heap.objs.size≤a):a∉X.fs:=fun hb=>by obtain ⟨_,o,ho,_⟩:=I.ok.kF.mem hb;exact absurd (dX (aZ ho) (bR I.sz h)) (eE _)
theorem Inv.ql(I:Inv X pins σ H s):∀x c,X.env.cells.lookup x=some c→c≠X.env.locals:=fun x c e z=>by obtain ⟨v,o,ho,hd⟩:=I.cell x c e;obtain ⟨m,⟨o',es,ep,m7,De,_⟩,_⟩:=I.loc;rw [z,m7] at ho;cases ho;rw [De] at hd;cases hd
theorem Inv.kF(I:Inv X pins σ H s):s.heap.FunFrames X.base X.outer:=by
 have all:∀(l:List Env),(∀b∈cS l,b∈X.fs)→X.s₀.heap.FunFrames X.base l→s.heap.FunFrames X.base l:=by
  intro l
  induction l with
  | nil=>intro _ _;trivial
  | cons env r ih=>
   intro hs hl;obtain ⟨hk,⟨L,o,hf,hn,ho,hd⟩,hr⟩:=hl;have hL:L∈X.fs:=hs L (by unfold cS;rw [zw,hf];exact bV)
   obtain ⟨sl,e⟩:=I.base.slot L o ho (I.ok.oB L hL) hL fun z=>I.ok.qk L z hL;exact ⟨hk,⟨L,_,hf,hn,e,hd⟩,ih (fun b hb=>hs b (by unfold cS;rw [zw,hf];exact bX _ hb)) hr⟩
 exact all X.outer (fun _ hb=>hb) I.ok.kF
theorem Inv.stack(I:Inv X pins σ H s):s.heap.FunFrames X.base X.stack:=by
 rcases I.ok.jj with e | ⟨e,hf⟩;·rw [e];exact I.kF
 ·rw [e]
  obtain ⟨m,hn,_⟩:=I.loc;refine .cons (by rw [I.ok.kind];decide) hf hn ?_ I.kF
  exact Heap.get?_none_of_le (bR I.ok.jl I.ok.above)
theorem Inv.xi(I:Inv X pins σ H s):∀b∈cS X.stack,b∈X.env.locals::X.fs:=fun b hb=>by
 rcases I.ok.jj with e | ⟨e,hf⟩;·rw [e] at hb;exact bX _ hb
 ·rw [e] at hb
  unfold cS at hb;rw [zw,hf] at hb;exact hb
theorem Inv.xj(I:Inv X pins σ H s):∀b∈cS X.stack,H b=none:=fun b hb=>by
 rcases bh.mp (I.xi b hb) with e | hb;·rw [e];exact I.free
 ·obtain ⟨_,o,ho,_⟩:=I.ok.kF.mem hb
  exact I.base.free b o ho (I.ok.oB b hb) fun z=>I.ok.qk b z hb
theorem Inv.step{g':Array GenState}{t':Nat}{d':Drawn}{ch:List Addr}(I:Inv X pins σ H s)
  (lK:∀b∈ch,(b∈X.ex∨X.s₀.heap.objs.size≤b)∧b≠X.env.locals∧(∀x c,X.env.cells.lookup x=some c→c≠b)∧∀p∈X.pn++pins,p.1≠b)
  (keep:∀b o,b≠X.env.locals→b∉X.fs→b∉ch→s.heap.get? b=some o→H b=none→h'.get? b=some o)
  (slot:∀b o,b≠X.env.locals→b∈X.fs→b∉ch→s.heap.get? b=some o→H b=none→∃sl,h'.get? b=some {o with slots:=sl}) (free:∀b o,b∉ch→s.heap.get? b=some o→H b=none→H' b=none)
  (there:∀b o,b∉ch→s.heap.get? b=some o→∃o',h'.get? b=some o')
  (hJ:∀b xs,H b=some (.tup xs)→H' b=some (.tup xs)) (gP:∀b o u,H b=some (.bg o u)→H' b=some (.bg o u)) (gQ:∀b ps,H b=some (.dq ps)→∃more,H' b=some (.dq (ps++more)))
  (ns:∀m,s.heap.Ns X.env.locals m→h'.Ns X.env.locals m) (ay:cy X.prog X.w H' h') (hg:AllBare g') :
  Inv X pins σ H' {s with heap:=h',gens:=g',drawn:=d',toks:=t'}:=by
 have lN:∀b o,X.s₀.heap.get? b=some o→b≠X.env.locals:=fun b o e=>cq (dX (aZ e) I.ok.above);have zU:∀b o,X.s₀.heap.get? b=some o→b∉X.ex→b∉ch:=fun b o e hx hb=>by
  rcases (lK b hb).1 with z | z;·exact hx z
  ·exact absurd (dX (aZ e) z) (eE _)
 have cellK:∀x c,X.env.cells.lookup x=some c→∀v,s.heap.IsCell c v→h'.IsCell c v:=fun x c e v ⟨o,ho,hd⟩=>by
  have xl:c∉ch:=fun z=>(lK c z).2.2.1 x c e rfl;by_cases hc:c∈X.fs
  ·obtain ⟨sl,q⟩:=slot c o (I.ql x c e) hc xl ho (I.jP x c e)
   exact ⟨_,q,hd⟩
  ·exact ⟨o,keep c o (I.ql x c e) hc xl ho (I.jP x c e),hd⟩
 refine ⟨I.ok,I.os,hg,⟨fun b o e n hb hx=>?_,fun b o e n hb hx=>?_,fun b o e n hx=>?_,fun b o e hx=>?_,fun b xs e=>hJ b xs (I.base.hJ b xs e),fun b o xs e=>gP b o xs (I.base.gP b o xs e),fun b ps e=>?_⟩,?_,fun x c e=>?_,?_,fun x c e=>?_,fun p hp=>?_,ay,I.len⟩;·exact keep b o (lN b o e) hb (zU b o e hx) (I.base.keep b o e n hb hx) (I.base.free b o e n hx)
 ·obtain ⟨sl,e1⟩:=I.base.slot b o e n hb hx
  obtain ⟨OS,e2⟩:=slot b _ (lN b o e) hb (zU b o e hx) e1 (I.base.free b o e n hx);exact ⟨OS,e2⟩
 ·obtain ⟨o',e1⟩:=I.base.there b o e hx
  exact free b o' (zU b o e hx) e1 (I.base.free b o e n hx)
 ·obtain ⟨o',e1⟩:=I.base.there b o e hx
  exact there b o' (zU b o e hx) e1
 ·obtain ⟨m1,e1⟩:=I.base.gQ b ps e
  obtain ⟨m2,e2⟩:=gQ b _ e1;exact ⟨m1++m2,by rw [e2,Array.append_assoc]⟩
 ·obtain ⟨m,hn,hl⟩:=I.loc
  refine ⟨m,ns m hn,fun i x v e1 e2 e3=>?_⟩;obtain ⟨u,r,l⟩:=hl i x v e1 e2 e3;refine ⟨u,r,?_⟩;rcases l with l | ⟨k,c,e,z⟩;·exact .inl l
  ·exact .inr ⟨k,c,e,cellK x c e _ z⟩
 ·obtain ⟨v,z⟩:=I.cell x c e
  exact ⟨v,cellK x c e v z⟩
 ·obtain ⟨m,⟨o,_,_,ho,_⟩,_⟩:=I.loc
  exact free _ o (fun z=>(lK _ z).2.1 rfl) ho I.free
 ·obtain ⟨v,o,ho,hd⟩:=I.cell x c e
  exact free c o (fun z=>(lK c z).2.2.1 x c e rfl) ho (I.jP x c e)
 ·obtain ⟨e,n,ne,nf,d⟩:=I.pin p hp
  have xl:p.1∉ch:=fun z=>(lK p.1 z).2.2.2 p hp rfl;exact ⟨keep p.1 p.2 ne nf xl e n,free p.1 p.2 xl e n,ne,nf,d⟩
variable {t':Nat}
theorem Inv.un(I:Inv X pins σ H s)(u:Un X.fs [] H H' s.heap h')(ay:cy X.prog X.w H' h'):Inv X pins σ H' {s with heap:=h',toks:=t'}:=by
 obtain ⟨m,⟨o,es,ep,ho,r⟩,_⟩:=id I.loc;obtain ⟨sl,hL⟩:=u.any ho I.free (by simp)
 exact I.step (g':=s.gens) (d':=s.drawn) (ch:=[]) (fun _ z=>nomatch z) (fun b o _ hb _ e n=>u.keep b o e n hb (by simp)) (fun b o _ hb _ e n=>u.slot b o e n hb (by simp)) (fun b o _ e n=>u.free b o e n (by simp)) (fun b o _ e=>u.there b o e (by simp)) u.hJ u.gP u.gQ (fun m' hm=>by obtain ⟨o',Dg,oC,m7,r'⟩:=hm;rw [ho] at m7;cases m7;exact ⟨_,Dg,oC,hL,r'⟩) ay I.bare
variable {ch:List Addr}
theorem Inv.call{g':Array GenState}{d':Drawn}(I:Inv X pins σ H s)(u:Un (cS X.stack) ch H H' s.heap h')(ay:cy X.prog X.w H' h')(hg:AllBare g')
  (lK:∀b∈ch,(b∈X.ex∨X.s₀.heap.objs.size≤b)∧b≠X.env.locals∧(∀x c,X.env.cells.lookup x=some c→c≠b)∧∀p∈X.pn++pins,p.1≠b) :
  Inv X pins σ H' {s with heap:=h',gens:=g',drawn:=d',toks:=t'}:=by
 obtain ⟨m,⟨o,es,ep,ho,r⟩,_⟩:=id I.loc;obtain ⟨sl,hL⟩:=u.any ho I.free fun z=>(lK _ z).2.1 rfl;exact I.step (ch:=ch) lK (fun b o hL hb hc e n=>u.keep b o e n (fun z=>(bh.mp (I.xi b z)).elim hL hb) hc) (fun b o _ _ hc e n=>u.any e n hc) (fun b o hc e n=>u.free b o e n hc) (fun b o hc e=>u.there b o e hc) u.hJ u.gP u.gQ (fun m' hm=>by obtain ⟨o',Dg,oC,m7,r'⟩:=hm;rw [ho] at m7;cases m7;exact ⟨_,Dg,oC,hL,r'⟩) ay hg
theorem Inv.turned{it:Addr}(I:Inv X pins σ H s)(k:∀b o,b≠it→s.heap.get? b=some o→h'.get? b=some o)(hn:H it=none)(hL:it≠X.env.locals)
  (h1:it∈X.ex∨X.s₀.heap.objs.size≤it) (h2:∀x c,X.env.cells.lookup x=some c→c≠it) (h3:∀p∈X.pn++pins,p.1≠it):Inv X pins σ H {s with heap:=h',toks:=t'}:=by
 have Hn:∀b u,H b=some u→b≠it:=fun b u e z=>by rw [z,hn] at e;cases e
 refine I.step (g':=s.gens) (d':=s.drawn) (ch:=[it]) (fun b hb=>?_) (fun b o _ _ hc e _=>k b o (fun z=>hc (by simp [z])) e) (fun b o _ _ hc e _=>⟨o.slots,k b o (fun z=>hc (by simp [z])) e⟩) (fun _ _ _ _ n=>n)
  (fun b o hc e=>⟨o,k b o (fun z=>hc (by simp [z])) e⟩) (fun _ _ e=>e) (fun _ _ _ e=>e) (fun b ps e=>⟨#[],by rw [e];simp⟩) (fun m hm=>?_) (fun b u e=>?_) I.bare
 ·have e:b=it:=by simpa using hb
  subst e;exact ⟨h1,hL,h2,h3⟩
 ·obtain ⟨o,es,ep,ho,r⟩:=hm
  exact ⟨o,es,ep,k _ o (Ne.symm hL) ho,r⟩
 ·refine (I.ay b u e).jh (fun c v hc q=>k c v ?_ q) (fun _ q=>q) fun _ _ q=>q
  rcases hc with z | z;·rw [z];exact Hn b u e
  ·exact Hn c _ z
theorem Inv.tok(I:Inv X pins σ H s)(t:Nat):Inv X pins σ H {s with toks:=t}:=I.un (h':=s.heap) (t':=t) Un.refl I.ay
theorem Inv.kept(I:Inv X pins σ H s)(k:∀b u,s.heap.get? b=some u→h'.get? b=some u):Inv X pins σ H {s with heap:=h',toks:=t'}:=I.un (Un.kept k) (I.ay.kept k)
theorem Inv.laid(I:Inv X pins σ H s)(k:∀b u,s.heap.get? b=some u→h'.get? b=some u)(hp:s.heap.objs.size≤a)(new:cw X.prog X.w (upd H a o) h' a o) :
  Inv X pins σ (upd H a o) {s with heap:=h',toks:=t'}:=I.un (Un.laid k hp (I.ay.fresh hp)) (I.ay.laid k hp new)
theorem Inv.write{x e:Addr}(I:Inv X pins σ H s)(mu:xg (H x))(he:e=x∨H e=some (.own x))(k:∀b u,b≠e→s.heap.get? b=some u→h'.get? b=some u)(tN:∃u,h'.get? e=some u)
  (new:cw X.prog X.w (upd H x o) h' x o):Inv X pins σ (upd H x o) {s with heap:=h',toks:=t'}:=I.un (Un.write mu he k tN) (I.ay.write mu he k tN new)
theorem Inv.HG{HH:aK}(I:Inv X pins σ H s)(h:∀p∈HH,s.heap.get? p.1=some p.2∧H p.1=none∧p.1≠X.env.locals∧p.1∉X.fs∧∀v,p.2.data≠.cell v):Inv X HH σ H s:=
 ⟨I.ok,I.os,I.bare,I.base,I.loc,I.cell,I.free,I.jP,fun p hp=>(cZ.mp hp).elim (fun z=>I.pin p (kj _ z)) (h p),I.ay,I.len⟩
variable {i:Nat} {x:Str}
theorem HI{N:List Str}(hN:N.Nodup){j:Nat}(a:N[i]?=some x)(b:N[j]?=some x):i=j:=by obtain ⟨h1,e1⟩:=cu.mp a;obtain ⟨h2,e2⟩:=cu.mp b;exact (lC hN).mp (e1.trans e2.symm)
variable {M:Model} {A:Around} {E:aM} {u:Value} {Q:Unit→Shared→Prop}
theorem Dh{v:V}(I:Inv X pins σ H s)(hN:X.N.Nodup)(hi:X.N[i]?=some x)(hx:Loc X.env.scope x)(r:RelV v u)
  (h:∀s',Inv X pins (σ.set i (some v)) H s'→(∃a,Heap.SameBut a s.heap s'.heap∧(a=X.env.locals∨X.env.cells.lookup x=some a))→Q () s') (hf:X.fn x=true∨X.env.scope.names.lookup x=some .local:=by first | exact .inl rfl | exact .inr rfl | assumption):wpAny M A (storeName X.env x u) Q E s:=by
 obtain ⟨m,hn,hl⟩:=id I.loc;have OT:(X.env.scope.kind == .class || (X.env.scope.kind == .module && X.env.locals != X.env.globals))=false:=by rw [I.ok.kind];rfl
 have HJ:i<σ.length:=by rw [I.len];exact (cu.mp hi).1
 have ql:=I.ql;have tracked:∀{a:Addr} {h':Heap},(∃o,s.heap.get? a=some o∧H a=none)→Heap.SameBut a s.heap h'→cy X.prog X.w H h':=fun{a h'} ha hs b ob e=>by
  obtain ⟨_,_,HK⟩:=ha;refine (I.ay b ob e).jh (fun c w' hc q=>(hs.2 c ?_).trans q) (fun _ q=>q) fun _ _ q=>q;rintro rfl;rcases hc with rfl | hc;·rw [HK] at e;cases e
  ·rw [HK] at hc;cases hc
 rcases hx with hk | hk
 ·refine wpAny_storeName_local hk hn (fun h' OU hs=>?_) OT
  obtain ⟨oL,_,_,OV,_⟩:=id hn;refine h _ ⟨I.ok,I.os,I.bare,⟨fun b o e n hb hx=>?_,fun b o e n hb hx=>?_,I.base.free,fun b o e hx=>?_,I.base.hJ,I.base.gP,I.base.gQ⟩,⟨_,OU,fun j y v' e1 e2 e3=>?_⟩,fun y c e=>?_,I.free,I.jP,fun p hp=>?_,tracked ⟨oL,OV,I.free⟩ hs,by simpa using I.len⟩ ⟨_,hs,.inl rfl⟩
  ·exact (hs.2 b (cq (dX (aZ e) I.ok.above))).trans (I.base.keep b o e n hb hx)
  ·obtain ⟨sl,e1⟩:=I.base.slot b o e n hb hx
   exact ⟨sl,(hs.2 b (cq (dX (aZ e) I.ok.above))).trans e1⟩
  ·obtain ⟨o',e1⟩:=I.base.there b o e hx
   exact ⟨o',(hs.2 b (cq (dX (aZ e) I.ok.above))).trans e1⟩
  ·by_cases hj:j=i
   ·subst hj
    rw [hi] at e1;cases e1;rw [List.getElem?_set_self HJ] at e2;cases e2;exact ⟨u,r,.inl ⟨hk,by simp⟩⟩
   ·rw [List.getElem?_set_ne (Ne.symm hj)] at e2
    obtain ⟨u',r',q⟩:=hl j y v' e1 e2 e3;refine ⟨u',r',?_⟩;rcases q with ⟨k,e⟩ | ⟨k,c,e,z⟩
    ·refine .inl ⟨k,?_⟩
     have:y≠x:=fun e=>hj (HI hN e1 (e▸hi));simp [this,e]
    ·exact .inr ⟨k,c,e,z.sameBut hs (ql y c e)⟩
  ·obtain ⟨w',z⟩:=I.cell y c e
   exact ⟨w',z.sameBut hs (ql y c e)⟩
  ·obtain ⟨e,n,ne,nf,d⟩:=I.pin p hp
   exact ⟨(hs.2 p.1 ne).trans e,n,ne,nf,d⟩
 ·have Di:X.fn x=true:=by
   rcases hf with z | z;·exact z
   ·rw [z] at hk;cases hk
  obtain ⟨c,hc⟩:=I.ok.has x (.inl hk);obtain ⟨w',z⟩:=I.cell x c hc;refine wpAny_storeName_cell I.ok.kind hk hc z (fun h' fU hs=>?_);obtain ⟨oc,HL,OW⟩:=id z;refine h {s with heap:=h'} ⟨I.ok,I.os,I.bare,⟨fun b o e n hb hx=>?_,fun b o e n hb hx=>?_,I.base.free,fun b o e hx=>?_,I.base.hJ,I.base.gP,I.base.gQ⟩,⟨m,hn.sameBut hs (Ne.symm (ql x c hc)),fun j y v' e1 e2 e3=>?_⟩,fun y c' e=>?_,I.free,I.jP,fun p hp=>?_,tracked ⟨oc,HL,I.jP x c hc⟩ hs,by simpa using I.len⟩ ⟨c,hs,.inr hc⟩
  ·exact (hs.2 b (cq (dX (aZ e) (I.ok.qi x c Di hc)))).trans (I.base.keep b o e n hb hx)
  ·obtain ⟨sl,e1⟩:=I.base.slot b o e n hb hx
   exact ⟨sl,(hs.2 b (cq (dX (aZ e) (I.ok.qi x c Di hc)))).trans e1⟩
  ·obtain ⟨o',e1⟩:=I.base.there b o e hx
   exact ⟨o',(hs.2 b (cq (dX (aZ e) (I.ok.qi x c Di hc)))).trans e1⟩
  ·by_cases hj:j=i
   ·subst hj
    rw [hi] at e1;cases e1;rw [List.getElem?_set_self HJ] at e2;cases e2;exact ⟨u,r,.inr ⟨.inl hk,c,hc,fU⟩⟩
   ·rw [List.getElem?_set_ne (Ne.symm hj)] at e2
    obtain ⟨u',r',q⟩:=hl j y v' e1 e2 e3;refine ⟨u',r',?_⟩;rcases q with q | ⟨k,c',e,z'⟩;·exact .inl q
    ·refine .inr ⟨k,c',e,z'.sameBut hs ?_⟩
     rintro rfl;exact hj (HI hN e1 (I.ok.inj _ _ _ e hc▸hi))
  ·by_cases xm:c'=c
   ·subst xm;exact ⟨_,fU⟩
   ·obtain ⟨w2,z2⟩:=I.cell y c' e
    exact ⟨w2,z2.sameBut hs xm⟩
  ·obtain ⟨e,n,ne,nf,d⟩:=I.pin p hp
   refine ⟨(hs.2 p.1 ?_).trans e,n,ne,nf,d⟩;intro q;rw [q,HL] at e;have q':oc=p.2:=Option.some.inj e;exact d w' (by rw [←q'];exact OW)
theorem HM{v:V}(I:Inv X pins σ H s)(hN:X.N.Nodup)(hi:X.N[i]?=some x)(hx:Loc X.env.scope x)(r:RelV v u)
  (h:∀s',Inv X pins (σ.set i (some v)) H s'→Q () s') (hf:X.fn x=true∨X.env.scope.names.lookup x=some .local:=by first | exact .inl rfl | exact .inr rfl | assumption):wpAny M A (storeName X.env x u) Q E s:=
 Dh I hN hi hx r (fun s' I' _=>h s' I') hf
theorem Inv.qm{s':Shared}(I:Inv X pins σ H s)(ho:s'.os=s.os)(u:Un (cS X.stack) ch H H' s.heap s'.heap)(ay:cy X.prog X.w H' s'.heap)(hg:AllBare s'.gens)
  (lK:∀b∈ch,(b∈X.ex∨X.s₀.heap.objs.size≤b)∧b≠X.env.locals∧(∀x c,X.env.cells.lookup x=some c→c≠b)∧∀p∈X.pn++pins,p.1≠b):Inv X pins σ H' s':=by
 obtain ⟨h',g',d',t',o'⟩:=s';have e:o'=s.os:=ho;subst e;exact I.call (g':=g') (t':=t') (d':=d') u ay hg lK
end
abbrev XK:=Value→Option Addr→Hp→Prop
abbrev St:=List (Option V)
abbrev VK:=V→Hp→Prop
abbrev TE:=St→Hp→VK→Prop
abbrev TT:=St→Hp→(Bool→Hp→Prop)→Prop
abbrev TA:=St→Hp→(List V→Hp→Prop)→Prop
structure Ends where
 nx:St→Hp→Prop
 rt:VK
 bk:St→Hp→Prop:=fun _ _=>False
 ct:St→Hp→Prop:=fun _ _=>False
abbrev TS:=Ends→St→Hp→Prop
def EP(X:Cx)(pins:aK)(σ:St)(Q:VK)(u:Value)(s':Shared):Prop:=∃v H',Inv X pins σ H' s'∧RelV v u∧Q v H'
def TP(X:Cx)(pins:aK)(σ:St)(Q:Bool→Hp→Prop)(b:Bool)(s':Shared):Prop:=∃H',Inv X pins σ H' s'∧Q b H'
def AP(X:Cx)(pins:aK)(σ:St)(Q:List V→Hp→Prop)(us:List Value)(s':Shared):Prop:=∃vs H',Inv X pins σ H' s'∧Vals vs us∧Q vs H'
def SP(X:Cx)(pins:aK)(D:Ends)(f:Flow)(s':Shared):Prop:=
 match f with
 | .next=>∃σ' H',Inv X pins σ' H' s'∧D.nx σ' H'
 | .brk=>∃σ' H',Inv X pins σ' H' s'∧D.bk σ' H'
 | .cont=>∃σ' H',Inv X pins σ' H' s'∧D.ct σ' H'
 | .ret u=>∃v σ' H',Inv X pins σ' H' s'∧RelV v u∧D.rt v H'
def PE(X:Cx)(e:Expr)(t:TE):Prop:=
 ∀(pins:aK) (s:Shared) (σ:St) (H:Hp) (Q:VK),Inv X pins σ H s→t σ H Q→wpAny (model X.prog X.w) X.A (eval e X.env) (EP X pins σ Q) X.xe s
def PT(X:Cx)(e:Expr)(t:TT):Prop:=
 ∀(pins:aK) (s:Shared) (σ:St) (H:Hp) (Q:Bool→Hp→Prop),Inv X pins σ H s→t σ H Q→wpAny (model X.prog X.w) X.A (isTrue e X.env (eval e X.env)) (TP X pins σ Q) X.xe s
def PW(X:Cx)(e:Expr)(t:TT):Prop:=
 ∀(whole:Sem Value) (pins:aK) (s:Shared) (σ:St) (H:Hp) (Q:Bool→Hp→Prop),Inv X pins σ H s→t σ H Q→wpAny (model X.prog X.w) X.A (isTrue e X.env whole) (TP X pins σ Q) X.xe s
variable {X:Cx}
theorem PW.pt{e:Expr}{t:TT}(h:PW X e t):PT X e t:=h _
def PA(X:Cx)(es:List Expr)(t:TA):Prop:=
 ∀(pos:Pos) (pins:aK) (s:Shared) (σ:St) (H:Hp) (Q:List V→Hp→Prop),Inv X pins σ H s→t σ H Q→wpAny (model X.prog X.w) X.A (spliced (backTo pos (starEach es X.env))) (AP X pins σ Q) X.xe s
def PS(X:Cx)(st:Stmt)(t:TS):Prop:=
 ∀(pins:aK) (s:Shared) (σ:St) (H:Hp) (D:Ends),Inv X pins σ H s→t D σ H→wpAny (model X.prog X.w) X.A (exec st X.env) (SP X pins D) X.xe s
def fE(X:Cx)(st:List Stmt)(t:TS):Prop:=
 ∀(pins:aK) (s:Shared) (σ:St) (H:Hp) (D:Ends),Inv X pins σ H s→t D σ H→wpAny (model X.prog X.w) X.A (execs st X.env) (SP X pins D) X.xe s
variable {M:Model} {A:Around} {E:aM} {s:Shared}
theorem aJ{α:Type}{t:Sem α}{Q Q':α→Shared→Prop}(h:wpAny M A t Q E s)(hQ:∀a s,Q a s→Q' a s):wpAny M A t Q' E s:=c_ h hQ fun _ _ x=>x
section
variable {X:Cx}
variable {pins:aK} {σ:St}
theorem bin{a b:Expr}{ta tb:TE}(ha:PE X a ta)(hb:PE X b tb){R:V→V→Hp→Prop}(I:Inv X pins σ H s)(h:ta σ H fun x H1=>tb σ H1 fun y H2=>R x y H2)
  {α:Type} {Q:α→Shared→Prop} {f:Value→Value→Sem α}
  (hf:∀v u s2 x y H2,Inv X pins σ H2 s2→RelV x v→RelV y u→R x y H2→wpAny (model X.prog X.w) X.A (f v u) Q X.xe s2) :
  wpAny (model X.prog X.w) X.A (eval a X.env) (fun v s₁=>wpAny (model X.prog X.w) X.A (eval b X.env) (fun u s₂=>wpAny (model X.prog X.w) X.A (f v u) Q X.xe s₂) X.xe s₁) X.xe s:=by
 refine aJ (ha pins s σ H _ I h) fun v s1 ⟨x,H1,I1,r1,q1⟩=>?_;refine aJ (hb pins s1 σ H1 _ I1 q1) fun u s2 ⟨y,H2,I2,r2,q2⟩=>?_;exact hf v u s2 x y H2 I2 r1 r2 q2
def zW(i:Nat):TE:=fun σ H Q=>∃v,σ[i]?=some (some v)∧Q v H
def tC(v:V):TE:=fun _ H Q=>Q v H
variable {x:Str} {pos:Pos}
theorem OX{i:Nat}(hN:X.N[i]?=some x)(hv:qh X.env.scope x)(hd:(x == ("__debug__":Str))=false:=by decide)(eF:(x == ("__classdict__":Str))=false:=by decide):PE X (.Name x pos) (zW i):=by
 intro pins s σ H Q I h;obtain ⟨v,e,h⟩:=h;obtain ⟨m,hn,hl⟩:=I.loc;obtain ⟨u,r,l⟩:=hl i x v hN e hv;have fin:EP X pins σ Q u s:=⟨v,H,I,r,h⟩;rcases l with ⟨hk,hm⟩ | ⟨hk,c,hc,m8⟩;·exact wpAny_Name (wpAny_loadName_local I.ok.kind hk hn hm fin) hd
 ·rcases hk with hk | hk
  ·exact wpAny_Name (wpAny_loadName_cell I.ok.kind hk hc m8 fin) hd
  ·exact wpAny_Name (wpAny_loadName_free I.ok.kind hk hc m8 fin eF) hd
theorem aD{i j pos}:PE X (.Constant (.int i) j pos) (tC (.int i)):=fun _ _ _ H _ I h=>wpAny_Constant_int ⟨.int i,H,I.tok _,⟨_,rfl⟩,h⟩
theorem fV{b j pos}:PE X (.Constant (.bool b) j pos) (tC (.bl b)):=fun _ _ _ H _ I h=>Constant_bool ⟨.bl b,H,I,rfl,h⟩
theorem tO{j pos}:PE X (.Constant .none j pos) (tC .aN):=fun _ _ _ H _ I h=>Constant_none ⟨.aN,H,I,rfl,h⟩
theorem xq{x j pos}:PE X (.Constant (.str x) j pos) (tC (.str x)):=fun _ _ _ H _ I h=>Calls.Constant_str ⟨.str x,H,I.tok _,⟨_,rfl⟩,h⟩
def Gl(X:Cx)(x:Str):Prop:=X.env.kindOf x=some .globalImplicit
variable {u:Value} {Q:aM}
theorem Dj(I:Inv X pins σ H s)(hg:Gl X x)(hm:X.mg x=some u)(h:Q u s)
  (hd:(x == ("__debug__":Str))=false:=by decide):wpAny (model X.prog X.w) X.A (eval (.Name x pos) X.env) Q E s:=
 Calls.Name_function_global I.ok.kind hg (Calls.loadGlobal_global (by rw [I.ok.glob];exact I.mod.glob.keeps I.bk) hm h) hd
theorem m9(I:Inv X pins σ H s)(hg:Gl X x)(hm:X.mg x=none)(hv:bootBuiltins x=some u)(h:Q u s)
  (hn:x ≠ "__name__":=by decide) (hd:(x == ("__debug__":Str))=false:=by decide):wpAny (model X.prog X.w) X.A (eval (.Name x pos) X.env) Q E s:=by
 obtain ⟨mb,h1,h2⟩:=I.mod.blt;exact Calls.Name_function_global I.ok.kind hg (Calls.loadGlobal_builtin (by rw [I.ok.glob];exact I.mod.glob.keeps I.bk) hm (by rw [I.ok.blt];exact h1.keeps I.bk) ((h2 x hn).trans hv) h) hd
theorem OY{v:V}(hg:Gl X x)(hm:X.mg x=some u)(r:RelV v u)(hd:(x == ("__debug__":Str))=false:=by decide):PE X (.Name x pos) (tC v):=
 fun _ _ _ H _ I h=>Dj I hg hm ⟨v,H,I,r,h⟩ hd
theorem Dk{v:V}(hg:Gl X x)(hm:X.mg x=none)(hv:bootBuiltins x=some u)(r:RelV v u)(hn:x ≠ "__name__":=by decide)(hd:(x == ("__debug__":Str))=false:=by decide):PE X (.Name x pos) (tC v):=
 fun _ _ _ H _ I h=>m9 I hg hm hv ⟨v,H,I,r,h⟩ hn hd
variable {a b:Expr} {ta tb:TE} {pos:Pos}
def PC(X:Cx)(op:CmpOp)(a b:Expr)(t:TE):Prop:=
 ∀(pins:aK) (s:Shared) (σ:St) (H:Hp) (Q:VK),Inv X pins σ H s→t σ H Q→
  wpAny (model X.prog X.w) X.A (eval a X.env) (fun v s₁=>wpAny (model X.prog X.w) X.A (eval b X.env) (fun u s₂=>wpAny (model X.prog X.w) X.A (compareOp op v u) (EP X pins σ Q) X.xe s₂) X.xe s₁) X.xe s
def tB(t:TE):TT:=fun σ H Q=>t σ H fun x H1=>∃c,x=.bl c∧Q c H1
variable {t:TE}
theorem zX{op:CmpOp}(h:PC X op a b t)(h1:behindInMarks op b=false:=by first | exact acw _ (by decide) (by decide) | rfl):PT X (.Compare a [op] [b] pos) (tB t):=by intro pins s σ H Q I hw;refine wpAny_isTrue_Compare1 (aJ (h pins s σ H _ I hw) fun v s1 h1=>aJ h1 fun u s2 h2=>aJ h2 fun c s3 ⟨x,H1,I1,r1,q1⟩=>?_) h1;obtain ⟨d,rfl,q⟩:=q1;cases r1;exact n6 ⟨H1,I1,q⟩
theorem jQ{e:Expr}(h:PE X e t)(he:∀whole,isTrue e X.env whole=(do let v ←whole;standAt e.pos;holding [v] (truthy v)):=by intro _;rfl):PT X e (tB t):=by
 intro pins s σ H Q I hw
 refine isTrue_plain (aJ (h pins s σ H _ I hw) fun v s1 ⟨x,H1,I1,r1,q1⟩=>?_) (he _)
 obtain ⟨d,rfl,q⟩:=q1
 cases r1
 exact n6 ⟨H1,I1,q⟩
variable {tA xr:TT} {rest:List Expr}
def OZ(t u:TT):TT:=fun σ H Q=>t σ H fun c H1=>if c=true then u σ H1 Q else Q false H1
def O0(t u:TT):TT:=fun σ H Q=>t σ H fun c H1=>if c=true then Q true H1 else u σ H1 Q
def HN(t:TT):TT:=fun σ H Q=>t σ H fun c H1=>Q (!c) H1
theorem pw_and1(ha:PT X a tA):PW X (.BoolOp .And [a] pos) tA:=by
 intro wh pins s σ H Q I h;refine isTrue_and (aJ (ha pins s σ H Q I h) fun c s1 e=>?_);cases c with
 | true=>exact isTrue_and_nil e
 | false=>exact e
theorem pw_or1(ha:PT X a tA):PW X (.BoolOp .Or [a] pos) tA:=by
 intro wh pins s σ H Q I h;refine isTrue_or (aJ (ha pins s σ H Q I h) fun c s1 e=>?_);cases c with
 | false=>exact isTrue_or_nil e
 | true=>exact e
theorem pw_and(ha:PT X a tA)(hb:PW X (.BoolOp .And (b::rest) pos) xr):PW X (.BoolOp .And (a::b::rest) pos) (OZ tA xr):=by
 intro wh pins s σ H Q I h;refine isTrue_and (aJ (ha pins s σ H _ I h) fun c s1 ⟨H1,I1,q1⟩=>?_);cases c with
 | true=>exact hb wh pins s1 σ H1 Q I1 q1
 | false=>exact ⟨H1,I1,q1⟩
theorem pw_or(ha:PT X a tA)(hb:PW X (.BoolOp .Or (b::rest) pos) xr):PW X (.BoolOp .Or (a::b::rest) pos) (O0 tA xr):=by
 intro wh pins s σ H Q I h;refine isTrue_or (aJ (ha pins s σ H _ I h) fun c s1 ⟨H1,I1,q1⟩=>?_);cases c with
 | true=>exact ⟨H1,I1,q1⟩
 | false=>exact hb wh pins s1 σ H1 Q I1 q1
theorem tP(ha:PT X a tA):PT X (.UnaryOp .Not a pos) (HN tA):=by intro pins s σ H Q I h;exact isTrue_not (ha pins s σ H (fun c H1=>Q (!c) H1) I h)
def O1(ta tb:TE):TE:=fun σ H Q=>ta σ H fun x H1=>∃c,x=.bl c∧if c=true then tb σ H1 Q else Q (.bl false) H1
def O2(ta tb:TE):TE:=fun σ H Q=>ta σ H fun x H1=>∃c,x=.bl c∧if c=true then Q (.bl true) H1 else tb σ H1 Q
def O3(ta:TE):TE:=fun σ H Q=>ta σ H fun x H1=>∃c,x=.bl c∧Q (.bl (!c)) H1
theorem Dm{op}(h:PE X a t):PE X (.BoolOp op [a] pos) t:=fun pins s σ H Q I hw=>BoolOp_one (h pins s σ H Q I hw)
theorem O4(ha:PE X a ta)(hb:PE X (.BoolOp .And (b::rest) pos) tb):PE X (.BoolOp .And (a::b::rest) pos) (O1 ta tb):=by
 intro pins s σ H Q I h;refine BoolOp_and (aJ (ha pins s σ H _ I h) fun v s1 ⟨x,H1,I1,r1,q1⟩=>?_);obtain ⟨c,rfl,q1⟩:=q1;cases r1;refine n6 ?_;cases c with
 | true=>exact hb pins s1 σ H1 Q I1 q1
 | false=>exact ⟨.bl false,H1,I1,rfl,q1⟩
theorem O5(ha:PE X a ta)(hb:PE X (.BoolOp .Or (b::rest) pos) tb):PE X (.BoolOp .Or (a::b::rest) pos) (O2 ta tb):=by
 intro pins s σ H Q I h;refine BoolOp_or (aJ (ha pins s σ H _ I h) fun v s1 ⟨x,H1,I1,r1,q1⟩=>?_);obtain ⟨c,rfl,q1⟩:=q1;cases r1;refine n6 ?_;cases c with
 | false=>exact hb pins s1 σ H1 Q I1 q1
 | true=>exact ⟨.bl true,H1,I1,rfl,q1⟩
theorem O6(ha:PE X a ta):PE X (.UnaryOp .Not a pos) (O3 ta):=by intro pins s σ H Q I h;refine UnaryOp_ (aJ (ha pins s σ H _ I h) fun v s1 ⟨x,H1,I1,r1,q1⟩=>?_);obtain ⟨c,rfl,q1⟩:=q1;cases r1;exact not_of (n6 ⟨.bl (!c),H1,I1,rfl,q1⟩)
end
def a7(K:aE)(H:Hp)(a:Addr)(xs:List V):Prop:=
 Rd H a (.lst xs) ∨
  ∃(o:Obj) (its:Array Value) (n:Nat),K.lookup a=some o∧o.cls=.type "list"∧o.dict=none∧o.data=.seq its n∧its.size≤sizeLine∧Vals xs its.toList
def gC(K:aE)(H:Hp)(a:Addr)(xs:List V):Prop:=
 Rd H a (.tup xs) ∨
  ∃(o:Obj) (its:Array Value) (n:Nat),K.lookup a=some o∧o.cls=.type "tuple"∧o.data=.seq its n∧its.size≤sizeLine∧Vals xs its.toList
def O7:Value→Option V
 | .none=>some .aN
 | .bool b=>some (.bl b)
 | .int i _=>some (.int i)
 | .str x _=>some (.str x)
 | .bytes b _=>some (.kC b)
 | .float b _=>some (.tM b)
 | .ref a=>some (.ref a)
 | .type n=>some (.ty n)
 | _=>none
variable {x:V} {u:Value}
theorem RelV.abs(r:RelV x u):O7 u=some x:=by
 cases x with
 | aN=>cases r;rfl
 | bl _=>cases r;rfl
 | int _=>obtain ⟨t,rfl⟩:=r;rfl
 | str _=>obtain ⟨t,rfl⟩:=r;rfl
 | kC _=>obtain ⟨t,rfl⟩:=r;rfl
 | tM _=>obtain ⟨t,rfl⟩:=r;rfl
 | ref _=>cases r;rfl
 | ty _=>cases r;rfl
theorem RelV.inj{y:V}(r:RelV x u)(q:RelV y u):x=y:=Option.some.inj (r.abs.symm.trans q.abs)
theorem Vals.inj:∀{xs ys:List V} {us:List Value},Vals xs us→Vals ys us→xs=ys
 | _,_,_,.nil,.nil=>rfl
 | _,_,_,.cons r t,.cons r' t'=>by rw [r.inj r',Vals.inj t t']
section
variable {X:Cx} {pins:aK} {σ:St} {H:Hp} {s:Shared} {a:Addr} {xs ys:List V}
variable {K:aE}
theorem a7.of(h:H a=some (.lst xs)):a7 K H a xs:=.inl (.inl h)
theorem gC.of(h:H a=some (.tup xs)):gC K H a xs:=.inl (.inl h)
theorem Inv.list(I:Inv X pins σ H s)(h:a7 X.K H a xs):∃its:List Value,Vals xs its∧PlainL s.heap a its.toArray∧xs.length≤sizeLine:=by
 rcases h with h | ⟨o,its,n,hk,hc,hd,hs,hz,r⟩
 ·obtain ⟨z,its,n,r,e⟩:=h.ok I.ay
  exact ⟨its,r,⟨_,n,e,rfl,rfl,rfl⟩,z⟩
 ·refine ⟨its.toList,r,⟨o,n,I.ft a o hk,hc,hd,by simpa using hs⟩,?_⟩
  have e:=r.length;simp only [gM] at e;lia
theorem Inv.tuple(I:Inv X pins σ H s)(h:gC X.K H a xs):∃its:List Value,Vals xs its∧IsTup s.heap a its.toArray∧xs.length≤sizeLine:=by
 rcases h with h | ⟨o,its,n,hk,hc,hs,hz,r⟩
 ·obtain ⟨z,its,r,p⟩:=h.ok I.ay
  exact ⟨its,r,p,z⟩
 ·refine ⟨its.toList,r,⟨o,I.ft a o hk,hc,n,by simpa using hs⟩,?_⟩
  have e:=r.length;simp only [gM] at e;lia
theorem Inv.HP(I:Inv X pins σ H s)(h:a7 X.K H a xs)(h':a7 X.K H a ys):xs=ys:=by
 obtain ⟨its,r,⟨o,n,e,_,_,d⟩,_⟩:=I.list h;obtain ⟨its',r',⟨o',n',e',_,_,d'⟩,_⟩:=I.list h';rw [e] at e';cases e';rw [d] at d';injection d' with d1 _;have:its=its':=by simpa using dP Array.toList d1
 subst this;exact r.inj r'
theorem Inv.O8(I:Inv X pins σ H s)(h:gC X.K H a xs)(h':gC X.K H a ys):xs=ys:=by
 obtain ⟨its,r,⟨o,e,_,n,d⟩,_⟩:=I.tuple h;obtain ⟨its',r',⟨o',e',_,n',d'⟩,_⟩:=I.tuple h';rw [e] at e';cases e';rw [d] at d';injection d' with d1 _;have:its=its':=by simpa using dP Array.toList d1
 subst this;exact r.inj r'
end
abbrev Cx.lO (X:Cx) (E:aM):Cx:={X with xe:=E}
abbrev Cx.m_ (X:Cx):Cx:=X.lO fun _ _=>False
theorem Cx.Ok.lO(ok:X.Ok)(E:aM):(X.lO E).Ok:=
 ⟨ok.mod,ok.kind,ok.glob,ok.blt,ok.above,ok.inj,ok.has,ok.qi,ok.hd,ok.frames,ok.jj,ok.Hm,ok.bs,ok.jl,ok.qj,ok.qk,ok.kF,ok.oB⟩
theorem Cx.Ok.oD(ok:(X.lO E).Ok):X.Ok:=
 ⟨ok.mod,ok.kind,ok.glob,ok.blt,ok.above,ok.inj,ok.has,ok.qi,ok.hd,ok.frames,ok.jj,ok.Hm,ok.bs,ok.jl,ok.qj,ok.qk,ok.kF,ok.oB⟩
section
variable {X:Cx} {pins:aK} {σ:St} {H:Hp} {s:Shared} {E:aM}
theorem Inv.lO(I:Inv X pins σ H s)(E:aM):Inv (X.lO E) pins σ H s:=⟨I.ok.lO E,I.os,I.bare,I.base,I.loc,I.cell,I.free,I.jP,I.pin,I.ay,I.len⟩
theorem Inv.oD(I:Inv (X.lO E) pins σ H s):Inv X pins σ H s:=⟨I.ok.oD,I.os,I.bare,I.base,I.loc,I.cell,I.free,I.jP,I.pin,I.ay,I.len⟩
theorem SP.oD{D:Ends}{f:Flow}{s':Shared}(h:SP (X.lO E) pins D f s'):SP X pins D f s':=by
 cases f with
 | next=>obtain ⟨σ',H',I,q⟩:=h;exact ⟨σ',H',I.oD,q⟩
 | brk=>obtain ⟨σ',H',I,q⟩:=h;exact ⟨σ',H',I.oD,q⟩
 | cont=>obtain ⟨σ',H',I,q⟩:=h;exact ⟨σ',H',I.oD,q⟩
 | ret u=>obtain ⟨v,σ',H',I,r,q⟩:=h;exact ⟨v,σ',H',I.oD,r,q⟩
theorem fE.m_{st:List Stmt}{t:TS}(h:fE X.m_ st t):fE X st t:=fun pins s σ H D I hw=>c_ (h pins s σ H D (I.lO _) hw) (fun _ _ q=>q.oD) fun _ _ z=>False.elim z
end
section
variable {X:Cx} {st:Stmt} {rest:List Stmt} {t u:TS} {e:Expr} {te:TE} {pos:Pos}
def iQ:TS:=fun D σ H=>D.nx σ H
def Dn(t u:TS):TS:=fun D σ H=>t {D with nx:=u D} σ H
theorem cT:fE X [] iQ:=fun _ _ σ H _ I h=>zA ⟨σ,H,I,h⟩
theorem aB(h1:PS X st t)(h2:fE X rest u):fE X (st::rest) (Dn t u):=by
 intro pins s σ H D I h;refine wpAny_execs_cons (aJ (h1 pins s σ H {D with nx:=u D} I h) fun f s1 q=>?_);cases f with
 | next=>obtain ⟨σ',H',I',q⟩:=q;exact h2 pins s1 σ' H' D I' q
 | ret v=>exact q
 | brk=>exact q
 | cont=>exact q
theorem aF(h1:PS X st t):fE X [st] t:=by
 intro pins s σ H D I h;refine wpAny_execs_cons (aJ (h1 pins s σ H D I h) fun f s1 q=>?_);cases f with
 | next=>exact zA q
 | ret v=>exact q
 | brk=>exact q
 | cont=>exact q
theorem Inv.quiet{pins:aK}{σ:St}(I:Inv X pins σ H s):interactive X.env=false:=by simp [interactive,I.ok.kind]
def O9(te:TE):TS:=fun D σ H=>te σ H fun _ H1=>D.nx σ H1
theorem fW(he:PE X e te)(hs:swapsWith e none pos.line X.env=pure false:=by rfl):PS X (.Expr e pos) (O9 te):=by intro pins s σ H D I h;exact wpAny_Expr_any (aJ (he pins s σ H _ I h) fun v s1 ⟨x,H1,I1,r1,q1⟩=>⟨σ,H1,I1,q1⟩) I.quiet hs
def HQ(te:TE):TS:=fun D σ H=>te σ H D.rt
theorem bH(he:PE X e te):PS X (.Return (some e) pos) (HQ te):=by intro pins s σ H D I h;exact wpAny_Return_some (aJ (he pins s σ H _ I h) fun v s1 ⟨x,H1,I1,r1,q1⟩=>⟨x,σ,H1,I1,r1,q1⟩)
def zY(c:TT)(t u:TS):TS:=fun D σ H=>c σ H fun b H1=>if b=true then t D σ H1 else u D σ H1
theorem cK{c:Expr}{a b:List Stmt}{tc:TT}(hc:PT X c tc)(ha:fE X a t)(hb:fE X b u):PS X (.If c a b pos) (zY tc t u):=by
 intro pins s σ H D I h;refine wpAny_If (aJ (hc pins s σ H _ I h) fun d s1 ⟨H1,I1,q1⟩=>?_);cases d with
 | true=>exact ha pins s1 σ H1 D I1 q1
 | false=>exact hb pins s1 σ H1 D I1 q1
end
abbrev TG:=V→St→Hp→(St→Hp→Prop)→Prop
abbrev qo:=List V→St→Hp→(St→Hp→Prop)→Prop
def PG(X:Cx)(target:Expr)(t:TG):Prop:=
 ∀(pins:aK) (s:Shared) (σ:St) (H:Hp) (v:V) (u:Value) (Q:St→Hp→Prop),Inv X pins σ H s→RelV v u→t v σ H Q→
  wpAny (model X.prog X.w) X.A (assign target X.env u) (fun _ s'=>∃σ' H',Inv X pins σ' H' s'∧Q σ' H') X.xe s
def zZ(X:Cx)(ts:List Expr)(t:qo):Prop:=
 ∀(pins:aK) (s:Shared) (σ:St) (H:Hp) (vs:List V) (us:List Value) (Q:St→Hp→Prop),Inv X pins σ H s→Vals vs us→t vs σ H Q→
  wpAny (model X.prog X.w) X.A (assignInOrder ((assignEach ts X.env).map (·.2)) us) (fun _ s'=>∃σ' H',Inv X pins σ' H' s'∧Q σ' H') X.xe s
abbrev xt:=V→V→V→Hp→(Hp→Prop)→Prop
def Dq(X:Cx)(t:xt):Prop:=
 ∀(pins:aK) (s:Shared) (σ:St) (H:Hp) (o i v:V) (ov iv u:Value) (Q:Hp→Prop),Inv X pins σ H s→RelV o ov→RelV i iv→RelV v u→t o i v H Q→
  wpAny (model X.prog X.w) X.A (setItem ov iv u) (fun _ s'=>∃H',Inv X pins σ H' s'∧Q H') X.xe s
abbrev z5:=V→V→Hp→VK→Prop
def HR(X:Cx)(op:Operator)(t:z5):Prop:=
 ∀(pins:aK) (s:Shared) (σ:St) (H:Hp) (x y:V) (v u:Value) (Q:VK),Inv X pins σ H s→RelV x v→RelV y u→t x y H Q→
  wpAny (model X.prog X.w) X.A (inplaceOp op v u) (EP X pins σ Q) X.xe s
section
variable {X:Cx} {pos:Pos}
def aO(i:Nat):TG:=fun v σ H Q=>Q (σ.set i (some v)) H
variable {i:Nat}
theorem cU{x:Str}(hN:X.N.Nodup)(hi:X.N[i]?=some x)(hx:Loc X.env.scope x)(hf:X.fn x=true∨X.env.scope.names.lookup x=some .local:=by first | exact .inl rfl | exact .inr rfl | assumption):PG X (.Name x pos) (aO i):=by intro pins s σ H v u Q I r h;exact wpAny_assign_Name (HM I hN hi hx r (fun s' I'=>⟨_,H,I',h⟩) hf)
def O_:qo:=fun vs σ H Q=>vs=[]∧Q σ H
def Pa(t:TG)(u:qo):qo:=fun vs σ H Q=>∃v r,vs=v::r∧t v σ H fun σ' H'=>u r σ' H' Q
theorem qp:zZ X [] O_:=by intro pins s σ H vs us Q I r h;obtain ⟨e,h⟩:=h;subst e;cases r;exact assignInOrder_nil ⟨σ,H,I,h⟩
variable {e:Expr} {es:List Expr}
theorem iR{t:TG}{u:qo}(h1:PG X e t)(h2:zZ X es u)
  (hs:(assignEach (e::es) X.env).map (·.2)=assign e X.env::(assignEach es X.env).map (·.2):=by rfl):zZ X (e::es) (Pa t u):=by
 intro pins s σ H vs us Q I r h;obtain ⟨v,vr,e1,h⟩:=h;subst e1;cases r with
 | cons r rr=>rw [hs];refine assignInOrder_cons (aJ (h1 pins s σ H _ _ _ I r h) fun _ s1 ⟨σ1,H1,I1,q1⟩=>?_);exact h2 pins s1 σ1 H1 _ _ Q I1 rr q1
def Pb(K:aE)(n:Nat)(t:qo):TG:=fun v σ H Q=>∃a xs,v=.ref a∧gC K H a xs∧xs.length=n∧t xs σ H Q
theorem qq{k:Nat}{t:qo}{n:Nat}(hc:X.calm=true)(h:zZ X es t)
  (hn:(assignEach es X.env).length=n:=by rfl) (Pc:(assignEach es X.env).findIdx? (·.1)=none:=by rfl):PG X (.Tuple es k pos) (Pb X.K n t):=by
 intro pins s σ H v u Q I r hw;obtain ⟨a,xs,e1,hq,hl,hw⟩:=hw;subst e1;cases r;obtain ⟨its,rv,ht,hz⟩:=I.tuple hq;refine assign_Tuple_tuple (I.ok.hd hc) ht (by simp [hn,←hl,rv.length]) Pc fun h' hx=>?_
 have I1:Inv X pins σ H {s with heap:=h'}:=I.kept (t':=s.toks) fun b o e=>hx b o (cq (aZ e)) e;exact h pins _ σ H xs _ Q I1 (by simpa using rv) hw
def Pd(to ti:TE)(t:xt):TG:=fun v σ H Q=>to σ H fun o H1=>ti σ H1 fun i H2=>t o i v H2 fun H3=>Q σ H3
theorem xu{o i:Expr}{to ti:TE}{t:xt}(ho:PE X o to)(hi:PE X i ti)(hs:Dq X t)
  (ha:∀v,assign (.Subscript o i pos) X.env v=(do
   let ov ←holding [v] (eval o X.env)
   let iv ←holding [v,ov] (eval i X.env)
   standAt pos
   holding [v,ov,iv] (setItem ov iv v)
   release [v,ov,iv] []):=by intro _;rfl):PG X (.Subscript o i pos) (Pd to ti t):=by
 intro pins s σ H v u Q I r h
 rw [ha]
 refine bo (sX (aJ (ho pins s σ H _ I h) fun ov s1 ⟨x,H1,I1,r1,q1⟩=>?_))
 refine bo (sX (aJ (hi pins s1 σ H1 _ I1 q1) fun iv s2 ⟨y,H2,I2,r2,q2⟩=>?_))
 refine bo (wR (bo (sX (aJ (hs pins s2 σ H2 x y v ov iv u _ I2 r1 r2 r q2) fun _ s3 ⟨H3,I3,q3⟩=>?_))))
 exact wpAny_release ⟨σ,H3,I3,q3⟩
def oE(te:TE)(g:TG):TS:=fun D σ H=>te σ H fun x H1=>g x σ H1 D.nx
theorem tQ{tg e:Expr}{te:TE}{g:TG}(he:PE X e te)(hg:PG X tg g)(hs:swapsWithSole [tg] e pos.line X.env=pure false:=by rfl)(hw:swappedStores [tg] e X.env=pure none:=by rfl)
  (h1:(assignEach [tg] X.env).map (·.2)=[assign tg X.env]:=by rfl):PS X (.Assign [tg] e pos) (oE te g):=by
 intro pins s σ H D I h;refine wpAny_Assign_stores (aJ (he pins s σ H _ I h) fun v s1 ⟨x,H1,I1,r1,q1⟩=>?_) hs hw;rw [h1];exact aJ (hg pins s1 σ H1 x v _ I1 r1 q1) fun _ s2 q=>q
theorem Pe{x:Str}{te:TE}{pos':Pos}(hN:X.N.Nodup)(hi:X.N[i]?=some x)(hx:Loc X.env.scope x)(he:PE X e te)(hs:swapsWith e (some (.Name x pos')) pos.line X.env=pure false:=by rfl)(hf:X.fn x=true∨X.env.scope.names.lookup x=some .local:=by first | exact .inl rfl | exact .inr rfl | assumption) :
  PS X (.Assign [.Name x pos'] e pos) (oE te (aO i)):=by
 intro pins s σ H D I h;refine wpAny_Assign_Name (aJ (he pins s σ H _ I h) fun v s1 ⟨y,H1,I1,r1,q1⟩=>?_) hs;exact HM I1 hN hi hx r1 (fun s2 I2=>⟨_,H1,I2,q1⟩) hf
def Pf(to ti te:TE)(z6:V→V→Hp→VK→Prop)(z7:z5)(z8:xt):TS:=fun D σ H=>to σ H fun o H1=>ti σ H1 fun i H2=>z6 o i H2 fun x H3=>te σ H3 fun y H4=>z7 x y H4 fun z H5=>z8 o i z H5 fun H6=>D.nx σ H6
def HS(X:Cx)(t:V→V→Hp→VK→Prop):Prop:=
 ∀(pins:aK) (s:Shared) (σ:St) (H:Hp) (o i:V) (ov iv:Value) (Q:VK),Inv X pins σ H s→RelV o ov→RelV i iv→t o i H Q→
  wpAny (model X.prog X.w) X.A (getItem ov iv) (EP X pins σ Q) X.xe s
theorem Pg{o i e:Expr}{to ti te:TE}{z6:V→V→Hp→VK→Prop}{z7:z5}{z8:xt}{op:Operator}{tR:Pos}(ho:PE X o to)(hi:PE X i ti)(hg:HS X z6)(he:PE X e te)(hp:HR X op z7)(hs:Dq X z8)
  (ha:∀ov iv new,augStore i ov iv new=(do holding [new,ov,iv] (setItem ov iv new);release [new,ov,iv] [];pure .next):=by intros;rfl):PS X (.AugAssign (.Subscript o i tR) op e pos) (Pf to ti te z6 z7 z8):=by
 intro pins s σ H D I h
 refine wpAny_AugAssign_SubscriptAny (aJ (ho pins s σ H _ I h) fun ov s1 ⟨x1,H1,I1,r1,q1⟩=>?_) ha
 refine aJ (hi pins s1 σ H1 _ I1 q1) fun iv s2 ⟨x2,H2,I2,r2,q2⟩=>?_
 refine aJ (hg pins s2 σ H2 x1 x2 ov iv _ I2 r1 r2 q2) fun old s3 ⟨x3,H3,I3,r3,q3⟩=>?_
 refine aJ (he pins s3 σ H3 _ I3 q3) fun v s4 ⟨x4,H4,I4,r4,q4⟩=>?_
 refine aJ (hp pins s4 σ H4 x3 x4 old v _ I4 r3 r4 q4) fun new s5 ⟨x5,H5,I5,r5,q5⟩=>?_
 exact aJ (hs pins s5 σ H5 x1 x2 x5 ov iv new _ I5 r1 r2 r5 q5) fun _ s6 ⟨H6,I6,q6⟩=>⟨σ,H6,I6,q6⟩
def Ph(f:Int→Int→Int):z5:=fun x y H Q=>∃i j,x=.int i∧y=.int j∧Q (.int (f i j)) H
theorem Pj:HR X .Add (Ph fun i j=>i+j):=by intro pins s σ H x y v u Q I r1 r2 h;obtain ⟨i,j,e1,e2,q⟩:=h;subst e1;subst e2;obtain ⟨t,rfl⟩:=r1;obtain ⟨t',rfl⟩:=r2;exact iadd_int ⟨.int _,H,I.tok _,⟨_,rfl⟩,q⟩
end
section
variable {X:Cx} {pos:Pos}
def Pl(c:TT)(tb:TS):TS:=fun D σ H=>∃W:Nat→St→Hp→Prop,(∃m,W m σ H)∧∀m σ H,W m σ H→
 c σ H fun b H1=>if b=true then ∃N:St→Hp→Prop,(∀σ' H',N σ' H'→∃m',m'<m∧W m' σ' H')∧tb {D with nx:=N,ct:=N,bk:=D.nx} σ H1 else D.nx σ H1
theorem tS{c:Expr}{body:List Stmt}{tc:TT}{tb:TS}(hp:PassesOwn (model X.prog X.w) X.A X.env X.xe)(hc:PT X c tc)(hb:fE X body tb):PS X (.While c body [] pos) (Pl tc tb):=by
 intro pins s σ H D I h;obtain ⟨W,⟨m0,w0⟩,turn⟩:=h;refine wpAny_While (codeAny_whileLoop (fun n s'=>∃σ' H',Inv X pins σ' H' s'∧W n σ' H') ?_ m0 ⟨σ,H,I,w0⟩);rintro n s1 ⟨σ1,H1,I1,w1⟩;refine pS hp (aJ (hc pins s1 σ1 H1 _ I1 (turn n σ1 H1 w1)) fun b s2 ⟨H2,I2,q2⟩=>?_);cases b with
 | true=>
  obtain ⟨N,hN,q2⟩:=q2;rw [ae rfl];refine pS hp (aJ (hb pins s2 σ1 H2 _ I2 q2) fun f s3 q3=>?_);cases f with
  | next=>obtain ⟨σ3,H3,I3,n3⟩:=q3;obtain ⟨m',hm,w3⟩:=hN σ3 H3 n3;exact ⟨m',hm,σ3,H3,I3,w3⟩
  | cont=>obtain ⟨σ3,H3,I3,n3⟩:=q3;obtain ⟨m',hm,w3⟩:=hN σ3 H3 n3;exact ⟨m',hm,σ3,H3,I3,w3⟩
  | brk=>exact q3
  | ret v=>exact q3
 | false=>rw [aa dA];exact zA ⟨σ1,H2,I2,q2⟩
end
structure It where
 go:Nat→Hp→Prop
 eY:Nat→Hp→V→Hp→Prop
 stop:Nat→Hp→Prop
def ng(X:Cx)(pins:aK)(H:Hp)(b:Addr):Prop:=
 H b=none∧b≠X.env.locals∧b∉X.fs∧(b∈X.ex∨X.s₀.heap.objs.size≤b)∧(∀x c,X.env.cells.lookup x=some c→c≠b)∧∀p∈X.pn++pins,p.1≠b
variable {σ:St}
theorem Inv.xw{pins:aK}{H':Hp}(I:Inv X pins σ H s)(hb:s.heap.objs.size≤b)(hn:H' b=none):ng X pins H' b:=by
 refine ⟨hn,Nat.ne_of_gt (dX I.lt hb),I.OR hb,.inr (bR I.sz hb),fun x c e z=>?_,fun p hp z=>?_⟩
 ·obtain ⟨v,q⟩:=I.cell x c e
  exact absurd (dX q.lt (by rw [z];exact hb)) (eE _)
 ·exact absurd (dX (aZ (I.pin p hp).1) (by rw [z];exact hb)) (eE _)
structure Turn (P:Program) (w:World) (K:aE) (tg:Expr) (J:It) (fp:List Addr) (it:Addr) (tn:Nat→Heap→Prop):Prop where
 mem:it∈fp
 obj:∀i h,tn i h→∀b∈fp,∃o,h.get? b=some o∧∀v,o.data≠.cell v
 keep:∀i h h',tn i h→(∀b∈fp,∀o,h.get? b=some o→h'.get? b=some o)→tn i h'
 item:∀(X:Cx),X.prog=P→X.w=w→X.K=K→X.calm=true→∀(i:Nat) (pins:aK) (s:Shared) (σ:St) (H:Hp) (E:aM),Inv X pins σ H s→(∀b∈fp,ng X pins H b)→tn i s.heap→J.go i H→
  wpAny (model P w) X.A (pyNext (.ref it)) (fun r s1=>∃u,r=some u ∧
   wpAny (model P w) X.A (letOwnedTupleGo tg (.ref it) u) (fun _ s2=>∃x H',Inv X pins σ H' s2∧RelV x u∧J.eY i H x H'∧tn (i+1) s2.heap∧∀b∈fp,H' b=none) E s1) E s
 done:∀(X:Cx),X.prog=P→X.w=w→X.K=K→X.calm=true→∀(i:Nat) (pins:aK) (s:Shared) (σ:St) (H:Hp) (E:aM),Inv X pins σ H s→(∀b∈fp,ng X pins H b)→tn i s.heap→J.stop i H→
  wpAny (model P w) X.A (pyNext (.ref it)) (fun r s1=>r=none∧Inv X pins σ H s1) E s
 self:∀(A:Around) (i:Nat) (s:Shared) (Q:aM) (E:aM),tn i s.heap→Q (.ref it) s→wpAny (model P w) A (pyIter (.ref it)) Q E s
abbrev TI:=St→Hp→(It→Hp→Prop)→Prop
def Ds(X:Cx)(pins:aK)(σ:St)(tg:Expr)(R:It→Hp→Prop)(xx:Value)(s2:Shared):Prop:=
 ∃(it:Addr) (fp:List Addr) (tn:Nat→Heap→Prop) (J:It) (H':Hp),xx=.ref it∧Inv X pins σ H' s2∧Turn X.prog X.w X.K tg J fp it tn∧tn 0 s2.heap∧(∀b∈fp,ng X pins H' b)∧R J H'
def PI(X:Cx)(tg iter:Expr)(wi:TI):Prop:=
 ∀(pins:aK) (s:Shared) (σ:St) (H:Hp) (R:It→Hp→Prop),Inv X pins σ H s→wi σ H R→
  wpAny (model X.prog X.w) X.A (eval iter X.env) (fun v s1=>wpAny (model X.prog X.w) X.A (pyIter v) (Ds X pins σ tg R) X.xe s1) X.xe s
variable {tg:Expr}
theorem z9{it:Addr}{o:Obj}{n:String}{vs:Array Value}{Q:Unit→Shared→Prop}(ho:s.heap.get? it=some o)(hc:o.cls=.type n)(hd:o.data=.fields vs)
    (hn:["enumerate","zip","dict_itemiterator","dict_reverseitemiterator","odict_iterator","itertools.zip_longest","itertools.pairwise"].contains n=false) (hQ:Q () s):wpAny M A (letOwnedTupleGo tg (.ref it) u) Q E s:=by
  unfold letOwnedTupleGo
  cases tg <;> first
    | exact dB hQ
    | (cases u <;> first
        | exact dB hQ
        | (refine bo (wpAny_load ho ?_)
           rw [hc,hd];show wpAny M A (if (["enumerate","zip","dict_itemiterator","dict_reverseitemiterator","odict_iterator","itertools.zip_longest","itertools.pairwise"].contains n && vs[0]? == some (rawInt _))=true then _ else _) Q E s
           rw [aa (by intro h;rw [hn,wU] at h;cases h)]
           exact dB hQ))
def qr(K:aE)(a:Addr):It:=
 ⟨fun i H=>∃xs x,a7 K H a xs∧xs[i]?=some x,fun i H x H'=>H'=H∧∀xs,a7 K H a xs→xs[i]?=some x,fun i H=>∃xs,a7 K H a xs∧xs.length≤i⟩
def ni(K:aE)(a:Addr):It:=
 ⟨fun i H=>∃xs x,gC K H a xs∧xs[i]?=some x,fun i H x H'=>H'=H∧∀xs,gC K H a xs→xs[i]?=some x,fun i H=>∃xs,gC K H a xs∧xs.length≤i⟩
def nk(lo:Int)(n:Nat):It:=⟨fun i _=>i<n,fun i H x H'=>H'=H∧x=.int (lo+i),fun i _=>n≤i⟩
variable {K:aE}
theorem Pm(a it:Addr):Turn P w K tg (qr K a) [it] it (fun i h=>h.IsListIter it a i) where
 mem:=by simp
 obj:=fun i h st b hb=>by
  have e:b=it:=by simpa using hb
  subst e;obtain ⟨o,e,c,d⟩:=st;exact ⟨o,e,fun v z=>by rw [d] at z;cases z⟩
 keep:=fun i h h' st k=>st.at fun o e=>k it (by simp) o e
 item:=by
  intro X hP hw hK hc i pins s σ H E I hf st hg;subst hP hw hK;obtain ⟨xs,x,hq,hx⟩:=hg;obtain ⟨its,rv,p,hz⟩:=I.list hq;obtain ⟨u,hu,ru⟩:=rv.get hx;obtain ⟨f0,f1,f2,f3,f4,f5⟩:=hf it (by simp)
  refine wpAny_pyNext_list_item st p.isList (x:=u) (by simpa using hu) fun h' aw sb=>?_
  have I1:Inv X pins σ H {s with heap:=h'}:=I.turned (t':=s.toks) (fun b o hb e=>(sb.2 b hb).trans e) f0 f1 f3 f4 f5;obtain ⟨o,e,c,d⟩:=id aw;exact ⟨u,rfl,z9 (s:={s with heap:=h'}) e c d (by decide) ⟨x,H,I1,ru,⟨rfl,fun ys hy=>by rw [I.HP hy hq];exact hx⟩,aw,fun b hb=>(hf b hb).1⟩⟩
 done:=by
  intro X hP hw hK hc i pins s σ H E I hf st hg;subst hP hw hK;obtain ⟨xs,hq,hx⟩:=hg;obtain ⟨its,rv,p,hz⟩:=I.list hq;obtain ⟨f0,f1,f2,f3,f4,f5⟩:=hf it (by simp)
  have hl:=rv.length;exact wpAny_pyNext_list_end (I.ok.hd hc) st p.isList (by simp;lia) fun h' eb=>⟨rfl,I.turned (t':=s.toks) (fun b o hb e=>eb b o hb e) f0 f1 f3 f4 f5⟩
 self:=fun _ _ _ _ _ st h=>wpAny_pyIter_listiter st h
theorem Pn(a it:Addr):Turn P w K tg (ni K a) [it] it (fun i h=>h.IsTupleIter it a i) where
 mem:=by simp
 obj:=fun i h st b hb=>by
  have e:b=it:=by simpa using hb
  subst e;obtain ⟨o,e,c,d⟩:=st;exact ⟨o,e,fun v z=>by rw [d] at z;cases z⟩
 keep:=fun i h h' st k=>st.at fun o e=>k it (by simp) o e
 item:=by
  intro X hP hw hK hc i pins s σ H E I hf st hg;subst hP hw hK;obtain ⟨xs,x,hq,hx⟩:=hg;obtain ⟨its,rv,p,hz⟩:=I.tuple hq;obtain ⟨u,hu,ru⟩:=rv.get hx;obtain ⟨f0,f1,f2,f3,f4,f5⟩:=hf it (by simp)
  refine wpAny_pyNext_tuple_item st (show s.heap.IsTuple a its.toArray from p) (x:=u) (by simpa using hu) fun h' aw sb=>?_
  have I1:Inv X pins σ H {s with heap:=h'}:=I.turned (t':=s.toks) (fun b o hb e=>(sb.2 b hb).trans e) f0 f1 f3 f4 f5;obtain ⟨o,e,c,d⟩:=id aw;exact ⟨u,rfl,z9 (s:={s with heap:=h'}) e c d (by decide) ⟨x,H,I1,ru,⟨rfl,fun ys hy=>by rw [I.O8 hy hq];exact hx⟩,aw,fun b hb=>(hf b hb).1⟩⟩
 done:=by
  intro X hP hw hK hc i pins s σ H E I hf st hg;subst hP hw hK;obtain ⟨xs,hq,hx⟩:=hg;obtain ⟨its,rv,p,hz⟩:=I.tuple hq;obtain ⟨f0,f1,f2,f3,f4,f5⟩:=hf it (by simp)
  have hl:=rv.length;exact wpAny_pyNext_tuple_end (I.ok.hd hc) st (show s.heap.IsTuple a its.toArray from p) (by simp;lia) fun h' eb=>⟨rfl,I.turned (t':=s.toks) (fun b o hb e=>eb b o hb e) f0 f1 f3 f4 f5⟩
 self:=fun _ _ _ _ _ st h=>wpAny_pyIter_tupleiter st h
theorem Po(it:Addr)(lo:Int)(n:Nat):Turn P w K tg (nk lo n) [it] it (fun i h=>IsRangeIter h it (lo+(i:Nat)*1) ((n:Int)-(i:Nat)) 1) where
 mem:=by simp
 obj:=fun i h st b hb=>by
  have e:b=it:=by simpa using hb
  subst e;exact ⟨_,st,fun v z=>by have z':Data.fields _=Data.cell v:=z;cases z'⟩
 keep:=fun i h h' st k=>k it (by simp) _ st
 item:=by
  intro X hP hw hK hc i pins s σ H E I hf st hg;subst hP hw hK;obtain ⟨f0,f1,f2,f3,f4,f5⟩:=hf it (by simp)
  have W:=Walks.range (prog:=X.prog) (w:=X.w) (I.ok.hd hc) it lo 1 n;refine W.item i s _ _ hg st fun v h' tk hv aw kk=>?_;obtain ⟨t,rfl⟩:=hv;have I1:Inv X pins σ H {s with heap:=h',toks:=tk}:=I.turned (fun b o hb e=>kk b o (by simpa using hb) e) f0 f1 f3 f4 f5
  refine ⟨_,rfl,z9 (s:={s with heap:=h',toks:=tk}) (n:="range_iterator") aw rfl rfl (by decide) ⟨.int (lo+i),H,I1,⟨t,?_⟩,⟨rfl,rfl⟩,aw,fun b hb=>(hf b hb).1⟩⟩
  rw [Int.mul_one]
 done:=by
  intro X hP hw hK hc i pins s σ H E I hf st hg;subst hP hw hK;obtain ⟨f0,f1,f2,f3,f4,f5⟩:=hf it (by simp)
  exact wpAny_pyNext_range_end (I.ok.hd hc) st (by have:n≤i:=hg;lia) fun h' eb=>⟨rfl,I.turned (t':=s.toks) (fun b o hb e=>eb b o hb e) f0 f1 f3 f4 f5⟩
 self:=fun _ _ _ _ _ st h=>wpAny_pyIter_rangeiter st h
section
variable {X:Cx} {tg:Expr}
def HU(K:aE)(tl:TE):TI:=fun σ H R=>tl σ H fun x H1=>∃a,x=.ref a∧(∃xs,a7 K H1 a xs)∧R (qr K a) H1
def Pp(K:aE)(tl:TE):TI:=fun σ H R=>tl σ H fun x H1=>∃a,x=.ref a∧(∃xs,gC K H1 a xs)∧R (ni K a) H1
variable {l:Expr} {tl:TE}
theorem fu(hl:PE X l tl):PI X tg l (HU X.K tl):=by
 intro pins s σ H R I h;refine aJ (hl pins s σ H _ I h) fun v s1 ⟨x,H1,I1,r1,q1⟩=>?_;obtain ⟨a,e,⟨xs,hq⟩,q⟩:=q1;subst e;cases r1;obtain ⟨its,rv,p,hz⟩:=I1.list hq;refine zB p.isList ?_;refine ⟨s1.heap.objs.size,[s1.heap.objs.size],_,_,H1,rfl,I1.kept (t':=s1.toks) fun b o e=>cg _ e,Pm a _,⟨_,eX _ rfl,rfl,rfl⟩,fun b hb=>?_,q⟩;have e:b=s1.heap.objs.size:=by simpa using hb
 subst e;exact I1.xw (ax _) (I1.ay.fresh (ax _))
theorem tT(hl:PE X l tl):PI X tg l (Pp X.K tl):=by
 intro pins s σ H R I h;refine aJ (hl pins s σ H _ I h) fun v s1 ⟨x,H1,I1,r1,q1⟩=>?_;obtain ⟨a,e,⟨xs,hq⟩,q⟩:=q1;subst e;cases r1;obtain ⟨its,rv,p,hz⟩:=I1.tuple hq;refine wpAny_pyIter_tuple (show s1.heap.IsTuple a its.toArray from p) ?_;refine ⟨s1.heap.objs.size,[s1.heap.objs.size],_,_,H1,rfl,I1.kept (t':=s1.toks) fun b o e=>cg _ e,Pn a _,⟨_,eX _ rfl,rfl,rfl⟩,fun b hb=>?_,q⟩;have e:b=s1.heap.objs.size:=by simpa using hb
 subst e;exact I1.xw (ax _) (I1.ay.fresh (ax _))
variable {pins:aK}
theorem HV{R:It→Hp→Prop}{lo hi:Int}{t u v:Tok}{tk:Nat}(I:Inv X pins σ H s)(h1:-(2 ^ 62)≤lo)(h2:lo<2 ^ 62)(h3:-(2 ^ 62)≤hi)(h4:hi<2 ^ 62)
  (q:R (nk lo (hi-lo).toNat) H):wpAny (model X.prog X.w) X.A (pyIter (.ref s.heap.objs.size)) (Ds X pins σ tg R) E {s with heap:=s.heap.push {cls:=.type "range",data:=.fields #[.int lo t,.int hi u,.int 1 v]},toks:=tk}:=by
 refine wpAny_pyIter_range (IsRange.new ..) (small_one h1 h2 h3 h4) ?_;have I1:Inv X pins σ H {s with heap:=s.heap.push {cls:=.type "range",data:=.fields #[.int lo t,.int hi u,.int 1 v]},toks:=tk}:=I.kept fun b o e=>cg _ e
 refine ⟨(s.heap.push {cls:=.type "range",data:=.fields #[.int lo t,.int hi u,.int 1 v]}).objs.size,[(s.heap.push {cls:=.type "range",data:=.fields #[.int lo t,.int hi u,.int 1 v]}).objs.size],_,_,H,rfl,
  I1.kept (t':=tk) fun b o e=>cg _ e,Po _ lo (hi-lo).toNat,?_,fun b hb=>?_,q⟩
 ·have e1:lo+((0:Nat):Int)*1=lo:=by simp
  have e2:(((hi-lo).toNat:Nat):Int)-((0:Nat):Int)=Builtin.Range.rangeSize lo hi 1:=by rw [rangeSize_one];split <;> lia
  show IsRangeIter _ _ (lo+((0:Nat):Int)*1) ((((hi-lo).toNat:Nat):Int)-((0:Nat):Int)) 1;rw [e1,e2];exact eX _ rfl
 ·have e:b=(s.heap.push {cls:=.type "range",data:=.fields #[.int lo t,.int hi u,.int 1 v]}).objs.size:=by simpa using hb
  subst e;exact I1.xw (ax _) (I1.ay.fresh (ax _))
def Pq(ta:TA):TI:=fun σ H R=>ta σ H fun vs H1=>∃j:Int,vs=[.int j]∧-(2 ^ 62)≤j∧j<2 ^ 62∧R (nk 0 j.toNat) H1
def Pr(ta:TA):TI:=fun σ H R=>ta σ H fun vs H1=>∃i j:Int,vs=[.int i,.int j]∧(-(2 ^ 62)≤i∧i<2 ^ 62∧-(2 ^ 62)≤j∧j<2 ^ 62)∧R (nk i (j-i).toNat) H1
variable {ta:TA} {p pos:Pos}
theorem kG{a:Expr}(hg:Gl X "range")(hm:X.mg "range"=none)(ha:PA X [a] ta)(hs:starEach [a] X.env=[(false,eval a X.env)]:=by rfl):PI X tg (.Call (.Name "range" p) [a] [] pos) (Pq ta):=by
 intro pins s σ H R I h;refine Call_ (m9 I hg hm boot_range (wV (aJ (ha pos pins s σ H _ I h) fun us s1 ⟨vs,H1,I1,r1,q1⟩=>?_) hs rfl));obtain ⟨j,e,q1,q2,q⟩:=q1;subst e;cases r1 with
 | cons r rr=>cases rr;obtain ⟨t,rfl⟩:=r;exact call_range_1 (HV I1 (by lia) (by lia) q1 q2 (by simpa using q))
theorem Pu{a b:Expr}(hg:Gl X "range")(hm:X.mg "range"=none)(ha:PA X [a,b] ta)(hs:starEach [a,b] X.env=[(false,eval a X.env),(false,eval b X.env)]:=by rfl)(qt:starEach [b] X.env=[(false,eval b X.env)]:=by rfl) :
  PI X tg (.Call (.Name "range" p) [a,b] [] pos) (Pr ta):=by
 intro pins s σ H R I h;refine Call_ (m9 I hg hm boot_range (wV (aJ (ha pos pins s σ H _ I h) fun us s1 ⟨vs,H1,I1,r1,q1⟩=>?_) (by rw [hs,qt]) (by rw [qt];rfl)))
 obtain ⟨i,j,e,⟨q1,q2,q3,q4⟩,q⟩:=q1;subst e;cases r1 with
 | cons r rr=>
  cases rr with
  | cons r' rr=>cases rr;obtain ⟨t,rfl⟩:=r;obtain ⟨t',rfl⟩:=r';exact call_range_2 (HV I1 q1 q2 q3 q4 q)
def Pw(wi:TI)(g:TG)(tb:TS):TS:=fun D σ H=>wi σ H fun J H1=>∃W:Nat→Nat→St→Hp→Prop,(∃m,W 0 m σ H1)∧∀i m σ H,W i m σ H→
 (J.stop i H∧D.nx σ H)∨(J.go i H∧∃N:St→Hp→Prop,(∀σ' H',N σ' H'→∃m',m'<m∧W (i+1) m' σ' H')∧∀x H',J.eY i H x H'→g x σ H' fun σ2 H2=>tb {D with nx:=N,ct:=N,bk:=D.nx} σ2 H2)
def lQ(fp:List Addr)(h:Heap):List (Addr×Obj):=fp.filterMap fun b=>(h.get? b).map fun o=>(b,o)
variable {fp:List Addr}
theorem oF{o:Obj}(hb:b∈fp)(e:h.get? b=some o):(b,o)∈lQ fp h:=zC.mpr ⟨b,hb,by rw [e];rfl⟩
theorem Px{p:Addr×Obj}(hp:p∈lQ fp h):p.1∈fp∧h.get? p.1=some p.2:=by
 obtain ⟨b,hb,e⟩:=zC.mp hp;cases q:h.get? b with
 | none=>rw [q] at e;cases e
 | some o=>rw [q] at e;have e':(b,o)=p:=Option.some.inj e;subst e';exact ⟨hb,q⟩
theorem Inv.pinned(I:Inv X pins σ H s)(hf:∀b∈fp,ng X pins H b)(ho:∀b∈fp,∃o,s.heap.get? b=some o∧∀v,o.data≠.cell v):Inv X (pins++lQ fp s.heap) σ H s:=
 I.HG fun p hp=>(cZ.mp hp).elim (fun z=>I.pin p (d9 _ z)) fun z=>by obtain ⟨hb,e⟩:=Px z;obtain ⟨f0,f1,f2,_⟩:=hf p.1 hb;obtain ⟨o,e',d⟩:=ho p.1 hb;rw [e] at e';cases e';exact ⟨e,f0,f1,f2,d⟩
theorem Inv.tU{pl:aK}(I:Inv X (pins++pl) σ H s):Inv X pins σ H s:=I.HG fun p hp=>I.pin p (d9 _ (kj _ hp))
theorem eG{iter:Expr}{body:List Stmt}{wi:TI}{g:TG}{tb:TS}(hp:PassesOwn (model X.prog X.w) X.A X.env X.xe)(hc:X.calm=true)(hi:PI X tg iter wi)(hg:PG X tg g)(hb:fE X body tb)
  (hs:∀x,foldedSetIterable iter X.env x=pure x:=by intro _;rfl):PS X (.For tg iter body [] pos) (Pw wi g tb):=by
 intro pins s σ H D I h;refine wpAny_For (aJ (hi pins s σ H _ I h) fun v s1 h1=>aJ h1 fun xx s2 h2=>?_) hs;obtain ⟨it,fp,tn,J,H2,e,I2,T,jm,f2,W,⟨m0,w0⟩,turn⟩:=h2;subst e;have hW:∀{H':Hp},(∀b∈fp,H' b=none)→∀b∈fp,ng X pins H' b:=fun hn b hb=>⟨hn b hb,(f2 b hb).2⟩;refine codeAny_forLoop_any (fun n s'=>∃i σ' H',Inv X pins σ' H' s'∧tn i s'.heap∧(∀b∈fp,H' b=none)∧W i n σ' H') ?_ m0 ⟨0,σ,H2,I2,jm,fun b hb=>(f2 b hb).1,w0⟩;rintro n s3 ⟨i,σ3,H3,I3,HW,HX,w3⟩;rcases turn i n σ3 H3 w3 with ⟨stop,qn⟩ | ⟨go,N,hN,step⟩
 ·refine pS hp (aJ (T.done X rfl rfl rfl hc i pins s3 σ3 H3 X.xe I3 (hW HX) HW stop) fun r s4 ⟨hr,I4⟩=>?_)
  subst hr;exact zA ⟨σ3,H3,I4,qn⟩
 ·refine pS hp (aJ (T.item X rfl rfl rfl hc i pins s3 σ3 H3 X.xe I3 (hW HX) HW go) fun r s4 ⟨u,hr,h4⟩=>?_)
  subst hr;refine pS hp (aJ h4 fun _ s5 ⟨x,H5,I5,r5,y5,h_,qu⟩=>?_);have qv:=I5.pinned (hW qu) (T.obj _ _ h_);refine pS hp (aJ (hg _ s5 σ3 H5 x u _ qv r5 (step x H5 y5)) fun _ s6 ⟨σ6,H6,I6,q6⟩=>?_);refine pS hp (aJ (hb _ s6 σ6 H6 _ I6 q6) fun f s7 q7=>?_);have again:∀{σ7:St} {H7:Hp},Inv X (pins++lQ fp s5.heap) σ7 H7 s7→N σ7 H7→∃m,m<n∧∃i σ' H',Inv X pins σ' H' s7∧tn i s7.heap∧(∀b∈fp,H' b=none)∧W i m σ' H':=fun{σ7 H7} I7 n7=>by obtain ⟨m',hm,w7⟩:=hN σ7 H7 n7;refine ⟨m',hm,i+1,σ7,H7,I7.tU,T.keep _ _ _ h_ fun b hb o e=>(I7.pin (b,o) (d9 _ (d9 _ (oF hb e)))).1,fun b hb=>?_,w7⟩;obtain ⟨o,e,d⟩:=T.obj _ _ h_ b hb;exact (I7.pin (b,o) (d9 _ (d9 _ (oF hb e)))).2.1
  cases f with
  | next=>obtain ⟨σ7,H7,I7,n7⟩:=q7;exact again I7 n7
  | cont=>obtain ⟨σ7,H7,I7,n7⟩:=q7;exact again I7 n7
  | brk=>obtain ⟨σ7,H7,I7,q7⟩:=q7;exact ⟨σ7,H7,I7.tU,q7⟩
  | ret v=>obtain ⟨x7,σ7,H7,I7,r7,q7⟩:=q7;exact ⟨x7,σ7,H7,I7.tU,r7,q7⟩
end
variable {g:TG} {tb:TS} {D:Ends}
theorem tV(Pv:Nat→St→Hp→Prop)(h0:Pv 0 σ H)(hl:∀i σ H,i≤xs.length→Pv i σ H→a7 K H a xs)
  (hs:∀i x σ H,xs[i]?=some x→Pv i σ H→g x σ H fun σ2 H2=>tb {D with nx:=Pv (i+1),ct:=Pv (i+1),bk:=D.nx} σ2 H2) (hd:∀σ H,Pv xs.length σ H→D.nx σ H) :
  ∃W:Nat→Nat→St→Hp→Prop,(∃m,W 0 m σ H)∧∀i m σ H,W i m σ H→
   ((qr K a).stop i H∧D.nx σ H)∨((qr K a).go i H∧∃N:St→Hp→Prop,(∀σ' H',N σ' H'→∃m',m'<m∧W (i+1) m' σ' H')∧∀x H',(qr K a).eY i H x H'→g x σ H' fun σ2 H2=>tb {D with nx:=N,ct:=N,bk:=D.nx} σ2 H2):=by
 refine ⟨fun i m σ H=>m=xs.length-i∧i≤xs.length∧Pv i σ H,⟨xs.length,by simp,bY _,h0⟩,?_⟩
 rintro i m σ H ⟨rfl,hi,p⟩;have q:=hl i σ H hi p;by_cases aV:i<xs.length
 ·refine .inr ⟨⟨xs,xs[i],q,by simp [aV]⟩,Pv (i+1),fun σ' H' p'=>⟨xs.length-(i+1),by lia,rfl,aV,p'⟩,fun x H' y=>?_⟩
  obtain ⟨e,y⟩:=y;subst e;exact hs i x σ _ (y xs q) p
 ·have e:i=xs.length:=by lia
  subst e;exact .inl ⟨⟨xs,q,ax _⟩,hd σ H p⟩
theorem Dt(Pv:Nat→St→Hp→Prop)(h0:Pv 0 σ H)(hl:∀i σ H,i≤xs.length→Pv i σ H→gC K H a xs)
  (hs:∀i x σ H,xs[i]?=some x→Pv i σ H→g x σ H fun σ2 H2=>tb {D with nx:=Pv (i+1),ct:=Pv (i+1),bk:=D.nx} σ2 H2) (hd:∀σ H,Pv xs.length σ H→D.nx σ H) :
  ∃W:Nat→Nat→St→Hp→Prop,(∃m,W 0 m σ H)∧∀i m σ H,W i m σ H→
   ((ni K a).stop i H∧D.nx σ H)∨((ni K a).go i H∧∃N:St→Hp→Prop,(∀σ' H',N σ' H'→∃m',m'<m∧W (i+1) m' σ' H')∧∀x H',(ni K a).eY i H x H'→g x σ H' fun σ2 H2=>tb {D with nx:=N,ct:=N,bk:=D.nx} σ2 H2):=by
 refine ⟨fun i m σ H=>m=xs.length-i∧i≤xs.length∧Pv i σ H,⟨xs.length,by simp,bY _,h0⟩,?_⟩
 rintro i m σ H ⟨rfl,hi,p⟩;have q:=hl i σ H hi p;by_cases aV:i<xs.length
 ·refine .inr ⟨⟨xs,xs[i],q,by simp [aV]⟩,Pv (i+1),fun σ' H' p'=>⟨xs.length-(i+1),by lia,rfl,aV,p'⟩,fun x H' y=>?_⟩
  obtain ⟨e,y⟩:=y;subst e;exact hs i x σ _ (y xs q) p
 ·have e:i=xs.length:=by lia
  subst e;exact .inl ⟨⟨xs,q,ax _⟩,hd σ H p⟩
variable {n:Nat}
theorem oG{lo:Int}(Pv:Nat→St→Hp→Prop)(h0:Pv 0 σ H)
  (hs:∀i σ H,i<n→Pv i σ H→g (.int (lo+i)) σ H fun σ2 H2=>tb {D with nx:=Pv (i+1),ct:=Pv (i+1),bk:=D.nx} σ2 H2) (hd:∀σ H,Pv n σ H→D.nx σ H) :
  ∃W:Nat→Nat→St→Hp→Prop,(∃m,W 0 m σ H)∧∀i m σ H,W i m σ H→
   ((nk lo n).stop i H∧D.nx σ H)∨((nk lo n).go i H∧∃N:St→Hp→Prop,(∀σ' H',N σ' H'→∃m',m'<m∧W (i+1) m' σ' H')∧∀x H',(nk lo n).eY i H x H'→g x σ H' fun σ2 H2=>tb {D with nx:=N,ct:=N,bk:=D.nx} σ2 H2):=by
 refine ⟨fun i m σ H=>m=n-i∧i≤n∧Pv i σ H,⟨n,by simp,bY _,h0⟩,?_⟩
 rintro i m σ H ⟨rfl,hi,p⟩;by_cases aV:i<n
 ·refine .inr ⟨aV,Pv (i+1),fun σ' H' p'=>⟨n-(i+1),by lia,rfl,aV,p'⟩,fun x H' y=>?_⟩
  obtain ⟨e,y⟩:=y;subst e y;exact hs i σ _ aV p
 ·have e:i=n:=by lia
  subst e;exact .inl ⟨ax _,hd σ H p⟩
abbrev R2:=V→V→Hp→VK→Prop
def da(X:Cx)(f:Value→Value→Sem Value)(r:R2):Prop:=
 ∀(pins:aK) (s:Shared) (σ:St) (H:Hp) (x y:V) (v u:Value) (Q:VK),Inv X pins σ H s→RelV x v→RelV y u→r x y H Q→
  wpAny (model X.prog X.w) X.A (f v u) (EP X pins σ Q) X.xe s
def Du(X:Cx)(f:Value→Sem Value)(r:V→Hp→VK→Prop):Prop:=
 ∀(pins:aK) (s:Shared) (σ:St) (H:Hp) (x:V) (v:Value) (Q:VK),Inv X pins σ H s→RelV x v→r x H Q→
  wpAny (model X.prog X.w) X.A (f v) (EP X pins σ Q) X.xe s
def gR(X:Cx)(f:Value)(r:List V→Hp→VK→Prop):Prop:=
 ∀(pins:aK) (s:Shared) (σ:St) (H:Hp) (xs:List V) (us:List Value) (Q:VK),Inv X pins σ H s→Vals xs us→r xs H Q→
  wpAny (model X.prog X.w) X.A (call f us) (EP X pins σ Q) X.xe s
def lR(r:R2)(ta tb:TE):TE:=fun σ H Q=>ta σ H fun x H1=>tb σ H1 fun y H2=>r x y H2 Q
def Py(r:V→Hp→VK→Prop)(ta:TE):TE:=fun σ H Q=>ta σ H fun x H1=>r x H1 Q
def rI(C:Int→Int→Prop)(g:Int→Int→V):R2:=fun x y H Q=>∃i j,x=.int i∧y=.int j∧C i j∧Q (g i j) H
def oH(g:Int→Int→V):R2:=fun x y H Q=>∃i j,x=.int i∧y=.int j∧Q (g i j) H
def rU(g:Int→V):V→Hp→VK→Prop:=fun x H Q=>∃i,x=.int i∧Q (g i) H
section
variable {X:Cx} {a b c:Expr} {ta tb tc:TE} {pos:Pos}
variable {f:Value→Value→Sem Value}
theorem Dv(ha:PE X a ta)(hb:PE X b tb){pins:aK}{R:V→V→Hp→Prop}(I:Inv X pins σ H s)
  (h:ta σ H fun x H1=>tb σ H1 fun y H2=>R x y H2) {Q:aM}
  (hf:∀v u s2 x y H2,Inv X pins σ H2 s2→RelV x v→RelV y u→R x y H2→wpAny (model X.prog X.w) X.A (f v u) Q X.xe s2) :
  wpAny (model X.prog X.w) X.A (eval a X.env) (fun v s₁=>wpAny (model X.prog X.w) X.A (eval b X.env) (fun u s₂=>wpAny (model X.prog X.w) X.A (f v u) Q X.xe s₂) X.xe s₁) X.xe s:=by
 refine aJ (ha pins s σ H _ I h) fun v s1 ⟨x,H1,I1,r1,q1⟩=>?_;refine aJ (hb pins s1 σ H1 _ I1 q1) fun u s2 ⟨y,H2,I2,r2,q2⟩=>?_;exact hf v u s2 x y H2 I2 r1 r2 q2
theorem b7{op:Operator}{r:R2}(ho:da X (binaryOp op) r)(ha:PE X a ta)(hb:PE X b tb):PE X (.BinOp a op b pos) (lR r ta tb):=by intro pins s σ H Q I h;exact wpAny_BinOp (Dv ha hb I h fun v u s2 x y H2 I2 rx ry q=>ho pins s2 σ H2 x y v u Q I2 rx ry q)
theorem HY{op:UnaryOp}{r:V→Hp→VK→Prop}(ho:Du X (unaryOp op) r)(ha:PE X a ta):PE X (.UnaryOp op a pos) (Py r ta):=by intro pins s σ H Q I h;exact UnaryOp_ (aJ (ha pins s σ H _ I h) fun v s1 ⟨x,H1,I1,r1,q1⟩=>ho pins s1 σ H1 x v Q I1 r1 q1)
theorem z_{C:Int→Int→Prop}{g:Int→Int→Int}
  (rule:∀(i j:Int) (t u:Tok) (s:Shared) (Q:aM) (E:aM),C i j→Q (.int (g i j) s.toks) {s with toks:=s.toks+1}→wpAny (model X.prog X.w) X.A (f (.int i t) (.int j u)) Q E s) :
  da X f (rI C fun i j=>.int (g i j)):=by
 intro pins s σ H x y v u Q I rx ry h;obtain ⟨i,j,rfl,rfl,hc,q⟩:=h;obtain ⟨t,rfl⟩:=rx;obtain ⟨t',rfl⟩:=ry;exact rule i j t t' s _ _ hc ⟨.int (g i j),H,I.tok _,⟨_,rfl⟩,q⟩
theorem HZ{g:Int→Int→Int}
  (rule:∀(i j:Int) (t u:Tok) (s:Shared) (Q:aM) (E:aM),Q (.int (g i j) s.toks) {s with toks:=s.toks+1}→wpAny (model X.prog X.w) X.A (f (.int i t) (.int j u)) Q E s) :
  da X f (oH fun i j=>.int (g i j)):=by
 intro pins s σ H x y v u Q I rx ry h;obtain ⟨i,j,rfl,rfl,q⟩:=h;obtain ⟨t,rfl⟩:=rx;obtain ⟨t',rfl⟩:=ry;exact rule i j t t' s _ _ ⟨.int (g i j),H,I.tok _,⟨_,rfl⟩,q⟩
theorem Aa{g:Int→Int→Bool}
  (rule:∀(i j:Int) (t u:Tok) (s:Shared) (Q:aM) (E:aM),Q (.bool (g i j)) s→wpAny (model X.prog X.w) X.A (f (.int i t) (.int j u)) Q E s) :
  da X f (oH fun i j=>.bl (g i j)):=by
 intro pins s σ H x y v u Q I rx ry h;obtain ⟨i,j,rfl,rfl,q⟩:=h;obtain ⟨t,rfl⟩:=rx;obtain ⟨t',rfl⟩:=ry;exact rule i j t t' s _ _ ⟨.bl (g i j),H,I,rfl,q⟩
def Pz(i j:Int):Prop:=0≤j∧j≤1000000∧i.natAbs<2 ^ 64
def Dy(i j:Int):Prop:=(-(2 ^ 64)<i∧i<2 ^ 64)∨(-(2 ^ 64)<j∧j<2 ^ 64)
theorem Dy.ok{i j:Int}(h:Dy i j):IntMulOk i j:=by
 rcases h with ⟨h1,h2⟩ | ⟨h1,h2⟩;·exact .of_left (intBits_le_64 h1 h2)
 ·exact .of_right (intBits_le_64 h1 h2)
theorem jR:da X (binaryOp .Add) (oH fun i j=>.int (i+j)):=HZ fun _ _ _ _ _ _ _ q=>add_int q
theorem Ab:da X (binaryOp .Sub) (oH fun i j=>.int (i-j)):=HZ fun _ _ _ _ _ _ _ q=>sub_int q
theorem kH:da X (binaryOp .Mult) (rI Dy fun i j=>.int (i*j)):=z_ fun _ _ _ _ _ _ _ hc q=>mul_int q hc.ok
theorem qw:da X (binaryOp .Mod) (rI (fun _ j=>0<j) fun i j=>.int (i % j)):=z_ fun i j _ _ _ _ _ hc q=>by have h1:(0:Int)<j:=hc;exact mod_int' (by lia) (by rw [Int.fmod_eq_emod_of_nonneg i (by lia)];exact q)
theorem PB:da X (binaryOp .Pow) (rI Pz fun i j=>.int (i ^ j.toNat)):=z_ fun _ _ _ _ _ _ _ hc q=>pow_int_small hc.1 hc.2.1 hc.2.2 q
theorem PD{f:Value→Sem Value}{g:Int→Int}
  (rule:∀(i:Int) (t:Tok) (s:Shared) (Q:aM) (E:aM),Q (.int (g i) s.toks) {s with toks:=s.toks+1}→wpAny (model X.prog X.w) X.A (f (.int i t)) Q E s) :
  Du X f (rU fun i=>.int (g i)):=by
 intro pins s σ H x v Q I rx h;obtain ⟨i,rfl,q⟩:=h;obtain ⟨t,rfl⟩:=rx;exact rule i t s _ _ ⟨.int (g i),H,I.tok _,⟨_,rfl⟩,q⟩
theorem H_:Du X (unaryOp .USub) (rU fun i=>.int (-i)):=PD fun _ _ _ _ _ q=>neg_int q
end
def Ia:V→V→Bool
 | .aN,.aN=>true | .aN,.int _=>true | .int _,.aN=>true | .aN,.bl _=>true | .bl _,.aN=>true | .aN,.str _=>true | .str _,.aN=>true
 | .int _,.int _=>true | .bl _,.bl _=>true | .str _,.str _=>true | .kC _,.kC _=>true
 | .int _,.str _=>true | .str _,.int _=>true | .bl _,.str _=>true | .str _,.bl _=>true
 | _,_=>false
def PF:R2:=fun x y H Q=>Ia x y=true∧Q (.bl (decide (x=y))) H
def PH:R2:=fun x y H Q=>Ia x y=true∧Q (.bl (!decide (x=y))) H
theorem Ib{i j:Int}:decide (V.int i=V.int j)=(i == j):=by rw [pU];simp
theorem Ic{i j:Bool}:decide (V.bl i=V.bl j)=(i == j):=by rw [pU];simp
theorem Ie{i j:Str}:decide (V.str i=V.str j)=(i == j):=by rw [pU];simp
theorem Ig{i j:Array UInt8}:decide (V.kC i=V.kC j)=(i.toList == j.toList):=by rw [pU];cases i;cases j;simp
section
variable {X:Cx} {a b c:Expr} {ta tb tc:TE} {pos:Pos}
theorem dg{pins:aK}{Q:VK}{k k':Bool}(I:Inv X pins σ H s)(q:Q (.bl k) H)(e:k=k'):EP X pins σ Q (.bool k') s:=by subst e;exact ⟨.bl k,H,I,rfl,q⟩
theorem jo:da X (compareOp .Eq) PF:=by
 intro pins s σ H x y v u Q I rx ry h;obtain ⟨hs,q⟩:=h;cases x with
 | aN=>
  cases rx;cases y with
  | aN=>cases ry;exact PySem.EqNone.eq_none_none (dg I q (by simp))
  | bl j=>cases ry;exact PySem.EqNone.eq_none_bool (dg I q (by simp))
  | int j=>obtain ⟨t',rfl⟩:=ry;exact PySem.EqNone.eq_none_int (dg I q (by simp))
  | str j=>obtain ⟨t',rfl⟩:=ry;exact PySem.EqNone.eq_none_str (dg I q (by simp))
  | _=>exact absurd (show false=true from hs) dA
 | bl i=>
  cases rx;cases y with
  | aN=>cases ry;exact PySem.EqNone.eq_bool_none (dg I q (by simp))
  | bl j=>cases ry;exact eq_bool (dg I q Ic)
  | str j=>obtain ⟨t',rfl⟩:=ry;exact PySem.EqMixed.eq_bool_str (dg I q (by simp))
  | _=>exact absurd (show false=true from hs) dA
 | int i=>
  obtain ⟨t,rfl⟩:=rx;cases y with
  | aN=>cases ry;exact PySem.EqNone.eq_int_none (dg I q (by simp))
  | int j=>obtain ⟨t',rfl⟩:=ry;exact eq_int (dg I q Ib)
  | str j=>obtain ⟨t',rfl⟩:=ry;exact PySem.EqMixed.eq_int_str (dg I q (by simp))
  | _=>exact absurd (show false=true from hs) dA
 | str i=>
  obtain ⟨t,rfl⟩:=rx;cases y with
  | aN=>cases ry;exact PySem.EqNone.eq_str_none (dg I q (by simp))
  | bl j=>cases ry;exact PySem.EqMixed.eq_str_bool (dg I q (by simp))
  | int j=>obtain ⟨t',rfl⟩:=ry;exact PySem.EqMixed.eq_str_int (dg I q (by simp))
  | str j=>obtain ⟨t',rfl⟩:=ry;exact eq_str (dg I q Ie)
  | _=>exact absurd (show false=true from hs) dA
 | kC i=>
  obtain ⟨t,rfl⟩:=rx;cases y with
  | kC j=>obtain ⟨t',rfl⟩:=ry;exact PySem.W.eq_bytes (dg I q Ig)
  | _=>exact absurd (show false=true from hs) dA
 | _=>cases y <;> exact absurd (show false=true from hs) dA
theorem tW:da X (compareOp .NotEq) PH:=by
 intro pins s σ H x y v u Q I rx ry h;obtain ⟨hs,q⟩:=h;cases x with
 | aN=>
  cases rx;cases y with
  | aN=>cases ry;exact PySem.EqNone.ne_none_none (dg I q (by simp))
  | bl j=>cases ry;exact PySem.EqNone.ne_none_bool (dg I q (by simp))
  | int j=>obtain ⟨t',rfl⟩:=ry;exact PySem.EqNone.ne_none_int (dg I q (by simp))
  | str j=>obtain ⟨t',rfl⟩:=ry;exact PySem.EqNone.ne_none_str (dg I q (by simp))
  | _=>exact absurd (show false=true from hs) dA
 | bl i=>
  cases rx;cases y with
  | aN=>cases ry;exact PySem.EqNone.ne_bool_none (dg I q (by simp))
  | bl j=>cases ry;exact ne_bool (dg I q (dP not Ic))
  | str j=>obtain ⟨t',rfl⟩:=ry;exact PySem.EqMixed.ne_bool_str (dg I q (by simp))
  | _=>exact absurd (show false=true from hs) dA
 | int i=>
  obtain ⟨t,rfl⟩:=rx;cases y with
  | aN=>cases ry;exact PySem.EqNone.ne_int_none (dg I q (by simp))
  | int j=>obtain ⟨t',rfl⟩:=ry;exact ne_int (dg I q (dP not Ib))
  | str j=>obtain ⟨t',rfl⟩:=ry;exact PySem.EqMixed.ne_int_str (dg I q (by simp))
  | _=>exact absurd (show false=true from hs) dA
 | str i=>
  obtain ⟨t,rfl⟩:=rx;cases y with
  | aN=>cases ry;exact PySem.EqNone.ne_str_none (dg I q (by simp))
  | bl j=>cases ry;exact PySem.EqMixed.ne_str_bool (dg I q (by simp))
  | int j=>obtain ⟨t',rfl⟩:=ry;exact PySem.EqMixed.ne_str_int (dg I q (by simp))
  | str j=>obtain ⟨t',rfl⟩:=ry;exact ne_str (dg I q (dP not Ie))
  | _=>exact absurd (show false=true from hs) dA
 | kC i=>
  obtain ⟨t,rfl⟩:=rx;cases y with
  | kC j=>obtain ⟨t',rfl⟩:=ry;exact PySem.W.ne_bytes (dg I q (dP not Ig))
  | _=>exact absurd (show false=true from hs) dA
 | _=>cases y <;> exact absurd (show false=true from hs) dA
theorem Ih:da X (compareOp .Lt) (oH fun i j=>.bl (decide (i<j))):=Aa fun _ _ _ _ _ _ _ q=>lt_int q
theorem PJ:da X (compareOp .LtE) (oH fun i j=>.bl (decide (i≤j))):=Aa fun _ _ _ _ _ _ _ q=>le_int q
theorem jS:da X (compareOp .Gt) (oH fun i j=>.bl (decide (j<i))):=Aa fun _ _ _ _ _ _ _ q=>gt_int q
theorem PK:da X (compareOp .GtE) (oH fun i j=>.bl (decide (j≤i))):=Aa fun _ _ _ _ _ _ _ q=>ge_int q
theorem Ii:da X (compareOp .IsNot) (fun x y H Q=>y=.aN∧Q (.bl (!decide (x=.aN))) H):=by
 intro pins s σ H x y v u Q I rx ry h;obtain ⟨rfl,q⟩:=h;cases ry;refine isnot_none_gen (dg I q ?_)
 cases x <;> first
  | (cases rx;rfl)
  | (obtain ⟨t,rfl⟩:=rx;rfl)
variable {op:CmpOp}
theorem Ij(b:Expr)(h:op≠.In:=by decide)(h2:op≠.NotIn:=by decide):behindInMarks op b=false:=by
 have e1:(op == CmpOp.In)=false:=by cases op <;> first | rfl | exact absurd rfl h
 have e2:(op == CmpOp.NotIn)=false:=by cases op <;> first | rfl | exact absurd rfl h2
 cases b <;> simp [behindInMarks,e1,e2]
variable {r:R2}
theorem xA(ho:da X (compareOp op) r)(ha:PE X a ta)(hb:PE X b tb)(hm:behindInMarks op b=false):PE X (.Compare a [op] [b] pos) (lR r ta tb):=by intro pins s σ H Q I h;exact wpAny_Compare1 (Dv ha hb I h fun v u s2 x y H2 I2 rx ry q=>ho pins s2 σ H2 x y v u Q I2 rx ry q) hm
theorem oI(ho:da X (compareOp op) r)(ha:PE X a ta)(hb:PE X b tb)(hm:behindInMarks op b=false:=by exact Ij _):PE X (.Compare a [op] [b] pos) (lR r ta tb):=xA ho ha hb hm
def Ik(t:TE):TT:=fun σ H Q=>t σ H fun x H'=>∃k,x=.bl k∧Q k H'
theorem nq(ho:da X (compareOp op) r)(ha:PE X a ta)(hb:PE X b tb)(hm:behindInMarks op b=false):PT X (.Compare a [op] [b] pos) (Ik (lR r ta tb)):=by intro pins s σ H Q I h;refine wpAny_isTrue_Compare1 (aJ (ha pins s σ H _ I h) fun v s1 ⟨x,H1,I1,r1,q1⟩=>aJ (hb pins s1 σ H1 _ I1 q1) fun u s2 ⟨y,H2,I2,r2,q2⟩=>aJ (ho pins s2 σ H2 x y v u _ I2 r1 r2 q2) fun c s3 ⟨z,H3,I3,r3,k,e,q3⟩=>?_) hm;subst e;cases r3;exact n6 ⟨H3,I3,q3⟩
theorem cL(ho:da X (compareOp op) r)(ha:PE X a ta)(hb:PE X b tb)(hm:behindInMarks op b=false:=by exact Ij _):PT X (.Compare a [op] [b] pos) (Ik (lR r ta tb)):=nq ho ha hb hm
theorem qy:(sizeLine:Nat)<2 ^ 63:=by rw [n_];decide
theorem vals1(r:Vals [x] us):∃u,us=[u]∧RelV x u:=by
 cases r with
 | cons r1 r2=>cases r2;exact ⟨_,rfl,r1⟩
theorem vals2{y:V}(r:Vals [x,y] us):∃u w',us=[u,w']∧RelV x u∧RelV y w':=by
 cases r with
 | cons r1 r2=>
  cases r2 with
  | cons r3 r4=>cases r4;exact ⟨_,_,rfl,r1,r3⟩
theorem Il(hc:X.calm=true):gR X (.builtin "max") (fun xs H Q=>∃i j,xs=[.int i,.int j]∧Q (.int (if j>i then j else i)) H):=by
 intro pins s σ H xs us Q I r h;obtain ⟨i,j,rfl,q⟩:=h;obtain ⟨u,w',rfl,⟨t,rfl⟩,⟨t',rfl⟩⟩:=vals2 r;refine max_two_ints (I.ok.hd hc) fun h' tk k=>⟨_,H,I.kept k,?_,q⟩;by_cases hj:j>i;·rw [ae hj,ae hj];exact ⟨_,rfl⟩
 ·rw [aa hj,aa hj];exact ⟨_,rfl⟩
theorem Im(hc:X.calm=true):gR X (.builtin "min") (fun xs H Q=>∃i j,xs=[.int i,.int j]∧Q (.int (if j<i then j else i)) H):=by
 intro pins s σ H xs us Q I r h;obtain ⟨i,j,rfl,q⟩:=h;obtain ⟨u,w',rfl,⟨t,rfl⟩,⟨t',rfl⟩⟩:=vals2 r;refine min_two_ints (I.ok.hd hc) fun h' tk k=>⟨_,H,I.kept k,?_,q⟩;by_cases hj:j<i;·rw [ae hj,ae hj];exact ⟨_,rfl⟩
 ·rw [aa hj,aa hj];exact ⟨_,rfl⟩
end
structure DA (h:Heap) (x dx C:Addr) (mA:cJ):Prop where
 obj:h.get? x=some (PySem.W.instObj C dx)
 ns:h.Ns1 dx mA
 ne:dx≠x
variable {dx:Addr} {mA:cJ}
theorem PL(n:h.Ns1 dx mA):∃od,h.get? dx=some od∧∀name,PySem.W.lookIn name od=some (mA name):=by
 obtain ⟨o,es,ep,ho,hd,hk,_,hm⟩:=n;refine ⟨o,ho,fun name=>?_⟩;have e:=hm name;unfold nsFind findBy at e;rw [←Array.find?_toList] at e;unfold PySem.W.lookIn;rw [hd];dsimp only
 split
 ·rename_i y q
  rw [q] at e;exact dP some e
 ·rename_i q
  rw [q] at e;have a:es.toList.any (·.refKey)=false:=by rw [zD];intro y hy;obtain ⟨z,t,PM⟩:=hk y (Array.mem_toList_iff.mp hy);simp [DictEntry.refKey,PM]
  have a':¬es.toList.any (·.refKey)=true:=by rw [a];exact dA
  rw [aa a'];exact dP some e
theorem DA.look{x C:Addr}(I:DA h x dx C mA):∃od,PySem.W.InstAt h x (PySem.W.instObj C dx) C (some od)∧∀name,PySem.W.lookIn name od=some (mA name):=
 let ⟨od,ho,hl⟩:=PL I.ns
 ⟨od,⟨I.obj,rfl,rfl,ho⟩,hl⟩
section
variable {prog:Program} {w:World} {A:Around} {E:aM} {s:Shared} {K:aE} {x dx C f:Addr} {mA:cJ} {name:Str} {v:Value}
end
theorem kD.some_of{v:V}{o:Option Value}(r:kD (some v) o):∃u,o=some u∧RelV v u:=by
 cases o with
 | none=>exact (show False from r).elim
 | some u=>exact ⟨u,rfl,r⟩
section
variable {P:Program} {w:World} {H H':Hp} {h h':Heap} {a C dx:Addr} {fs C_:List (Str×V)}
theorem PN(ay:cy P w H h)(e:H a=some (.ins C dx fs)):∃mA,DA h a dx C mA∧(∀f,kD (fs.lookup f) (mA f))∧PySem.Within mA (fs.map (·.1))∧fs.length≤1000∧H dx=some (.own a):=by obtain ⟨d,z,ne,ob,mA,n,r,q⟩:=(show cw P w H h a (.ins C dx fs) from ay a _ e);exact ⟨mA,⟨ob,n,ne⟩,r,q,z,d⟩
end
structure DB (K:aE) (C:Addr):Prop where
 pg:PySem.W.plainGet K C Str.empty=true
 hd:PySem.W.hasDictIn K C=true
 po:PySem.W.plainOver K C=true
 sa:PySem.W.findIn K (.ref C) "__setattr__"=some (some (.builtin "object.__setattr__"))
theorem DB.get{K:aE}{C:Addr}(c:DB K C)(f:Str):PySem.W.plainGet K C f=true:=c.pg
section
variable {X:Cx} {pins:aK} {σ:St} {H:Hp} {s:Shared} {a C dx:Addr} {fs:List (Str×V)} {f:Str} {v:V} {A:Around} {E:aM}
end
section
variable {X:Cx} {o e value:Expr} {f:Str} {pos pos' tR:Pos} {ta tv:TE}
end
section
variable {X:Cx} {pins:aK} {σ:St} {H:Hp} {s:Shared} {A:Around} {E:aM} {Q:aM} {c:Value} {b:Bool}
inductive jq (K:aE) (H:Hp):V→Value→Prop where
 | aN:jq K H .aN (.type "NoneType")
 | bl (x:Bool):jq K H (.bl x) (.type "bool")
 | int (i:Int):jq K H (.int i) (.type "int")
 | str (x:Str):jq K H (.str x) (.type "str")
 | tM (x:UInt64):jq K H (.tM x) (.type "float")
 | lst {a:Addr} {xs:List V} (e:H a=some (.lst xs)):jq K H (.ref a) (.type "list")
 | bg {a:Addr} {o:Obj} {xs:List V} (e:H a=some (.bg o (.lst xs))):jq K H (.ref a) (.type "list")
 | tup {a:Addr} {xs:List V} (e:H a=some (.tup xs)):jq K H (.ref a) (.type "tuple")
 | dK {a:Addr} {kvs:List (Key×V)} (e:H a=some (.dK kvs)):jq K H (.ref a) (.type "dict")
 | dT {a:Addr} {kvs:List (List Key×V)} (e:H a=some (.dT kvs)):jq K H (.ref a) (.type "dict")
 | ins {a C dx:Addr} {fs:List (Str×V)} (e:H a=some (.ins C dx fs)) (cl:DB K C) (ha:PySem.W.findIn K (.ref C) "__class__"=some (some (.builtin "object.__class__")))
   (hn:PySem.W.specialIn K (.builtin "object.__class__") "__get__"=some (some (.builtin "getset_descriptor.__get__"))) (Io:PySem.W.takesIn K (.builtin "object.__class__")=some true)
   (hm:PySem.W.mroIn K C (.type "object")=some true):jq K H (.ref a) (.ref C)
theorem PQ{t:Value}(I:Inv X pins σ H s)(rx:RelV x u)(ty:jq X.K H x t)(e:PySem.W.kitOne X.K t c=some b)(h:∀tk,Q (.bool b) {s with toks:=tk}) :
  wpAny (model X.prog X.w) A (call (.builtin "isinstance") [u,c]) Q E s:=by
 cases ty with
 | aN=>cases (show u=Value.none from rx);exact jd PySem.W.kitx_none I.ft True.intro e (fun z=>nomatch z) h
 | bl y=>cases (show u=Value.bool y from rx);exact jd PySem.W.kitx_bool I.ft True.intro e (fun z=>nomatch z) h
 | int i=>obtain ⟨t,q⟩:=(show ∃t,u=Value.int i t from rx);cases q;exact jd PySem.W.kitx_int I.ft True.intro e (fun z=>nomatch z) h
 | str y=>obtain ⟨t,q⟩:=(show ∃t,u=Value.str y t from rx);cases q;exact jd PySem.W.kitx_str I.ft True.intro e (fun z=>nomatch z) h
 | tM y=>obtain ⟨t,q⟩:=(show ∃t,u=Value.float y t from rx);cases q;exact jd PySem.W.kitx_float I.ft True.intro e (fun z=>nomatch z) h
 | @lst a xs ea=>cases (show u=Value.ref a from rx);obtain ⟨_,_,n,_,h1⟩:=(show cw X.prog X.w H s.heap a (.lst xs) from I.ay a _ ea);exact jd PySem.W.kitx_list I.ft ⟨_,h1,rfl⟩ e (fun z=>nomatch z) h
 | @bg a ob xs ea=>cases (show u=Value.ref a from rx);obtain ⟨_,_,_,n,_,h1⟩:=(show cw X.prog X.w H s.heap a (.bg ob (.lst xs)) from I.ay a _ ea);exact jd PySem.W.kitx_list I.ft ⟨_,h1,rfl⟩ e (fun z=>nomatch z) h
 | @tup a xs ea=>cases (show u=Value.ref a from rx);obtain ⟨_,_,_,p⟩:=(show cw X.prog X.w H s.heap a (.tup xs) from I.ay a _ ea);obtain ⟨o,h1,h2,_⟩:=p;exact jd PySem.W.kitx_tuple I.ft ⟨o,h1,h2⟩ e (fun z=>nomatch z) h
 | @dK a kvs ea=>cases (show u=Value.ref a from rx);obtain ⟨_,_,vs,_,p⟩:=(show cw X.prog X.w H s.heap a (.dK kvs) from I.ay a _ ea);obtain ⟨o,es,ep,h1,h2,_⟩:=p;exact jd PySem.W.kitx_dict I.ft ⟨o,h1,h2.1⟩ e (fun z=>nomatch z) h
 | @dT a kvs ea=>cases (show u=Value.ref a from rx);obtain ⟨_,_,xs,_,o,es,ep,h1,h2,_⟩:=(show cw X.prog X.w H s.heap a (.dT kvs) from I.ay a _ ea);exact jd PySem.W.kitx_dict I.ft ⟨o,h1,h2.1⟩ e (fun z=>nomatch z) h
 | @ins a C dx fs ea cl ha hn Io hm=>cases (show u=Value.ref a from rx);obtain ⟨mA,O,_⟩:=PN I.ay ea;obtain ⟨od,J,_⟩:=O.look;exact jd (PySem.W.kitx_own (cl.get _) cl.hd ha hn Io hm) I.ft J e (fun z=>nomatch z) h
end
structure dJ (k:Nat) (A:Around):Prop where
 hd:A.handled=none
 dp:A.depth+3*k+5<recursionLimit
 un:A.units+16*k+200<cLine
variable {k:Nat}
theorem dJ.mono{j:Nat}(r:dJ k A)(h:j≤k):dJ j A:=⟨r.hd,by have:=r.dp;lia,by have:=r.un;lia⟩
theorem dJ.deeper(r:dJ (k+1) A)(env:Env):dJ k (A.deeper env):=
 ⟨r.hd,by have:=r.dp;show A.depth+1+3*k+5<_;lia,by have:=r.un;show A.units+3+16*k+200<_;lia⟩
theorem dJ.depth(r:dJ k A):A.depth<recursionLimit:=by have:=r.dp;lia
theorem dJ.units(r:dJ k A):A.units+64<cLine:=by have:=r.un;lia
theorem dJ.Ip(r:dJ k A):A.units<cLine:=by have:=r.un;lia
def tX:TA:=fun _ H Q=>Q [] H
def qz(ta:TE)(tr:TA):TA:=fun σ H Q=>ta σ H fun x H1=>tr σ H1 fun xs H2=>Q (x::xs) H2
section
variable {X:Cx} {e:Expr} {es:List Expr} {te:TE} {t:TA} {pos:Pos}
theorem ao:PA X [] tX:=fun _ _ _ _ H Q I h=>Calls.spliced_nil ⟨[],H,I,.nil,h⟩
theorem PR(ha:PE X e te)(hr:PA X es t)(hs:starEach (e::es) X.env=(false,eval e X.env)::starEach es X.env:=by rfl):PA X (e::es) (qz te t):=by intro pos pins s σ H Q I h;rw [hs];show wpAny _ _ (spliced ((false,eval e X.env)::backTo pos (starEach es X.env))) _ _ s;refine Calls.spliced_cons (aJ (ha pins s σ H _ I h) fun u s1 ⟨x,H1,I1,r1,q1⟩=>?_);exact aJ (hr pos pins s1 σ H1 _ I1 q1) fun us s2 ⟨xs,H2,I2,r2,q2⟩=>⟨x::xs,H2,I2,.cons r1 r2,q2⟩
def PU(t:TA):TE:=fun σ H Q=>t σ H fun xs H1=>xs.length≤sizeLine∧∀p,H1 p=none→Q (.ref p) (upd H1 p (.tup xs))
def PV(t:TA):TE:=fun σ H Q=>t σ H fun xs H1=>xs.length≤sizeLine∧∀p,H1 p=none→Q (.ref p) (upd H1 p (.lst xs))
theorem kI{x1}(h:PA X es t):PE X (.Tuple es x1 pos) (PU t):=by
 intro pins s σ H Q I hq;refine wpAny_Tuple_spliced (aJ (h pos pins s σ H _ I hq) fun us s1 ⟨xs,H1,I1,r,z,q⟩=>⟨by rw [←r.length];exact z,?_⟩)
 have hf:H1 s1.heap.objs.size=none:=I1.ay.fresh (ax _);refine ⟨.ref s1.heap.objs.size,upd H1 s1.heap.objs.size (.tup xs),I1.laid (t':=s1.toks) (fun b u e=>cg _ e) (ax _) ?_,rfl,q _ hf⟩;exact ⟨z,us,r,⟨_,eX _ rfl,rfl,_,rfl⟩⟩
theorem dD(h:PA X es t):PE X (.List es pos) (PV t):=by
 intro pins s σ H Q I hq;refine wpAny_List_spliced (aJ (h pos pins s σ H _ I hq) fun us s1 ⟨xs,H1,I1,r,z,q⟩=>⟨by rw [←r.length];exact z,?_⟩)
 have hf:H1 s1.heap.objs.size=none:=I1.ay.fresh (ax _);refine ⟨.ref s1.heap.objs.size,upd H1 s1.heap.objs.size (.lst xs),I1.laid (t':=s1.toks) (fun b u e=>cg _ e) (ax _) ?_,rfl,q _ hf⟩;exact ⟨z,us,0,r,eX _ rfl⟩
end
abbrev Sp:=List V→Hp→VK→XK→Prop
abbrev iS:=List Env→Hp→Shared→XK→Value→Shared→Prop
structure Ac (P:Program) (w:World) (K:aE) (mg:cJ) (base:Heap) (A:Around) (outer:List Env) (s:Shared) (H:Hp):Prop where
 frames:A.frames=some outer
 mod:Mod K mg base
 bs:∀b o,base.get? b=some o→s.heap.get? b=some o∧H b=none
 jl:base.objs.size≤s.heap.objs.size
 kF:s.heap.FunFrames base outer
 oB:∀b∈cS outer,H b=none
 ay:cy P w H s.heap
 bare:AllBare s.gens
def CE(outer:List Env)(P:Program)(w:World)(H:Hp)(s:Shared)(Q:VK)(u:Value)(s':Shared):Prop:=
 ∃v H',s'.os=s.os∧AllBare s'.gens∧Un (cS outer) [] H H' s.heap s'.heap∧cy P w H' s'.heap∧RelV v u∧Q v H'
def CR(CX:iS)(outer:List Env)(P:Program)(w:World)(H:Hp)(s:Shared)(Q:VK)(E:XK)(r:Result)(s':Shared):Prop:=
 match r with
 | .ok (.ret u)=>CE outer P w H s Q u s'
 | .ok _=>False
 | .error e=>CX outer H s E e s'
structure bK (P:Program) (w:World) (K:aE) (mg:cJ) (base:Heap) (CX:iS) (k:Nat) (f:Addr) (fd:FuncData) (ps:List Str) (sp:Sp):Prop where
 len:∀vs H Q E,sp vs H Q E→vs.length=ps.length
 run:∀(A:Around) (outer:List Env) (s:Shared) (H:Hp) (args:Args) (us:List Value) (vs:List V) (Q:VK) (E:XK),dJ k A→Ac P w K mg base A outer s H→BindsTo s fd args (ps.zip us)→Vals vs us→sp vs H Q E→
  codeAny (model P w) A (.call (.ref f) args) (CR CX outer P w H s Q E) s
section
variable {X:Cx} {pins:aK} {σ:St} {H:Hp} {s s':Shared}
theorem Inv.PX(I:Inv X pins σ H s):Ac X.prog X.w X.K X.mg X.base X.A X.stack s H:=
 ⟨I.ok.frames,I.ok.mod,I.bs,bR I.ok.jl I.sz,I.stack,I.xj,I.ay,I.bare⟩
theorem Inv.after{Q:VK}(I:Inv X pins σ H s)(h:CE X.stack X.prog X.w H s Q u s'):EP X pins σ Q u s':=by obtain ⟨v,H',os,bare,un,ay,r,q⟩:=h;obtain ⟨hh,g,d,t,PY⟩:=s';obtain rfl:PY=s.os:=os;exact ⟨v,H',I.call (h':=hh) (g':=g) (d':=d) (t':=t) (ch:=[]) un ay bare (fun b z=>absurd z (by simp)),r,q⟩
end
def Iq(sp:Sp)(lT:List V)(E:XK)(t:TA):TE:=fun σ H Q=>t σ H fun vs H1=>sp (vs++lT) H1 Q E
def Binds(K:aE)(fd:FuncData)(ps:List Str)(ds:List Value):Prop:=
 ∀(s:Shared) (us:List Value),K.In s.heap→(us++ds).length=ps.length→BindsTo s fd ⟨us,[]⟩ (ps.zip (us++ds))
variable {ps:List Str}
theorem Binds.all{fd:FuncData}(h:∀us:List Value,us.length=ps.length→bindArgs fd ⟨us,[]⟩=pure (ps.zip us)):Binds K fd ps []:=fun s us _ hl=>by rw [ko] at hl ⊢;exact .of_eq (h us hl)
def Passes(CX:iS)(X:Cx)(E:XK):Prop:=∀(pins:aK) (σ:St) (H:Hp) (s:Shared) (e:Value) (s':Shared),Inv X pins σ H s→CX X.stack H s E e s'→X.xe e s'
section
variable {X:Cx} {CX:iS} {k:Nat} {f C:Addr} {fd:FuncData} {ps:List Str} {sp:Sp} {lT:List V} {ds:List Value} {E:XK} {x m:Str} {p pos apos:Pos} {e o:Expr} {es:List Expr} {ta:TE} {t:TA}
theorem PZ{pins:aK}{Q:VK}{vs:List V}(F:bK X.prog X.w X.K X.mg X.base CX k f fd ps sp)(hr:dJ k X.A)(hb:Binds X.K fd ps ds)(hd:Vals lT ds)(hx:Passes CX X E)
  (I:Inv X pins σ H s) (r:Vals vs us) (h:sp (vs++lT) H Q E):wpAny (model X.prog X.w) X.A (call (.ref f) us) (EP X pins σ Q) X.xe s:=by
 have r2:Vals (vs++lT) (us++ds):=r.append hd;have hl:(us++ds).length=ps.length:=by rw [←r2.length];exact F.len _ _ _ _ h
 refine wpAny_call (codeAny_mono (F.run X.A X.stack s H ⟨us,[]⟩ (us++ds) (vs++lT) Q E hr I.PX (hb s us I.ft hl) r2 h) fun r s' hq=>?_);cases r with
 | error e=>exact hx pins σ H s e s' I hq
 | ok fl=>
  cases fl with
  | ret u=>exact I.after hq
  | next=>exact False.elim hq
  | brk=>exact False.elim hq
  | cont=>exact False.elim hq
theorem P1(F:bK X.prog X.w X.K X.mg X.base CX k f fd ps sp)(hr:dJ k X.A)(hg:Gl X x)(hm:X.mg x=some (.ref f))(hk:PySem.W.keepIn X.K (.ref f)=true)(hb:Binds X.K fd ps ds)(hd:Vals lT ds)(hx:Passes CX X E)
  (ha:PA X (e::es) t) (qA:(x == ("__debug__":Str))=false:=by decide) (he:starEach (e::es) X.env=(false,eval e X.env)::starEach es X.env:=by rfl) (lW:(backTo pos (starEach es X.env)).any (·.1)=false:=by rfl) :
  PE X (.Call (.Name x p) (e::es) [] pos) (Iq sp lT E t):=by
 intro pins s σ H Q I h;refine zE (Dj I hg hm ?_ qA);refine PySem.W.callWith_K (h₀:=X.base) I.ok.mod.dv hk (aJ (ha pos pins s σ H _ I h) fun us s1 ⟨vs,H1,I1,r,q⟩=>⟨I1.ft,?_⟩) he lW;exact PZ F hr hb hd hx I1 r q
theorem a8{j:Nat}(F:bK X.prog X.w X.K X.mg X.base CX k f fd ps sp)(hr:dJ j X.A)(hm:X.mg x=some (.ref f))(hk:PySem.W.keepIn X.K (.ref f)=true)(hb:Binds X.K fd ps [])(hx:Passes CX X E)
  (ha:PA X (e::es) t) (hj:k≤j:=by decide) (hg:Gl X x:=by exact rfl) (qA:(x == ("__debug__":Str))=false:=by decide) (he:starEach (e::es) X.env=(false,eval e X.env)::starEach es X.env:=by rfl) (lW:(backTo pos (starEach es X.env)).any (·.1)=false:=by rfl) :
  PE X (.Call (.Name x p) (e::es) [] pos) (Iq sp [] E t):=P1 F (hr.mono hj) hg hm hk hb .nil hx ha qA he lW
end
section
variable {X:Cx} {CX:iS} {k:Nat} {f C:Addr} {fd:FuncData} {ps ks:List Str} {sp:Sp} {E:XK} {x m:Str} {p pos apos Ir:Pos} {e o:Expr} {es:List Expr} {P2:List Keyword} {te ta:TE} {t tk:TA} {nm:Option Str}
variable {g:List Value→List Value→List Value} {gV:List V→List V→List V}
end
structure b8 (N P:List Str) (sc:Scope):Prop where
 kind:sc.kind=.function
 co:sc.isCoroutine=false
 gen:sc.isGenerator=false
 nd:N.Nodup
 pre:N.take P.length=P
 par:∀x∈P,sc.names.lookup x=some .local∨sc.names.lookup x=some .cell
 P4:∀y∈sc.names,y.2≠.free
variable {N:List Str} {sc:Scope}
theorem cV{P:List Str}(h1:sc.kind=.function:=by rfl)(h2:sc.isCoroutine=false:=by rfl)(h3:sc.isGenerator=false:=by rfl)(h4:N.Nodup:=by decide +kernel)(h5:N.take P.length=P:=by rfl)(h6:∀x∈P,sc.names.lookup x=some .local∨sc.names.lookup x=some .cell:=by decide +kernel)(h7:∀y∈sc.names,y.2≠.free:=by decide +kernel):b8 N P sc:=⟨h1,h2,h3,h4,h5,h6,h7⟩
theorem Iu{kindOf:Str→Option NameKind}{x:Str}:∀{binds:List (Str×Value)} {m:cJ},(∀v,(x,v)∉binds)→bindL kindOf binds m x=m x
 | [],_,_=>rfl
 | (n,v)::r,m,h=>by
  unfold bindL;rw [Iu fun w hw=>h w (bX _ hw)]
  split
  ·have:x≠n:=by rintro rfl;exact h v bV
   simp [this]
  ·rfl
theorem Iv{kindOf:Str→Option NameKind}{x:Str}:∀{binds:List (Str×Value)} {m:cJ},(∀v,(x,v)∉binds)→bindC kindOf binds m x=m x
 | [],_,_=>rfl
 | (n,v)::r,m,h=>by
  unfold bindC;rw [Iv fun w hw=>h w (bX _ hw)]
  split
  ·rfl
  ·have:x≠n:=by rintro rfl;exact h v bV
   simp [this]
theorem Iw{kindOf:Str→Option NameKind}{x:Str}{v:Value}:∀{P:List Str} {vs:List Value} {i:Nat} {m:cJ},P.Nodup→P[i]?=some x→vs[i]?=some v→kindOf x=some .local→
  bindL kindOf (P.zip vs) m x=some v
 | [],_,_,_,_,h,_,_=>by simp at h
 | _::_,[],_,_,_,_,h,_=>by simp at h
 | p::P,w::vs,0,m,nd,h1,h2,hk=>by simp at h1 h2;subst h1;subst h2;show bindL kindOf ((p,w)::P.zip vs) m p=_;unfold bindL;rw [Iu fun v hv=>(gq.mp nd).1 (List.of_mem_zip hv).1,ae hk];simp
 | p::P,w::vs,i+1,m,nd,h1,h2,hk=>by show bindL kindOf ((p,w)::P.zip vs) m x=_;unfold bindL;exact Iw (i:=i) (gq.mp nd).2 (by simpa using h1) (by simpa using h2) hk
theorem Iy{kindOf:Str→Option NameKind}{x:Str}{v:Value}:∀{P:List Str} {vs:List Value} {i:Nat} {m:cJ},P.Nodup→P[i]?=some x→vs[i]?=some v→kindOf x≠some .local→
  bindC kindOf (P.zip vs) m x=some v
 | [],_,_,_,_,h,_,_=>by simp at h
 | _::_,[],_,_,_,_,h,_=>by simp at h
 | p::P,w::vs,0,m,nd,h1,h2,hk=>by simp at h1 h2;subst h1;subst h2;show bindC kindOf ((p,w)::P.zip vs) m p=_;unfold bindC;rw [Iv fun v hv=>(gq.mp nd).1 (List.of_mem_zip hv).1,aa hk];simp
 | p::P,w::vs,i+1,m,nd,h1,h2,hk=>by show bindC kindOf ((p,w)::P.zip vs) m x=_;unfold bindC;exact Iy (i:=i) (gq.mp nd).2 (by simpa using h1) (by simpa using h2) hk
def start(N:List Str)(vs:List V):St:=vs.map some++List.replicate (N.length-vs.length) none
def jT(CX:iS)(P:Program)(w:World)(K:aE)(mg:cJ)(base:Heap)(N:List Str)(qual:Str)(scope:Scope)(f:Addr)(cd:Value)(A:Around)(outer:List Env)(s:Shared)(H:Hp)(E:XK):Cx where
 prog:=P
 w:=w
 K:=K
 mg:=mg
 base:=base
 A:=A.deeper (envOfC qual scope s.heap.objs.size f cd)
 N:=N
 s₀:=s
 H₀:=H
 env:=envOfC qual scope s.heap.objs.size f cd
 outer:=outer
 stack:=envOfC qual scope s.heap.objs.size f cd::outer
 ex:=[]
 calm:=true
 fn:=fun _=>true
 pn:=[]
 xe:=fun e s'=>wpAny (model P w) (A.deeper (envOfC qual scope s.heap.objs.size f cd)) (leaving (envOfC qual scope s.heap.objs.size f cd) e) (fun _ jr=>CX outer H s E e jr) (fun e' jr=>CX outer H s E e' jr) s'
theorem Iz{x:Str}(h:sc.names.lookup x=some .cell):∃c,(cellsFrom n sc.names []).lookup x=some c:=by have q:=PySem.W.cellsFrom_some sc.names n [] (.inl h);exact CQ.mp q
variable {CX:iS} {mg:cJ} {base:Heap} {qual:Str} {scope:Scope} {f:Addr}
theorem P5{cd:Value}{outer:List Env}{s1:Shared}{E:XK}{vs:List V}
  (S:b8 N ps scope) (hd:A.handled=none) (e0:Ac P w K mg base A outer s H) (hl:vs.length=ps.length) (r:Vals vs us)
  (x:InCallC s s.heap.objs.size (bindL (envOfC qual scope s.heap.objs.size f cd).kindOf (ps.zip us) fun _=>none) (cellsFrom (s.heap.objs.size+1) scope.names []) (bindC (envOfC qual scope s.heap.objs.size f cd).kindOf (ps.zip us) fun _=>none) s1) :
  Inv (jT CX P w K mg base N qual scope f cd A outer s H E) [] (start N vs) H s1:=by
 have lW:ps.length≤N.length:=by have:=dP List.length S.pre;rw [oi] at this;lia
 obtain ⟨h1,tk,rfl,hk⟩:=x.done;have xB:∀b:Addr,b∉(jT CX P w K mg base N qual scope f cd A outer s H E).ex:=fun b z=>absurd (show b∈([]:List Addr) from z) (by simp)
 refine ⟨⟨e0.mod,S.kind,rfl,rfl,ax _,fun y z c h1 h2=>?_,fun y hy=>?_,fun y c _ h=>?_,fun _=>hd,Around.frames_deeper e0.frames,.inr ⟨rfl,rfl⟩,fun b z=>absurd z (xB b),e0.bs,e0.jl,fun b _ _=>xB b,fun b z=>absurd z (xB b),e0.kF,e0.oB⟩,
  rfl,e0.bare,Un.kept hk,⟨_,x.toInCall.ns,fun i y v h1 h2 h3=>?_⟩,fun y c h=>⟨_,x.cell y c h⟩,e0.ay.fresh (ax _),fun y c h=>?_,fun p hp=>absurd (show p∈([]:aK) from hp) (by simp),e0.ay.kept hk,?_⟩
 ·exact name_of_addr x.apart (lE h1) (lE h2)
 ·have hy:scope.names.lookup y=some .cell∨scope.names.lookup y=some .free:=hy
  rcases hy with hy | hy;·exact Iz hy
  ·exact absurd rfl (S.P4 _ (lE hy))
 ·exact mP (x.above y c (lE h))
 ·have hi:i<vs.length:=by
   unfold start at h2;by_cases hi:i<vs.length;·exact hi
   ·rw [iM (by simpa using hi)] at h2
    rw [List.getElem?_replicate] at h2
    split at h2 <;> cases h2
  have ha:vs[i]?=some v:=by
   unfold start at h2;rw [iO (by simpa using hi),bq] at h2
   cases e:vs[i]? with
   | none=>rw [e] at h2;cases h2
   | some a=>rw [e] at h2;cases h2;rfl
  obtain ⟨u,hu,rv⟩:=r.get ha;have hp:ps[i]?=some y:=by rw [←S.pre,List.getElem?_take_of_lt (by lia)];exact h1
  have IA:ps.Nodup:=by rw [←S.pre];exact S.nd.sublist (List.take_sublist _ _)
  refine ⟨u,rv,?_⟩;rcases S.par y (kq hp) with k | k;·exact .inl ⟨k,Iw IA hp hu k⟩
  ·obtain ⟨c,e⟩:=Iz (n:=s.heap.objs.size+1) k
   refine .inr ⟨.inl k,c,e,?_⟩;have q:=x.cell y c e;rw [Iy IA hp hu (by show scope.names.lookup y≠_;rw [k];decide)] at q
   exact q
 ·exact e0.ay.fresh (mP (x.above y c (lE h)))
 ·unfold start
  show _=N.length;rw [di,aC,List.length_replicate];lia
theorem DC{name:Str}{params:Arguments}{body:List Stmt}{dV kV doc pm bW ct oc:Value}{an od:Option Addr}
  {kJ:Array (Option Value)} {sp:Sp} (lk:K.lookup f=some ⟨oc,od,.func (PySem.W.fnOf name qual params body scope dV kV doc pm an bW ct),kJ⟩) (eF:PySem.W.codeIn K bW qual=true) (S:b8 N ps scope)
  (len:∀vs H Q E,sp vs H Q E→vs.length=ps.length)
  (kK:∀(A:Around) (outer:List Env) (s:Shared) (H:Hp) (vs:List V) (Q:VK) (E:XK),dJ k (A.deeper (envOfC qual scope s.heap.objs.size f bW))→sp vs H Q E→
   ∃t,fE (jT CX P w K mg base N qual scope f bW A outer s H E) body t∧t {nx:=fun _ H'=>Q .aN H',rt:=Q} (start N vs) H) :
  bK P w K mg base CX (k+1) f (PySem.W.fnOf name qual params body scope dV kV doc pm an bW ct) ps sp:=by
 refine ⟨len,fun A outer s H args us vs Q E hr e0 hb r lY=>?_⟩;have hl:=len _ _ _ _ lY;have KX:K.In s.heap:=e0.mod.dv.keeps fun b o e=>(e0.bs b o e).1;have lim:s.heap.NoLimit:=e0.mod.nolimit.keeps fun b o e=>(e0.bs b o e).1;have P6:∀y∈ps.zip us,scope.names.lookup y.1=some .local∨(scope.names.lookup y.1=some .cell∧((cellsFrom (s.heap.objs.size+1) scope.names []).lookup y.1).isSome=true):=fun⟨n,v⟩ hy=>by
  rcases S.par n (List.of_mem_zip hy).1 with q | q;·exact .inl q
  ·exact .inr ⟨q,PySem.W.cellsFrom_some _ _ _ (.inl q)⟩
 refine codeAny_call_function hr.depth (KX _ _ lk) rfl S.co S.gen rfl (PySem.W.codeRec_of KX eF) (hb _ _ _ _ ?_);refine wpAny_newFunctionEnv_cells S.kind P6 fun env he s1 x=>?_;subst he;refine ⟨lim.keeps x.toInCall.keep,codeAny_func ?_⟩;obtain ⟨t,ht,hq⟩:=kK A outer s H vs Q E (hr.deeper _) lY;have I:Inv (jT CX P w K mg base N qual scope f bW A outer s H E) [] (start N vs) H s1:=P5 S hr.hd e0 hl r x;refine c_ (ht [] s1 (start N vs) H _ I hq) (fun fl s' hs=>?_) fun e s' hs=>hs;have fin:∀{σ':St} {H':Hp} {v:V} {u:Value},Inv (jT CX P w K mg base N qual scope f bW A outer s H E) [] σ' H' s'→RelV v u→Q v H'→CE outer P w H s Q u s':=
  fun{σ' H' v u} J rv q=>⟨v,H',J.os,J.bare,J.base,J.ay,rv,q⟩
 cases fl with
 | ret u=>obtain ⟨v,σ',H',J,rv,q⟩:=hs;exact fin J rv q
 | next=>obtain ⟨σ',H',J,q⟩:=hs;exact fin (v:=V.aN) (u:=Value.none) J rfl q
 | brk=>obtain ⟨_,_,_,q⟩:=hs;exact False.elim q
 | cont=>obtain ⟨_,_,_,q⟩:=hs;exact False.elim q
section
variable {X:Cx} {x:Str} {p pos:Pos} {e:Expr} {es:List Expr} {t:TA} {id T:String} {r:List V→Hp→VK→Prop}
def xC(r:List V→Hp→VK→Prop)(t:TA):TE:=fun σ H Q=>t σ H fun vs H1=>r vs H1 Q
theorem cC(hc:gR X (.builtin id) r)(hg:Gl X x)(hm:X.mg x=none)(hv:bootBuiltins x=some (.builtin id))(ha:PA X (e::es) t)(hn:x ≠ "__name__":=by decide)(qA:(x == ("__debug__":Str))=false:=by decide)
  (he:starEach (e::es) X.env=(false,eval e X.env)::starEach es X.env:=by rfl) (lW:(backTo pos (starEach es X.env)).any (·.1)=false:=by rfl):PE X (.Call (.Name x p) (e::es) [] pos) (xC r t):=by
 intro pins s σ H Q I h;refine zE (m9 I hg hm hv ?_ hn qA);exact PyProof.Rows.callWith_builtin1 (aJ (ha pos pins s σ H _ I h) fun us s1 ⟨vs,H1,I1,r1,q1⟩=>hc pins s1 σ H1 vs us Q I1 r1 q1) he lW
theorem iT(hc:gR X (.type T) r)(hg:Gl X x)(hm:X.mg x=none)(hv:bootBuiltins x=some (.type T))(ha:PA X (e::es) t)(hn:x ≠ "__name__":=by decide)(qA:(x == ("__debug__":Str))=false:=by decide)
  (he:starEach (e::es) X.env=(false,eval e X.env)::starEach es X.env:=by rfl) (lW:(backTo pos (starEach es X.env)).any (·.1)=false:=by rfl):PE X (.Call (.Name x p) (e::es) [] pos) (xC r t):=by
 intro pins s σ H Q I h;refine zE (m9 I hg hm hv ?_ hn qA);exact wV (aJ (ha pos pins s σ H _ I h) fun us s1 ⟨vs,H1,I1,r1,q1⟩=>hc pins s1 σ H1 vs us Q I1 r1 q1) he lW
end
end L2
namespace HT
open PySem PyProof.Rows
section
open PySem.SeqAt
open PySem.AutoSeq1 (wpAny_loadPart')
open PySem.MeetsSeq PySem.MeetsSeq2 PySem.MeetsSeq3
end
section
variable {prog:Program} {w:World} {A:Around} {E:aM} {s:Shared}
def fX(n d:Nat):Option Int→Nat
 | none=>d
 | some v=>if v<0 then (v+(n:Int)).toNat else min v.toNat n
theorem P7(n d:Nat):fX n d none=d:=rfl
theorem P8(n d k:Nat):fX n d (some (k:Int))=min k n:=by
 show (if (k:Int)<0 then ((k:Int)+(n:Int)).toNat else min (k:Int).toNat n)=min k n
 rw [aa (by lia),cQ]
end
end HT
namespace L2
open PySem PySem.Spec PyProof.Rows
abbrev TO:=St→Hp→(Option Int→Hp→Prop)→Prop
def PO(X:Cx)(e:Option Expr)(t:TO):Prop:=
 ∀(pins:aK) (s:Shared) (σ:St) (H:Hp) (Q:Option Int→Hp→Prop),Inv X pins σ H s→t σ H Q→
  wpAny (model X.prog X.w) X.A (evalPart e X.env) (fun u s'=>∃o H',Inv X pins σ H' s'∧IsPart u o∧Q o H') X.xe s
def P9:TO:=fun _ H Q=>Q none H
def P_(t:TE):TO:=fun σ H Q=>t σ H fun x H1=>∃i,x=.int i∧Q (some i) H1
theorem intsAre_of{ns:List Int}:∀{us:List Value},Vals (ns.map V.int) us→IntsAre us ns:=by
 induction ns with
 | nil=>intro us r;rw [sY] at r;cases r;exact .nil
 | cons n ns ih=>
  intro us r;rw [cR] at r;cases r with
  | cons r1 r2=>obtain ⟨t,e⟩:=r1;subst e;exact .cons n t (ih r2)
section
variable {X:Cx} {e:Expr} {te:TE} {lo hi:Option Expr} {tl th:TO} {pos p2:Pos}
theorem IC:PO X none P9:=by intro pins s σ H Q I h;rw [evalPart_none];exact dB ⟨none,H,I,.none,h⟩
theorem ID(h:PE X e te):PO X (some e) (P_ te):=by intro pins s σ H Q I hw;rw [evalPart_some];refine aJ (h pins s σ H _ I hw) fun u s1 ⟨x,H1,I1,r1,q1⟩=>?_;obtain ⟨i,rfl,q⟩:=q1;obtain ⟨t,rfl⟩:=r1;exact ⟨some i,H1,I1,.int i t,q⟩
def IE(X:Cx)(r:V→Option Int→Option Int→Hp→VK→Prop):Prop:=
 ∀(pins:aK) (s:Shared) (σ:St) (H:Hp) (x:V) (v vl vu:Value) (lo hi:Option Int) (sl:Addr) (Q:VK),Inv X pins σ H s→RelV x v→s.heap.IsSliceOf sl vl vu .none→IsPart vl lo→IsPart vu hi→r x lo hi H Q→
  ∃T id,typeLookup (.type T) "__getitem__"=pure (some (.builtin id))∧s.TypeIs v T∧wpAny (model X.prog X.w) X.A (getItem v (.ref sl)) (EP X pins σ Q) X.xe s
def Qa(r:V→Option Int→Option Int→Hp→VK→Prop)(te:TE)(tl th:TO):TE:=fun σ H Q=>te σ H fun x H1=>tl σ H1 fun l H2=>th σ H2 fun u H3=>r x l u H3 Q
theorem IF{r:V→Option Int→Option Int→Hp→VK→Prop}(hr:IE X r)(he:PE X e te)(hl:PO X lo tl)(hu:PO X hi th):PE X (.Subscript e (.Slice lo hi none p2) pos) (Qa r te tl th):=by intro pins s σ H Q I h;refine Subscript_ (aJ (he pins s σ H _ I h) fun v s1 ⟨x,H1,I1,r1,q1⟩=>?_);refine wpAny_Slice (aJ (hl pins s1 σ H1 _ I1 q1) fun vl s2 ⟨l,H2,I2,pl,q2⟩=>aJ (hu pins s2 σ H2 _ I2 q2) fun vu s3 ⟨u,H3,I3,pu,q3⟩=>?_);rw [evalPart_none];refine dB ?_;have I4:Inv X pins σ H3 {s3 with heap:=s3.heap.push {cls:=.type "slice",data:=.fields #[vl,vu,.none]}}:=I3.kept (t':=s3.toks) fun b ob q=>cg _ q;obtain ⟨T,id,hT,ht,hg⟩:=hr pins {s3 with heap:=s3.heap.push {cls:=.type "slice",data:=.fields #[vl,vu,.none]}} σ H3 x v vl vu l u s3.heap.objs.size Q I4 r1 (Heap.IsSliceOf.new ..) pl pu q3;show wpAny (model X.prog X.w) X.A (subscriptTail e (.Slice lo hi none p2) v (.ref s3.heap.objs.size)) (EP X pins σ Q) X.xe {s3 with heap:=s3.heap.push {cls:=.type "slice",data:=.fields #[vl,vu,.none]}};exact tail_any (ops:=[.ref s3.heap.objs.size,v]) ht hT hg (by with_unfolding_all rfl)
def nz(xs:List V)(lo hi:Option Int):List V:=(xs.drop (HT.fX xs.length 0 lo)).take (HT.fX xs.length xs.length hi-HT.fX xs.length 0 lo)
theorem Qb(xs:List V)(lo hi:Option Int):(nz xs lo hi).length≤xs.length:=by unfold nz;rw [oi,List.length_drop];lia
end
def jU(n:Nat)(i:Int):Option Nat:=if 0≤i then (if i<n then some i.toNat else none) else if -(n:Int)≤i then some (i+n).toNat else none
def gS{α:Type}(xs:List α)(i:Int):Option α:=(jU xs.length i).bind fun j=>xs[j]?
variable {i:Int} {j:Nat}
theorem IG{n:Nat}(h:jU n i=some j):seqIndex? i n=some j∧j<n∧-(n:Int)≤i∧i<n:=by
 unfold jU at h;by_cases h0:0≤i
 ·rw [ae h0] at h
  by_cases h1:i<n
  ·rw [ae h1] at h
   have e:i.toNat=j:=Option.some.inj h;exact ⟨by rw [seqIndex_of h0 h1,e],by lia,by lia,h1⟩
  ·rw [aa h1] at h;cases h
 ·rw [aa h0] at h
  by_cases h1:-(n:Int)≤i
  ·rw [ae h1] at h
   have e:(i+n).toNat=j:=Option.some.inj h;exact ⟨by rw [seqIndex_neg (by lia) h1,e],by lia,h1,by lia⟩
  ·rw [aa h1] at h;cases h
theorem DD{α:Type}{xs:List α}{v:α}(h:gS xs i=some v):∃j,seqIndex? i xs.length=some j∧xs[j]?=some v∧j<xs.length∧-(xs.length:Int)≤i∧i<xs.length:=by
 unfold gS at h;cases e:jU xs.length i with
 | none=>rw [e] at h;cases h
 | some j=>rw [e] at h;obtain ⟨h1,h2,h3,h4⟩:=IG e;exact ⟨j,h1,h,h2,h3,h4⟩
theorem iU{α:Type}{xs:List α}{v:α}(h:xs[j]?=some v):gS xs (j:Int)=some v:=by
 have hj:j<xs.length:=(cu.mp h).1;have e:jU xs.length (j:Int)=some j:=by unfold jU;rw [ae (by lia),ae (by lia)];simp
 unfold gS;rw [e];exact h
def IH(b:Expr):Prop:=∀o i,subscripted b false o i=operate [o,i] (getItem o i)
def tY(X:Cx)(r:R2):Prop:=
 ∀(value slice:Expr) (pins:aK) (s:Shared) (σ:St) (H:Hp) (x y:V) (v u:Value) (Q:VK),Inv X pins σ H s→RelV x v→RelV y u→r x y H Q→
  subscripted slice false v u=operate [v,u] (getItem v u)→wpAny (model X.prog X.w) X.A (subscriptTail value slice v u) (EP X pins σ Q) X.xe s
def DE(X:Cx)(id:String)(r:V→List V→Hp→VK→Prop):Prop:=
 ∀(pins:aK) (s:Shared) (σ:St) (H:Hp) (x:V) (xs:List V) (v:Value) (us:List Value) (Q:VK),Inv X pins σ H s→RelV x v→Vals xs us→r x xs H Q→
  wpAny (model X.prog X.w) X.A (call (.builtin id) (v::us)) (EP X pins σ Q) X.xe s
section
variable {X:Cx} {a b:Expr} {ta tb:TE} {pos:Pos}
variable {r:R2}
theorem Qc(hr:tY X r)(ha:PE X a ta)(hb:PE X b tb)(hs:IH b):PE X (.Subscript a b pos) (lR r ta tb):=by intro pins s σ H Q I h;exact Subscript_ (Dv ha hb I h fun v u s2 x y H2 I2 rx ry q=>hr a b pins s2 σ H2 x y v u Q I2 rx ry q (hs _ _))
theorem aR(hr:tY X r)(ha:PE X a ta)(hb:PE X b tb)(hs:IH b:=by exact fun _ _=>rfl):PE X (.Subscript a b pos) (lR r ta tb):=Qc hr ha hb hs
def DF(K:aE):R2:=fun x y H Q=>∃p xs i v,x=.ref p∧y=.int i∧a7 K H p xs∧gS xs i=some v∧Q v H
def II(K:aE):R2:=fun x y H Q=>∃p xs i v,x=.ref p∧y=.int i∧gC K H p xs∧gS xs i=some v∧Q v H
theorem cz:tY X (DF X.K):=by
 intro value slice pins s σ H x y v u Q I rx ry h hs;obtain ⟨p,xs,i,z,rfl,rfl,hq,he,q⟩:=h;cases rx;obtain ⟨t,rfl⟩:=ry;obtain ⟨its,r,pl,hz⟩:=I.list hq;obtain ⟨j,h1,h2,h3,h4,h5⟩:=DD he;obtain ⟨w,ew,eI⟩:=r.get h2;have hl:=r.length;have hn:=qy;have fin:EP X pins σ Q w s:=⟨z,H,I,eI,q⟩;by_cases h0:0≤i
 ·have hj:i.toNat=j:=by rw [seqIndex_of h0 h5] at h1;exact Option.some.inj h1
  exact item_listR pl.isList h0 (by lia) (by rw [hj];simpa using ew) fin hs
 ·have hj:(i+(its.toArray.size:Int)).toNat=j:=by
   rw [seqIndex_neg (by lia) h4] at h1
   rw [bZ,←hl];exact Option.some.inj h1
  exact subscriptTail_builtinR (x:=w) pl.isList.typeIs slot_list_getitem.lookup
   (wpAny_getItem_list_neg (Q:=fun r s'=>r=w∧EP X pins σ Q r s') pl.isList (by lia) (by rw [bZ] <;> lia) (by lia) (by rw [hj];simpa using ew) ⟨rfl,fin⟩) hs
theorem dZ:tY X (II X.K):=by
 intro value slice pins s σ H x y v u Q I rx ry h hs;obtain ⟨p,xs,i,z,rfl,rfl,hq,he,q⟩:=h;cases rx;obtain ⟨t,rfl⟩:=ry;obtain ⟨its,r,pl,hz⟩:=I.tuple hq;obtain ⟨j,h1,h2,h3,h4,h5⟩:=DD he;obtain ⟨w,ew,eI⟩:=r.get h2;have hl:=r.length;have hn:=qy;have fin:EP X pins σ Q w s:=⟨z,H,I,eI,q⟩
 exact subscriptTail_builtinR (x:=w) pl.typeIs slot_tuple_getitem.lookup
  (getItem_tuple (j:=j) (Q:=fun r s'=>r=w∧EP X pins σ Q r s') pl (by lia) (by lia) (by rw [bZ,←hl];exact h1) (by simpa using ew) ⟨rfl,fin⟩) hs
theorem Qd(its:List Value)(n j:Nat)(u:Value):Obj.mapSeq (·.setIfInBounds j u) {cls:=.type "list",data:=.seq its.toArray n}={cls:=.type "list",data:=.seq (its.set j u).toArray n}:=by simp [Obj.mapSeq]
theorem Inv.lst{pins:aK}{σ:St}{H:Hp}{s:Shared}{p:Addr}{xs:List V}(I:Inv X pins σ H s)(h:H p=some (.lst xs)) :
  ∃(its:List Value) (n:Nat),Vals xs its∧s.heap.get? p=some {cls:=.type "list",data:=.seq its.toArray n}∧xs.length≤sizeLine:=by
 obtain ⟨z,its,n,r,e⟩:=I.ay p _ h;exact ⟨its,n,r,e,z⟩
variable {pins:aK} {σ:St} {H:Hp} {s:Shared}
theorem Inv.Qe{p:Addr}{xs ys:List V}{its its':List Value}{n n':Nat}{f:Obj→Obj}(I:Inv X pins σ H s)(h:H p=some (.lst xs))
  (ho:s.heap.get? p=some {cls:=.type "list",data:=.seq its.toArray n}) (hf:f {cls:=.type "list",data:=.seq its.toArray n}={cls:=.type "list",data:=.seq its'.toArray n'}) (r:Vals ys its') (hz:ys.length≤sizeLine) (t:Nat) :
  Inv X pins σ (upd H p (.lst ys)) {s with heap:=s.heap.update p f,toks:=t}:=by
 have e:(s.heap.update p f).get? p=some {cls:=.type "list",data:=.seq its'.toArray n'}:=by rw [Heap.get?_update_self f ho (by rw [hf] <;> rfl),hf]
 refine I.write (x:=p) (e:=p) (by rw [h];trivial) (.inl rfl) (fun b u hb q=>(CS _ _ (Ne.symm hb)).trans q) ⟨_,e⟩ ?_
 exact ⟨hz,its',n',r,e⟩
def Qf:V→V→V→Hp→(Hp→Prop)→Prop:=fun o i v H Q=>∃p xs k j,o=.ref p∧i=.int k∧H p=some (.lst xs)∧jU xs.length k=some j∧Q (upd H p (.lst (xs.set j v)))
theorem set_list:Dq X Qf:=by
 intro pins s σ H o i v ov iv u Q I ro ri rv h;obtain ⟨p,xs,k,j,rfl,rfl,hp,hj,q⟩:=h;cases ro;obtain ⟨t,rfl⟩:=ri;obtain ⟨its,n,r,ho,hz⟩:=I.lst hp;obtain ⟨h1,h2,h3,h4⟩:=IG hj;have hl:=r.length;have hn:=qy;have I':Inv X pins σ (upd H p (.lst (xs.set j v))) {s with heap:=s.heap.update p (Obj.mapSeq (·.setIfInBounds j u))}:=
  I.Qe hp ho (Qd its n j u) (r.set rv j) (by rw [List.length_set];exact hz) s.toks
 by_cases h0:0≤k
 ·have hk:k.toNat=j:=by rw [seqIndex_of h0 h4] at h1;exact Option.some.inj h1
  exact PySem.W.ki_setAt ho h0 (by lia) (by rw [bZ,←hl];exact h4) (by rw [hk];exact ⟨_,I',q⟩)
 ·have hk:(k+(its.toArray.size:Int)).toNat=j:=by
   rw [seqIndex_neg (by lia) h3] at h1
   rw [bZ,←hl];exact Option.some.inj h1
  exact PySem.W.ki_setBack ho (by lia) (by rw [bZ,←hl];exact h3) (by lia) (by rw [hk];exact ⟨_,I',q⟩)
theorem Qg(lo hi:Option Int)(n:Nat):(sliceBounds lo hi none n).1=((HT.fX n 0 lo:Nat):Int)∧(sliceBounds lo hi none n).2.1=((HT.fX n n hi:Nat):Int)∧(sliceBounds lo hi none n).2.2=1:=by
 refine ⟨?_,?_,rfl⟩
 ·cases lo with
  | none=>simp [sliceBounds,HT.fX]
  | some i=>
   simp only [sliceBounds,HT.fX,Option.getD_none,show (1:Int)>0 by decide,if_true]
   by_cases h:i<0;·simp only [h,if_true] <;> lia
   ·simp only [h,if_false] <;> lia
 ·cases hi with
  | none=>simp [sliceBounds,HT.fX]
  | some i=>
   simp only [sliceBounds,HT.fX,Option.getD_none,show (1:Int)>0 by decide,if_true]
   by_cases h:i<0;·simp only [h,if_true] <;> lia
   ·simp only [h,if_false] <;> lia
theorem Qh(its:List Value)(lo hi:Option Int):slicePick its.toArray lo hi none=((its.drop (HT.fX its.length 0 lo)).take (HT.fX its.length its.length hi-HT.fX its.length 0 lo)).toArray:=by obtain ⟨h1,h2,h3⟩:=Qg lo hi its.toArray.size;unfold slicePick;rw [h1,h2,h3];simp only [sliceRange_one,pick_run,bZ] <;> rfl
def Qi(K:aE):V→Option Int→Option Int→Hp→VK→Prop:=fun x lo hi H Q=>∃a xs,x=.ref a∧a7 K H a xs∧∀p,H p=none→Q (.ref p) (upd H p (.lst (nz xs lo hi)))
theorem IJ:IE X (Qi X.K):=by
 intro pins s σ H x v vl vu lo hi sl Q I rx hs pl pu h;obtain ⟨a,xs,rfl,hx,q⟩:=h;cases rx;obtain ⟨its,r,ht,hz⟩:=I.list hx;have hlen:=r.length;refine ⟨"list",_,slot_list_getitem.lookup,ht.isList.typeIs,?_⟩;refine wpAny_getItem_list_slice ht.isList hs pl pu .none (by simp) ?_ (by rw [bZ] <;> lia)
 rw [Qh,←hlen];refine ⟨.ref s.heap.objs.size,_,I.laid (t':=s.toks) (o:=.lst (nz xs lo hi)) (fun b ob q=>cg _ q) (ax _) ?_,rfl,q _ (I.ay.fresh (ax _))⟩;exact ⟨bR (Qb xs lo hi) hz,_,0,(r.drop (HT.fX xs.length 0 lo)).take (HT.fX xs.length xs.length hi-HT.fX xs.length 0 lo),eX _ rfl⟩
def kL:V→Bool
 | .aN=>true
 | .bl _=>true
 | .int _=>true
 | .str _=>true
 | _=>false
def eK:V→V→Bool
 | .aN,.aN=>true
 | .bl a,.bl b=>a == b
 | .bl a,.int b=>(if a then 1 else 0) == b
 | .int a,.bl b=>a == (if b then 1 else 0)
 | .int a,.int b=>a == b
 | .str a,.str b=>a == b
 | _,_=>false
variable {y x:V} {u:Value}
theorem xD{A:Around}{v:Value}(ry:RelV y u)(rx:RelV x v)(fy:kL y=true)(fx:kL x=true):SeqAt.EqAt A s u v (eK y x):=by
 cases y with
 | aN=>
  cases ry;cases x with
  | aN=>cases rx;exact SeqAt.EqAt.same _
  | bl b=>cases rx;exact SeqAt.EqAt.none_bool b
  | int b=>obtain ⟨t,rfl⟩:=rx;exact SeqAt.EqAt.none_int b t
  | str b=>obtain ⟨t,rfl⟩:=rx;exact SeqAt.EqAt.none_str b t
  | _=>exact absurd (show false=true from fx) dA
 | bl a=>
  cases ry;cases x with
  | aN=>cases rx;exact SeqAt.EqAt.bool_none a
  | bl b=>cases rx;exact SeqAt.EqAt.bool_bool a b
  | int b=>obtain ⟨t,rfl⟩:=rx;exact SeqAt.EqAt.bool_int a b t
  | str b=>obtain ⟨t,rfl⟩:=rx;exact SeqAt.EqAt.bool_str a b t
  | _=>exact absurd (show false=true from fx) dA
 | int a=>
  obtain ⟨t',rfl⟩:=ry;cases x with
  | aN=>cases rx;exact SeqAt.EqAt.int_none a t'
  | bl b=>cases rx;exact SeqAt.EqAt.int_bool a t' b
  | int b=>obtain ⟨t,rfl⟩:=rx;exact SeqAt.EqAt.int_int a t' b t
  | str b=>obtain ⟨t,rfl⟩:=rx;exact SeqAt.EqAt.int_str a t' b t
  | _=>exact absurd (show false=true from fx) dA
 | str a=>
  obtain ⟨t',rfl⟩:=ry;cases x with
  | aN=>cases rx;exact SeqAt.EqAt.str_none a t'
  | bl b=>cases rx;exact SeqAt.EqAt.str_bool a t' b
  | int b=>obtain ⟨t,rfl⟩:=rx;exact SeqAt.EqAt.str_int a t' b t
  | str b=>obtain ⟨t,rfl⟩:=rx;exact SeqAt.EqAt.str_str a t' b t
  | _=>exact absurd (show false=true from fx) dA
 | _=>exact absurd (show false=true from fy) dA
def ic(x:V)(u:Value):Bool:=match u with
 | .none=>eK .aN x
 | .bool b=>eK (.bl b) x
 | .int i _=>eK (.int i) x
 | .str z _=>eK (.str z) x
 | _=>false
theorem IK(r:RelV y u)(f:kL y=true):ic x u=eK y x:=by
 cases y with
 | aN=>cases r;rfl
 | bl b=>cases r;rfl
 | int i=>obtain ⟨t,rfl⟩:=r;rfl
 | str z=>obtain ⟨t,rfl⟩:=r;rfl
 | _=>exact absurd (show false=true from f) dA
theorem xE{x:V}:∀{xs:List V} {us:List Value},Vals xs us→xs.all kL=true→us.any (ic x)=xs.any fun y=>eK y x
 | _,_,.nil,_=>rfl
 | y::xs,u::us,.cons r t,f=>by rw [List.all_cons,lF] at f;rw [oj,oj,IK r f.1,xE t f.2]
theorem xF{A:Around}{s:Shared}{x:V}{v:Value}(rx:RelV x v)(fx:kL x=true):∀{xs:List V} {us:List Value},Vals xs us→xs.all kL=true→∀u∈us,SeqAt.EqAt A s u v (ic x u)
 | _,_,.nil,_=>fun u hu=>by cases hu
 | y::xs,u::us,.cons r t,f=>fun u' hu=>by
  rw [List.all_cons,lF] at f;rcases bh.mp hu with rfl | hu;·rw [IK r f.1];exact xD r rx f.1 fx
  ·exact xF rx fx t f.2 u' hu
def ee(x:V)(xs:List V):Bool:=xs.any fun y=>eK y x
def Ad(K:aE)(neg:Bool):R2:=fun x y H Q=>∃p xs,y=.ref p∧(a7 K H p xs∨gC K H p xs)∧kL x=true∧xs.all kL=true∧Q (.bl (if neg then !ee x xs else ee x xs)) H
theorem IL:da X (compareOp .In) (Ad X.K false):=by
 intro pins s σ H x y v u Q I rx ry h;obtain ⟨p,xs,rfl,hq,fx,fs,q⟩:=h;cases ry;rcases hq with hq | hq
 ·obtain ⟨its,r,pl,hz⟩:=I.list hq
  refine SeqAt.in_listAt (ic x) pl.isList (fun w hw=>xF rx fx r fs w (by simpa using hw)) ⟨.bl _,H,I,rfl,?_⟩
  rw [show its.toArray.any (ic x)=its.any (ic x) by simp,xE r fs]
  exact q
 ·obtain ⟨its,r,pl,hz⟩:=I.tuple hq
  refine SeqAt.in_tupleAt (ic x) pl (fun w hw=>xF rx fx r fs w (by simpa using hw)) ⟨.bl _,H,I,rfl,?_⟩
  rw [show its.toArray.any (ic x)=its.any (ic x) by simp,xE r fs]
  exact q
theorem Qj:da X (compareOp .NotIn) (Ad X.K true):=by
 intro pins s σ H x y v u Q I rx ry h;obtain ⟨p,xs,rfl,hq,fx,fs,q⟩:=h;cases ry;rcases hq with hq | hq
 ·obtain ⟨its,r,pl,hz⟩:=I.list hq
  refine SeqAt.notIn_listAt (ic x) pl.isList (fun w hw=>xF rx fx r fs w (by simpa using hw)) ⟨.bl _,H,I,rfl,?_⟩
  rw [show its.toArray.any (ic x)=its.any (ic x) by simp,xE r fs]
  exact q
 ·obtain ⟨its,r,pl,hz⟩:=I.tuple hq
  refine SeqAt.notIn_tupleAt (ic x) pl (fun w hw=>xF rx fx r fs w (by simpa using hw)) ⟨.bl _,H,I,rfl,?_⟩
  rw [show its.toArray.any (ic x)=its.any (ic x) by simp,xE r fs]
  exact q
theorem jt:gR X (.builtin "len") (fun xs H Q=>∃p ys,xs=[.ref p]∧(a7 X.K H p ys∨gC X.K H p ys)∧Q (.int ys.length) H):=by
 intro pins s σ H xs us Q I r h;obtain ⟨p,ys,rfl,hq,q⟩:=h;obtain ⟨u,rfl,rx⟩:=vals1 r;cases rx;have hn:=qy;rcases hq with hq | hq
 ·obtain ⟨its,r',pl,hz⟩:=I.list hq
  have hlen:=r'.length;exact Calls.call_len_list pl.isList (by simp only [bZ] <;> lia) ⟨.int ys.length,H,I.tok _,⟨s.toks+1,by rw [bZ,hlen]⟩,q⟩
 ·obtain ⟨its,r',pl,hz⟩:=I.tuple hq
  have hlen:=r'.length;exact len_tuple pl (by simp only [bZ] <;> lia) ⟨.int ys.length,H,I.tok _,⟨s.toks+1,by rw [bZ,hlen]⟩,q⟩
theorem Qk:gR X (.type "list") (fun xs H Q=>∃p ys,xs=[.ref p]∧(a7 X.K H p ys∨gC X.K H p ys)∧∀l,H l=none→Q (.ref l) (upd H l (.lst ys))):=by
 intro pins s σ H xs us Q I r h;obtain ⟨p,ys,rfl,hq,q⟩:=h;obtain ⟨u,rfl,rx⟩:=vals1 r;cases rx
 have fin:∀(its:List Value),Vals ys its→ys.length≤sizeLine→∀(h':Heap) (c':Nat),(∀b o',s.heap.get? b=some o'→h'.get? b=some o')→
   h'.get? s.heap.objs.size=some {cls:=.type "list",dict:=none,data:=.seq its.toArray c',slots:=#[]}→EP X pins σ Q (.ref s.heap.objs.size) {s with heap:=h'}:=fun its r' hz h' c' kp e=>
  ⟨.ref s.heap.objs.size,_,I.laid (t':=s.toks) kp (ax _) (show cw X.prog X.w _ h' _ (.lst ys) from ⟨hz,its,c',r',e⟩),rfl,q _ (I.ay.fresh (ax _))⟩
 rcases hq with hq | hq
 ·obtain ⟨its,r',pl,hz⟩:=I.list hq
  have hlen:=r'.length;obtain ⟨o,ho,hc,n,hd⟩:=pl.isList;exact call_list_seq p (.inl rfl) ho hc hd (fun h' c' kp e=>fin its r' hz h' c' kp e) (by simp only [bZ] <;> lia)
 ·obtain ⟨its,r',pl,hz⟩:=I.tuple hq
  have hlen:=r'.length;obtain ⟨o,ho,hc,n,hd⟩:=pl;exact call_list_seq p (.inr rfl) ho hc hd (fun h' c' kp e=>fin its r' hz h' c' kp e) (by simp only [bZ] <;> lia)
theorem xG:gR X (.type "tuple") (fun xs H Q=>∃p ys,xs=[.ref p]∧((a7 X.K H p ys∧∀l,H l=none→Q (.ref l) (upd H l (.tup ys)))∨(gC X.K H p ys∧Q (.ref p) H))):=by
 intro pins s σ H xs us Q I r h;obtain ⟨p,ys,rfl,h⟩:=h;obtain ⟨u,rfl,rx⟩:=vals1 r;cases rx;rcases h with ⟨hq,q⟩ | ⟨hq,q⟩
 ·obtain ⟨its,r',pl,hz⟩:=I.list hq
  have hlen:=r'.length;refine call_tuple_list pl.isList (fun h' kp=>?_) (by simp only [bZ] <;> lia)
  have I1:Inv X pins σ H {s with heap:=h'}:=I.kept (t':=s.toks) kp;have I2:Inv X pins σ (upd H h'.objs.size (.tup ys)) {s with heap:=h'.push {cls:=.type "tuple",data:=.seq its.toArray}}:=
   I1.laid (t':=s.toks) (fun b o e=>cg _ e) (ax _) (show cw X.prog X.w _ _ _ (.tup ys) from ⟨hz,its,r',IsTup.new _ _⟩)
  exact ⟨.ref h'.objs.size,_,I2,rfl,q _ (I1.ay.fresh (ax _))⟩
 ·obtain ⟨its,r',pl,hz⟩:=I.tuple hq
  exact call_tuple_same pl ⟨.ref p,H,I,rfl,q⟩
def DG(K:aE)(T:String)(x:V)(H:Hp):Prop:=match x with
 | .str _=>T="str"
 | .int _=>T="int"
 | .ref p=>(T="list"∧∃xs,a7 K H p xs)∨(T="tuple"∧∃o,K.lookup p=some o∧o.cls=.type "tuple"∧o.dict=none) ∨
   (T="dict"∧((∃kvs,H p=some (.dK kvs))∨∃kvs,H p=some (.dT kvs)))∨(T="set"∧∃S n,H p=some (.set S n))
 | _=>False
theorem IM{T:String}{v:Value}(I:Inv X pins σ H s)(r:RelV x v)(ty:DG X.K T x H) :
  s.TypeIs v T∧∀a,v=.ref a→∃ob,s.heap.get? a=some ob∧ob.dict=none:=by
 cases x with
 | str z=>obtain ⟨t,rfl⟩:=r;cases (show T="str" from ty);exact ⟨typeIs_str s z t,fun _ e=>nomatch e⟩
 | int i=>obtain ⟨t,rfl⟩:=r;cases (show T="int" from ty);exact ⟨typeIs_int s i t,fun _ e=>nomatch e⟩
 | ref p=>
  cases r;rcases ty with ⟨rfl,xs,hq⟩ | ⟨rfl,o,hk,hc,hd⟩ | ⟨rfl,hk⟩ | ⟨rfl,S,n,hk⟩
  ·obtain ⟨its,_,pl,_⟩:=I.list hq
   refine ⟨pl.isList.typeIs,fun a e=>?_⟩;cases e;obtain ⟨o,n,e,c,hd,_⟩:=pl;exact ⟨o,e,hd⟩
  ·refine ⟨⟨o,I.ft p o hk,hc⟩,fun a e=>?_⟩
   cases e;exact ⟨o,I.ft _ o hk,hd⟩
  ·have z:∃o,s.heap.get? p=some o∧o.ExactDict:=by
    rcases hk with ⟨kvs,hk⟩ | ⟨kvs,hk⟩
    ·obtain ⟨_,_,_,_,o,_,_,e,ex,_⟩:=I.ay p _ hk
     exact ⟨o,e,ex⟩
    ·obtain ⟨_,_,_,_,o,_,_,e,ex,_⟩:=I.ay p _ hk
     exact ⟨o,e,ex⟩
   obtain ⟨o,e,ex⟩:=z;refine ⟨⟨o,e,ex.1⟩,fun a e2=>?_⟩;cases e2;exact ⟨o,e,ex.2.1⟩
  ·obtain ⟨o,_,_,_,e,ex,_⟩:=I.ay p _ hk
   refine ⟨⟨o,e,ex.1⟩,fun a e2=>?_⟩;cases e2;exact ⟨o,e,ex.2.1⟩
 | _=>exact False.elim ty
def Ql(K:aE)(T:String)(r:V→List V→Hp→VK→Prop)(to:TE):TE:=fun σ H Q=>to σ H fun x H1=>DG K T x H1∧r x [] H1 Q
def IP(K:aE)(T:String)(r:V→List V→Hp→VK→Prop)(to:TE)(t:TA):TE:=fun σ H Q=>to σ H fun x H1=>DG K T x H1∧t σ H1 fun xs H2=>r x xs H2 Q
variable {o e:Expr} {es:List Expr} {to:TE} {t:TA} {name:Str} {apos eZ:Pos} {T id:String} {r:V→List V→Hp→VK→Prop}
theorem Qm(pa:PlainAttrs T)(slot:Slot T name id)(xH:typeOf (.builtin id)=pure (.type "method_descriptor"))(hm:DE X id r)(ho:PE X o to)
  (xI:attributeBase o name X.env (eval o X.env)=eval o X.env:=by rfl) (xJ:(apos.endLine == eZ.line)=true:=by rfl):PE X (.Call (.Attribute o name apos) [] [] eZ) (Ql X.K T r to):=by
 intro pins s σ H Q I h;refine wpAny_Call_method0_late xI xJ (aJ (ho pins s σ H _ I h) fun v s1 ⟨x,H1,I1,r1,ty,q1⟩=>?_);obtain ⟨h1,h2⟩:=IM I1 r1 ty;exact ⟨T,id,pa,slot,xH,h1,h2,Calls.callWith_builtin rfl (PySem.evalArgs_none (hm pins s1 σ H1 x [] v [] Q I1 r1 .nil q1))⟩
theorem fF(pa:PlainAttrs T)(slot:Slot T name id)(xH:typeOf (.builtin id)=pure (.type "method_descriptor"))(hm:DE X id r)(ho:PE X o to)(ha:PA X (e::es) t)
  (xI:attributeBase o name X.env (eval o X.env)=eval o X.env:=by rfl)
  (DH:((backTo eZ (starEach (e::es) X.env)).all (fun x=>!x.1) && (backToKw eZ (keywordEach [] X.env)).all (fun x=>x.1.isSome)
   && decide ((e::es).length+([]:List Keyword).length+(if ([]:List Keyword).isEmpty then 0 else 1)<30))=true:=by rfl)
  (xJ:(apos.endLine == eZ.line)=true:=by rfl) (hs:starEach (e::es) X.env=(false,eval e X.env)::starEach es X.env:=by rfl) (DI:(backTo eZ (starEach es X.env)).any (·.1)=false:=by rfl) :
  PE X (.Call (.Attribute o name apos) (e::es) [] eZ) (IP X.K T r to t):=by
 intro pins s σ H Q I h;refine wpAny_Call_method_late xI DH xJ rfl (aJ (ho pins s σ H _ I h) fun v s1 ⟨x,H1,I1,r1,ty,q1⟩=>?_);obtain ⟨h1,h2⟩:=IM I1 r1 ty;refine ⟨T,id,pa,slot,xH,h1,h2,?_⟩;have hA:=ha eZ pins s1 σ H1 _ I1 q1;rw [hs] at hA ⊢;refine Calls.callWith_builtin (by show (false || (backTo eZ (starEach es X.env)).any (·.1))=false;rw [DI] <;> rfl) (Calls.evalArgs_plain ?_)
 exact aJ hA fun us s2 ⟨vs,H2,I2,r2,q2⟩=>hm pins s2 σ H2 x vs v us Q I2 r1 r2 q2
end
def tZ(X:Cx)(id:String)(r:V→List V→Hp→VK→Prop):Prop:=
 ∀(pins:aK) (s:Shared) (σ:St) (H:Hp) (x:V) (xs:List V) (v:Value) (us:List Value) (Q:VK),Inv X pins σ H s→RelV x v→Vals xs us→r x xs H Q→
  wpAny (model X.prog X.w) X.A (call (.builtin id) (v::us)) (EP X pins σ Q) X.xe s
theorem Vals.one:∀{x:V} {us:List Value},Vals [x] us→∃u,us=[u]∧RelV x u
 | _,_,.cons r .nil=>⟨_,rfl,r⟩
theorem Vals.zero:∀{us:List Value},Vals [] us→us=[]
 | _,.nil=>rfl
variable {xs:List V} {us:List Value}
theorem Vals.dropLast(h:Vals xs us):Vals xs.dropLast us.dropLast:=by
 induction h with
 | nil=>exact .nil
 | cons r t ih=>
  cases t with
  | nil=>exact .nil
  | cons q t'=>exact .cons r ih
theorem Vals.eraseIdx:∀{xs:List V} {us:List Value} (i:Nat),Vals xs us→Vals (xs.eraseIdx i) (us.eraseIdx i)
 | _,_,_,.nil=>.nil
 | _,_,0,.cons _ t=>t
 | _,_,i+1,.cons r t=>.cons r (Vals.eraseIdx i t)
theorem Vals.reverse(h:Vals xs us):Vals xs.reverse us.reverse:=by
 induction h with
 | nil=>exact .nil
 | cons r t ih=>rw [List.reverse_cons,List.reverse_cons];exact Vals.append ih (.cons r .nil)
theorem Vals.rep{xs:List V}{us:List Value}(h:Vals xs us):∀k:Nat,Vals (List.replicate k xs).flatten (List.replicate k us).flatten
 | 0=>.nil
 | k+1=>by rw [mQ,mQ,sZ,sZ];exact Vals.append h (Vals.rep h k)
variable {α:Type}
theorem Qn(l:List α):l.eraseIdx (l.length-1)=l.dropLast:=by
 induction l with
 | nil=>rfl
 | cons a r ih=>
  cases r with
  | nil=>rfl
  | cons b r=>
   have e:(a::b::r).length-1=((b::r).length-1)+1:=by have h1:(a::b::r).length=r.length+2:=rfl;have h2:(b::r).length=r.length+1:=rfl;lia
   rw [e,List.eraseIdx_cons_succ,ih]
   all_goals rfl
theorem DJ{α:Type}:∀(l:List α) (i:Nat),(l.eraseIdx i).length≤l.length
 | [],_=>ax _
 | _::_,0=>jJ _
 | _::r,i+1=>Nat.succ_le_succ (DJ r i)
theorem foldl_rep(its:List Value):∀(k:Nat) (acc:List Value),
  List.foldl (fun x1 x2=>x1++x2) acc.toArray (List.replicate k its.toArray)=(acc++(List.replicate k its).flatten).toArray
 | 0,acc=>by simp
 | k+1,acc=>by
  have e:acc.toArray++its.toArray=(acc++its).toArray:=by simp
  have e2:(acc++its)++(List.replicate k its).flatten=acc++(List.replicate (k+1) its).flatten:=by rw [mQ,sZ,gr]
  rw [←e2,←foldl_rep its k (acc++its),←e,mQ,List.foldl_cons]
section
variable {X:Cx} {pins:aK} {σ:St} {H:Hp} {s:Shared} {l b:Addr} {xs ys zs:List V}
variable {its:List Value} {n t':Nat}
theorem Inv.xK{its':List Value}{f:Array Value→Array Value}(I:Inv X pins σ H s)(hH:H l=some (.lst xs))
  (e:s.heap.get? l=some {cls:=.type "list",data:=.seq its.toArray n}) (hf:f its.toArray=its'.toArray) (hv:Vals ys its') (hz:ys.length≤sizeLine) :
  Inv X pins σ (upd H l (.lst ys)) {s with heap:=s.heap.update l (Obj.mapSeq f),toks:=t'}:=by
 have q:=PySem.IsL.update e f;rw [hf] at q;refine I.write (x:=l) (e:=l) (by rw [hH];exact trivial) (.inl rfl) (fun b' u hb hu=>(CS s.heap (Obj.mapSeq f) (Ne.symm hb)).trans hu) ⟨_,q⟩ ?_
 exact ⟨hz,its',_,hv,q⟩
theorem Inv.IQ(I:Inv X pins σ H s)(hv:Vals ys its)(hz:ys.length≤sizeLine) :
  Inv X pins σ (upd H s.heap.objs.size (.lst ys)) {s with heap:=s.heap.push {cls:=.type "list",data:=.seq its.toArray},toks:=t'}:=
 I.laid (fun _ _ q=>cg _ q) (ax _) ⟨hz,its,0,hv,eX _ rfl⟩
theorem Inv.fresh(I:Inv X pins σ H s):H s.heap.objs.size=none:=I.ay.fresh (ax _)
theorem Inv.l5(I:Inv X pins σ H s)(hH:H l=some (.lst xs)):xs.length≤sizeLine∧∃(its:List Value) (n:Nat),Vals xs its∧xs.length=its.length∧s.heap.get? l=some {cls:=.type "list",data:=.seq its.toArray n}:=by obtain ⟨z,its,n,r,e⟩:=I.ay l _ hH;exact ⟨z,its,n,r,r.length,e⟩
theorem IS(h:n≤sizeLine):Builtin.List.listTooLong n=false:=by unfold Builtin.List.listTooLong;exact bL (by lia)
end
section
variable {X:Cx}
def Qo:V→List V→Hp→VK→Prop:=fun x vs H Q=>∃l xs y,x=.ref l∧vs=[y]∧H l=some (.lst xs)∧xs.length<sizeLine∧Q .aN (upd H l (.lst (xs++[y])))
theorem ie:tZ X "list.append" Qo:=by
 intro pins s σ H x vs v us Q I rx rv h;obtain ⟨l,xs,y,rfl,rfl,hH,hz,q⟩:=h;cases rx;obtain ⟨u,rfl,ru⟩:=rv.one;obtain ⟨z,its,n,r,hl,e⟩:=I.l5 hH;refine om F.slot_list_append ⟨_,e,rfl⟩ F.entry_list_append (F.args_list_append_2 _ _) (PySem.list_append l its.toArray n u (by rw [bZ];lia)) ⟨e,?_⟩
 refine ⟨.aN,_,I.xK (its':=its++[u]) hH e (by simp) (r.append (.cons ru .nil)) ?_,rfl,q⟩
 rw [di,kr];lia
def Qp:V→List V→Hp→VK→Prop:=fun x vs H Q=>∃l b xs zs,x=.ref l∧vs=[.ref b]∧H l=some (.lst xs)∧H b=some (.lst zs)∧xs.length+zs.length≤sizeLine∧Q .aN (upd H l (.lst (xs++zs)))
theorem IT:tZ X "list.extend" Qp:=by
 intro pins s σ H x vs v us Q I rx rv h;obtain ⟨l,b,xs,zs,rfl,rfl,hH,hB,hz,q⟩:=h;cases rx;obtain ⟨u,rfl,ru⟩:=rv.one;cases ru;obtain ⟨z,its,n,r,hl,e⟩:=I.l5 hH;obtain ⟨z2,oJ,n2,r2,Qq,e2⟩:=I.l5 hB;have hsz:its.toArray.size+oJ.toArray.size≤sizeLine:=by rw [bZ,bZ];lia
 have DK:¬(!its.toArray.isEmpty && Builtin.List.listTooLong (its.toArray.size+oJ.toArray.size))=true:=by rw [IS hsz,Bool.and_false];exact dA
 refine om F.slot_list_extend ⟨_,e,rfl⟩ F.entry_list_extend (F.args_list_extend_2 _ _)
  (AutoSeq1.list_extend_list_list_0 l its.toArray n b oJ.toArray n2 DK (by rw [bZ];lia) (by lia)) ⟨e,e2,?_⟩
 refine ⟨.aN,_,I.xK (its':=its++oJ) hH e (by simp) (r.append r2) ?_,rfl,q⟩
 rw [di];lia
def Qr:V→List V→Hp→VK→Prop:=fun x vs H Q=>∃l xs y,x=.ref l∧vs=[]∧H l=some (.lst xs)∧xs[xs.length-1]?=some y∧Q y (upd H l (.lst xs.dropLast))
theorem Qs:tZ X "list.pop" Qr:=by
 intro pins s σ H x vs v us Q I rx rv h;obtain ⟨l,xs,y,rfl,rfl,hH,hy,q⟩:=h;cases rx;have l7:=rv.zero;subst l7;obtain ⟨z,its,n,r,hl,e⟩:=I.l5 hH;obtain ⟨u,hu,ru⟩:=r.get hy;have qB:its.toArray[its.toArray.size-1]?=some u:=by show its.toArray[its.length-1]?=some u;rw [←wW,←hl];exact hu
 refine om F.slot_list_pop ⟨_,e,rfl⟩ F.entry_list_pop (F.args_list_pop_1 _) (MeetsSeq.list_pop_last l its.toArray n u qB (by rw [bZ];lia)) ⟨e,?_⟩
 refine ⟨y,_,I.xK (its':=its.dropLast) hH e ?_ r.dropLast ?_,ru,q⟩
 ·show its.toArray.eraseIdxIfInBounds (its.toArray.size-1)=its.dropLast.toArray
  rw [bZ,CT,Qn]
 ·rw [List.length_dropLast]
  lia
def Qt:V→List V→Hp→VK→Prop:=fun x vs H Q=>∃l xs i k y,x=.ref l∧vs=[.int i]∧H l=some (.lst xs)∧-(2 ^ 63)≤i∧i<2 ^ 63∧seqIndex? i xs.length=some k∧xs[k]?=some y∧Q y (upd H l (.lst (xs.eraseIdx k)))
theorem Qu:tZ X "list.pop" Qt:=by
 intro pins s σ H x vs v us Q I rx rv h;obtain ⟨l,xs,i,k,y,rfl,rfl,hH,h1,h2,hk,hy,q⟩:=h;cases rx;obtain ⟨u,rfl,ru⟩:=rv.one;obtain ⟨t,rfl⟩:=ru;obtain ⟨z,its,n,r,hl,e⟩:=I.l5 hH;obtain ⟨w,hw,eI⟩:=r.get hy
 refine om F.slot_list_pop ⟨_,e,rfl⟩ F.entry_list_pop (F.args_list_pop_2 _ _)
  (MeetsSeq.list_pop_at l its.toArray n i t k w (fitsIndex_both h1 h2) (by rw [bZ,←hl];exact hk) (by rw [←wW];exact hw) (by rw [bZ];lia)) ⟨e,?_⟩
 refine ⟨y,_,I.xK (its':=its.eraseIdx k) hH e ?_ (r.eraseIdx k) ?_,eI,q⟩
 ·show its.toArray.eraseIdxIfInBounds k=(its.eraseIdx k).toArray
  rw [CT]
 ·have:=DJ xs k
  lia
def Qv:R2:=fun x y H Q=>∃l b xs zs,x=.ref l∧y=.ref b∧H l=some (.lst xs)∧H b=some (.lst zs)∧xs.length+zs.length≤sizeLine∧∀p,H p=none→Q (.ref p) (upd H p (.lst (xs++zs)))
theorem DL:da X (binaryOp .Add) Qv:=by
 intro pins s σ H x y v u Q I rx ry h;obtain ⟨l,b,xs,zs,rfl,rfl,hH,hB,hz,q⟩:=h;cases rx;cases ry;obtain ⟨z,its,n,r,hl,e⟩:=I.l5 hH;obtain ⟨z2,oJ,n2,r2,Qq,e2⟩:=I.l5 hB;refine PySem.P.add_list e e2 ?_ (by rw [bZ,bZ];lia)
 have ea:its.toArray++oJ.toArray=(its++oJ).toArray:=by simp
 rw [ea];exact ⟨.ref _,_,I.IQ (t':=s.toks) (r.append r2) (by rw [di];lia),rfl,q _ I.fresh⟩
def Qw:R2:=fun x y H Q=>∃l k xs,x=.ref l∧y=.int k∧H l=some (.lst xs)∧-(2 ^ 63)≤k∧k<2 ^ 63∧xs.length*k.toNat≤sizeLine ∧
 ∀p,H p=none→Q (.ref p) (upd H p (.lst (List.replicate k.toNat xs).flatten))
theorem len_rep(xs:List α)(k:Nat):(List.replicate k xs).flatten.length=k*xs.length:=by
 induction k with
 | zero=>simp
 | succ k ih=>rw [mQ,sZ,di,ih,Nat.succ_mul,Nat.add_comm]
theorem IU:da X (binaryOp .Mult) Qw:=by
 intro pins s σ H x y v u Q I rx ry h;obtain ⟨l,k,xs,rfl,rfl,hH,h1,h2,hz,q⟩:=h;cases rx;obtain ⟨t,rfl⟩:=ry;obtain ⟨z,its,n,r,hl,e⟩:=I.l5 hH;have hlen:its.toArray.size*k.toNat≤sizeLine:=by rw [bZ,←hl];exact hz
 have Qx:¬its.toArray.size*k.toNat>(2 ^ 63-1) / 8:=by
  have:(sizeLine:Nat)≤(2 ^ 63-1) / 8:=by decide
  lia
 have DM:¬(!Builtin.List.listFitsIndex k)=true:=by rw [fitsIndex_both h1 h2];exact dA
 have DK:¬Builtin.List.listTooLong (its.toArray.size*k.toNat)=true:=by rw [IS hlen];exact dA
 have Qy:List.foldl (fun x1 x2=>x1++x2) #[] (List.replicate (if its.toArray.isEmpty=true then 0 else k.toNat) its.toArray)=(List.replicate k.toNat its).flatten.toArray:=by
  have f0:∀m:Nat,List.foldl (fun x1 x2=>x1++x2) #[] (List.replicate m its.toArray)=(List.replicate m its).flatten.toArray:=fun m=>by have:=foldl_rep its m [];rw [List.nil_append] at this;exact this
  rw [f0];cases its with
  | nil=>simp
  | cons a r'=>rw [aa (by simp)]
 refine wpAny_binaryOp_repeat_ref (T:="list") (U:="int") (by decide) ⟨_,e,rfl⟩ (fun s'=>typeIs_int s' k t) noFill_list_mul F.fills_int_mul F.slot_int_rmul repeat_list F.slot_int_index.lookup
  (om F.slot_int_rmul (typeIs_int s k t) F.entry_int_rmul (F.args_int_rmul_2 _ _) (int___rmul___int_list k t l its.toArray n)
   ⟨e,rfl,⟨_,e,rfl⟩,om F.slot_list_mul ⟨_,e,rfl⟩ F.entry_list_mul (F.args_list_mul_2 _ _) (AutoListH.list___mul___list_int_3 l its.toArray n k t DM Qx DK) ⟨e,?_⟩⟩)
 rw [Qy];exact ⟨.ref _,_,I.IQ (t':=s.toks) (r.rep k.toNat) (by rw [len_rep,Nat.mul_comm];exact hz),rfl,q _ I.fresh⟩
end
section
variable {prog:Program} {w:World} {A:Around} {E:aM} {s:Shared}
end
section
variable {X:Cx}
end
end L2
namespace Att
open PySem PySem.W PySem.Calls PyProof.Rows
variable {P:Params} {h:Heap}
theorem Qz:∀(ns:List Int) (vs:List Value),WellAll P h vs (ns.map WData.int)→IntsAre vs ns:=by
 intro ns
 induction ns with
 | nil=>intro vs w;rw [sY] at w;cases w;exact .nil
 | cons n ns ih=>
  intro vs w;rw [cR] at w;cases w with
  | cons a b=>cases a;exact .cons _ _ (ih _ b)
variable {l:OpenLaw} {n:Nat}
theorem QA(hn:l.most=some n){args:List WData}{vals:List Value}
  (Ae:l.row.toRowW.claim.pre args=true) (DN:WellAll P h vals args) :
  ∃a vs ns,vals=[Value.ref a]∧args=[WData.list (ns.map WData.int)]∧h.get? a=some {cls:=.type "list",data:=.seq vs.toArray}∧IntsAre vs ns∧ns.length≤n:=by
 have QB:WShape.hasAll [] args [.list .int]=true:=(pre_splitW Ae).1;have hc:l.pre.holds [] {args:=args}=true:=(pre_splitW Ae).2;obtain ⟨d,r,rfl,h1,h2⟩:=hasAllW_cons QB;obtain rfl:=hasAllW_nil h2;obtain ⟨xs,rfl,h3⟩:=hasW_list h1;obtain ⟨ns,rfl⟩:=items_int h3;have hlen:ns.length≤n:=by
  unfold OpenLaw.pre at hc;have h4:(WTm.not (.lt (.lit (.int (n:Int))) (.len (.arg 0)))).holds [] {args:=[.list (ns.map .int)]}=true:=by have h4:=(holds_andW hc).1;rw [hn] at h4;exact h4
  have h5:=condW_of h4 (w_not (w_lt w_lit (w_len_list (w_arg rfl))));rw [aC] at h5;refine Nat.le_of_not_lt fun q=>?_;have q':(n:Int)<((ns.length:Nat):Int):=by lia
  first
   | (rw [a_ q'] at h5;exact absurd h5 (by decide))
   | (simp at h5;lia)
 cases DN with
 | cons w1 w2=>
  cases w2;cases w1 with
  | list ho DO=>exact ⟨_,_,ns,rfl,rfl,ho,Qz ns _ DO,hlen⟩
theorem QC(l:OpenLaw)(args:List WData):l.row.toRowW.claim.post args (.bool true) args=true:=
 postW_of (r:=l.row.toRowW) (X:=(true == true))
  (show WShape.has [] (.bool true) .bool=true by first | rfl | decide | simp [WShape.has,WShape.arms,WShape.armsAll])
  (show (WTm.eq .res (.lit (.bool true))).value [] {args:=args,res:=some (.bool true),after:=args}=some (.bool (true == true)) from w_eq_bool (w_res rfl) w_lit) rfl
theorem QD{q:Program}{loose:List Str}{XP:(Str→Option Value)→Heap→Prop}{YP:World→Heap→Prop}{d:DefRec}
  (hn:l.most=some n) (xM:d.params.defaults=[])
  (call:∀(w:World) (s₀ s₁:Shared) (mg mb:cJ) (fa:Addr) (o:Obj) (pm cd doc:Value) (a:Addr) (vs:List Value) (ns:List Int),
   Ground q loose [] XP w s₀ mg mb s₁.heap→YP w s₁.heap→
   s₁.heap.get? fa=some o→o.data=.func (docDef d.name d.params d.body d.scope pm cd doc)→s₁.heap.CodeRec cd d.name→mg d.name=some (.ref fa)→
   s₁.heap.get? a=some {cls:=.type "list",data:=.seq vs.toArray}→IntsAre vs ns→ns.length≤n→s₁.gens = #[]→
   codeAny (model l.prog w) callerA (.call (.ref fa) ⟨[.ref a],[]⟩) (fun r s'=>r=.ok (.ret (.bool true))∧OldK s₁.heap s'.heap∧s'.os=s₁.os∧AllBare s'.gens) s₁) :
  WalkO q loose XP YP l.row.toRowW d [] (fun f vs=>PySem.call f vs):=by
 intro w s₀ s₁ mg mb G Y fa o pm cd doc dV kV ho hd eF hD xN hg args vals as Ae acx hrd DN hlo;obtain rfl:dV=.none:=Dflts.none hD xM;obtain rfl:kV=.none:=Dflts.noKw hD;obtain ⟨a,vs,ns,rfl,rfl,DP,hints,hlen⟩:=QA hn Ae DN;refine enter_call (codeAny_mono (call w s₀ s₁ mg mb fa o pm cd doc a vs ns G Y ho (fd_plain hd) eF xN DP hints hlen hg) fun r s' hq=>?_);obtain ⟨rfl,h2,h3,h4⟩:=hq;exact ⟨.inl ⟨.bool true,.bool true,[],rfl,fun _=>rfl,.bool true,QC l _,fun _=>⟨List.Pairwise.nil,fun _ hm=>(nomatch hm)⟩⟩,h2,h3,h4⟩
section
variable {prog:Program} {w:World} {A:Around} {E:aM} {s:Shared} {K:Frag}
def qC(h:Heap):Heap:={h with objs:=#[]}
theorem DQ(h:Heap)(b:Addr):(qC h).get? b=none:=by
 cases e:(qC h).get? b with
 | none=>rfl
 | some o=>exact absurd (aZ e) (je _)
def ledger(h:Heap)(L d:Addr):List (Addr×Obj):=(List.range h.objs.size).filterMap fun a=>if a=L∨a=d then none else (h.get? a).map fun o=>(a,o)
variable {L d:Addr}
theorem IV{a:Addr}{o:Obj}:(a,o)∈ledger h L d↔a≠L∧a≠d∧h.get? a=some o:=by
 unfold ledger;rw [zC];constructor
 ·rintro ⟨b,_,e⟩
  split at e
  ·cases e
  ·rename_i hb
   obtain ⟨o',ho,e'⟩:=Option.map_eq_some_iff.mp e;cases e';exact ⟨fun q=>hb (.inl q),fun q=>hb (.inr q),ho⟩
 ·rintro ⟨n1,n2,ho⟩
  refine ⟨a,bb.mpr (aZ ho),?_⟩;rw [aa (show ¬(a=L∨a=d) from fun q=>q.elim n1 n2),ho] <;> rfl
theorem QE{od:Obj}(eL:d≠L)(ho:h.get? d=some od):News (qC h) L h ([]++(d,od)::ledger h L d):=by
 rintro ⟨a,o⟩ hp;rcases bh.mp hp with e | hp
 ·cases e
  exact ⟨ho,eL,DQ _ _⟩
 ·obtain ⟨n1,n2,e⟩:=IV.mp hp
  exact ⟨e,n1,DQ _ _⟩
theorem QF{m:cJ}(n:h.Ns L m):Fr (qC h) L h m:=
 ⟨n,fun b o e=>(by rw [DQ] at e;cases e),bY _⟩
end
end Att
namespace L2
open PySem PySem.Spec PyProof.Rows
theorem IW:∀{vs:List Value} {ns:List Int},IntsAre vs ns→Vals (ns.map V.int) vs
 | _,_,.nil=>.nil
 | _,_,.cons n t h=>.cons ⟨t,rfl⟩ (IW h)
abbrev IY {K:aE} {h:Heap} (_:K.In h):PySem.W.Frag:=K
def xO(s:Stmt):Arguments:=match s with
 | .FunctionDef _ a _ _ _ _ _ _ _ _=>a
 | _=>{posonlyargs:=[],args:=[],vararg:=none,kwonlyargs:=[],kw_defaults:=[],kwarg:=none,defaults:=[]}
def l8(s:Stmt):List Stmt:=match s with
 | .FunctionDef _ _ b _ _ _ _ _ _ _=>b
 | _=>[]
def bj(s:Stmt):Scope:=match s with
 | .FunctionDef _ _ _ _ _ _ sc _ _ _=>sc
 | _=>{kind:=.function,names:=[],isGenerator:=false,isCoroutine:=false}
abbrev cB:iS:=fun _ _ _ _ _ _=>False
abbrev E0:XK:=fun _ _ _=>False
theorem bQ{X:Cx}:Passes cB X E0:=fun _ _ _ _ _ _ _ h=>h.elim
structure gT (K:aE) (x qual:Str) (st:Stmt) (f:Addr) (fd:FuncData):Prop where
 ex:∃(oc:Value) (od:Option Addr) (kV doc pm:Value) (an:Option Addr) (bW ct:Value) (kJ:Array (Option Value)),
  fd=PySem.W.fnOf x qual (xO st) (l8 st) (bj st) .none kV doc pm an bW ct∧K.lookup f=some ⟨oc,od,.func fd,kJ⟩∧PySem.W.codeIn K bW qual=true
 kp:PySem.W.keepIn K (.ref f)=true
abbrev aS (K:aE) (x:Str) (st:Stmt) (f:Addr) (fd:FuncData):Prop:=gT K x x st f fd
section
variable {P:Program} {w:World} {K:aE} {mg:cJ} {base:Heap}
variable {x qual:Str} {f:Addr} {fd:FuncData} {N ps:List Str} {k:Nat} {sp:Sp}
theorem gT.ok{st:Stmt}(F:gT K x qual st f fd)(S:b8 N ps (bj st))(len:∀vs H Q E,sp vs H Q E→vs.length=ps.length)
  (kK:∀(bW:Value) (A:Around) (outer:List Env) (s:Shared) (H:Hp) (vs:List V) (Q:VK) (E:XK),dJ k (A.deeper (envOfC qual (bj st) s.heap.objs.size f bW))→sp vs H Q E→
   ∃t,fE (jT cB P w K mg base N qual (bj st) f bW A outer s H E).m_ (l8 st) t∧t {nx:=fun _ H'=>Q .aN H',rt:=Q} (start N vs) H):bK P w K mg base cB (k+1) f fd ps sp:=by
 obtain ⟨oc,od,kV,doc,pm,an,bW,ct,kJ,rfl,lk,eF⟩:=F.ex;refine DC lk eF S len fun A outer s H vs Q E hr lY=>?_;obtain ⟨t,h,q⟩:=kK bW A outer s H vs Q E hr lY;exact ⟨t,h.m_,q⟩
theorem gT.dQ{st:Stmt}(F:gT K x qual st f fd)(S:b8 N ps (bj st))
  (kK:∀(bW:Value) (A:Around) (outer:List Env) (s:Shared) (H:Hp) (vs:List V) (Q:VK) (E:XK),dJ k (A.deeper (envOfC qual (bj st) s.heap.objs.size f bW))→sp vs H Q E→
   ∃t,fE (jT cB P w K mg base N qual (bj st) f bW A outer s H E).m_ (l8 st) t∧t {nx:=fun _ H'=>Q .aN H',rt:=Q} (start N vs) H)
  (len:∀vs H Q E,sp vs H Q E→vs.length=ps.length:=by intro vs H Q E h;repeat first | (obtain ⟨rfl,_⟩:=h;rfl) | (subst h;rfl) | obtain ⟨_,h⟩:=h):bK P w K mg base cB (k+1) f fd ps sp:=F.ok S len kK
theorem gT.binds{st:Stmt}(F:gT K x qual st f fd)
  (h:∀(kV doc pm:Value) (an:Option Addr) (bW ct:Value) (us:List Value),us.length=ps.length→bindArgs (PySem.W.fnOf x qual (xO st) (l8 st) (bj st) .none kV doc pm an bW ct) ⟨us,[]⟩=pure (ps.zip us)):Binds K fd ps []:=by
 obtain ⟨oc,od,kV,doc,pm,an,bW,ct,kJ,rfl,lk,eF⟩:=F.ex;exact .all (h kV doc pm an bW ct)
theorem gT.b_{st:Stmt}(F:gT K x qual st f fd)
  (h:∀(kV doc pm:Value) (an:Option Addr) (bW ct:Value) (us:List Value),us.length=ps.length→bindArgs (PySem.W.fnOf x qual (xO st) (l8 st) (bj st) .none kV doc pm an bW ct) ⟨us,[]⟩=pure (ps.zip us):=by intro _ _ _ _ _ _ us hl;rcases us with _ | ⟨_,_ | ⟨_,_ | ⟨_,_ | ⟨_,_ | ⟨_,_ | ⟨_,_ | ⟨_,_⟩⟩⟩⟩⟩⟩⟩ <;> first | rfl | (simp at hl;done)):Binds K fd ps []:=F.binds h
theorem cW{st:Stmt}{oc:Value}{od an:Option Addr}{kJ:Array (Option Value)}{kV doc pm bW ct:Value}(l:K.lookup f=some ⟨oc,od,.func (PySem.W.fnOf x qual (xO st) (l8 st) (bj st) .none kV doc pm an bW ct),kJ⟩)
  (c:PySem.W.codeIn K bW qual=true) (k:PySem.W.keepIn K (.ref f)=true):gT K x qual st f (PySem.W.fnOf x qual (xO st) (l8 st) (bj st) .none kV doc pm an bW ct):=⟨⟨oc,od,kV,doc,pm,an,bW,ct,kJ,rfl,l,c⟩,k⟩
end
theorem cj{n:Nat}(h:n≤1000):n<sizeLine:=ku h (by decide)
section
variable {X:Cx}
theorem pv(i:Nat){x:Str}{pos:Pos}(hN:X.N[i]?=some x:=by rfl)(hv:qh X.env.scope x:=by first | exact Or.inl rfl | exact Or.inr (Or.inl rfl) | exact Or.inr (Or.inr rfl))(hd:(x == ("__debug__":Str))=false:=by decide)
  (eF:(x == ("__classdict__":Str))=false:=by decide):PE X (.Name x pos) (zW i):=OX hN hv hd eF
end
variable {A B:Prop}
theorem fY(h:B):if false=true then A else B:=by rw [aa dA];exact h
theorem t_(h:A):if true=true then A else B:=by rw [ae rfl];exact h
theorem dh{c:Prop}[Decidable c](h1:c→A)(h2:¬c→B):if c then A else B:=by
 by_cases h:c
 ·rw [ae h]
  exact h1 h
 ·rw [aa h]
  exact h2 h
def aj(H H':Hp):Prop:=∀b o,H b=some o→H' b=some o
theorem aj.refl(H:Hp):aj H H:=fun _ _ h=>h
variable {H:Hp}
theorem aj.trans{H1 H2:Hp}(a:aj H H1)(b:aj H1 H2):aj H H2:=fun c o h=>b c o (a c o h)
theorem aj.seq{K:aE}{H':Hp}{a:Addr}{xs:List V}(e:aj H H')(h:a7 K H a xs):a7 K H' a xs:=by
 rcases h with (h | ⟨o,h⟩) | h;·exact .inl (.inl (e _ _ h))
 ·exact .inl (.inr ⟨o,e _ _ h⟩)
 ·exact .inr h
end L2
set_option maxHeartbeats 4000000
namespace L2
open PySem PySem.Spec PyProof.Rows
structure Af (P:Program) (w:World) (outer:List Env) (H:Hp) (s:Shared) (H':Hp) (ea C:Addr) (B:Heap) (t:Addr) (s':Shared):Prop where
 os:s'.os=s.os
 bare:AllBare s'.gens
 fl:Heap.FlyingW B outer ea (.ref C) (.ref t) s'.heap
 ay:cy P w H' B
 kb:∀b o,s.heap.get? b=some o→H b=none→b∉cS outer→B.get? b=some o
 tb:∀b o,s.heap.get? b=some o→b∉cS outer→∃o',B.get? b=some o'
 sl:∀b o,s.heap.get? b=some o→H b=none→b∈cS outer→∃l,s'.heap.get? b=some {o with slots:=l}
 frh:∀b∈cS outer,H b=none
 QG:∀b o,s.heap.get? b=some o→H b=none→H' b=none
 hJ:∀b xs,H b=some (.tup xs)→H' b=some (.tup xs)
 gP:∀b o u,H b=some (.bg o u)→H' b=some (.bg o u)
 gQ:∀b ps,H b=some (.dq ps)→∃more,H' b=some (.dq (ps++more))
def gD(P:Program)(w:World):iS:=fun outer H s E e s'=>∃ea C H' B t,e=.ref ea∧Af P w outer H s H' ea C B t s'∧E (.ref C) none H'
section
variable {P:Program} {w:World} {outer:List Env} {H H':Hp} {s s':Shared} {ea C t:Addr} {B:Heap}
def ExcAt(ea C:Addr)(h:Heap):Prop:=∃oe,h.get? ea=some oe∧oe.cls=.ref C∧PySem.W.notCls oe=true
def QH(ea C:Addr):HO:=.ext (ExcAt ea C)
end
section
variable {X:Cx} {pins:aK} {σ:St} {H H':Hp} {s s':Shared} {ea C t:Addr} {B:Heap}
structure uc (X:Cx) (E:XK):Prop where
 jj:X.stack=X.env::X.outer
 fr:X.env.frame=some X.env.locals
 ex:X.ex=[]
 xe:X.xe=fun e s'=>wpAny (model X.prog X.w) X.A (leaving X.env e) (fun _ jr=>gD X.prog X.w X.outer X.H₀ X.s₀ E e jr) (fun e' jr=>gD X.prog X.w X.outer X.H₀ X.s₀ E e' jr) s'
theorem Ag{env:Env}{outer:List Env}{L:Addr}(h:env.frame=some L):cS (env::outer)=L::cS outer:=by unfold cS;rw [zw,h]
variable {E:XK}
theorem Af.leave(L:uc X E)(I:Inv X pins σ H s)(f:Af X.prog X.w X.stack H s H' ea C B t s'){h:Heap}(x:Heap.FlyingW B X.outer ea (.ref C) (.ref t) h)(up:s'.heap.UpToSlots h):Af X.prog X.w X.outer X.H₀ X.s₀ H' ea C B t {s' with heap:=h}:=by
 have nL:∀b o,X.s₀.heap.get? b=some o→b≠X.env.locals:=fun b o e=>cq (dX (aZ e) I.ok.above);have ns:∀b o,X.s₀.heap.get? b=some o→b∉cS X.outer→b∉cS X.stack:=fun b o e nb z=>by
  rw [L.jj,Ag L.fr] at z;rcases bh.mp z with z | z;·exact nL b o e z
  ·exact nb z
 have nx:∀b:Addr,b∉X.ex:=fun b z=>by rw [L.ex] at z;cases z
 refine ⟨f.os.trans I.os,f.bare,x,f.ay,fun b o e n nb=>?_,fun b o e nb=>?_,fun b o e n hb=>?_,I.ok.oB,fun b o e n=>?_,fun b xs e=>f.hJ b xs (I.base.hJ b xs e),fun b o u e=>f.gP b o u (I.base.gP b o u e),fun b ps e=>?_⟩;·exact f.kb b o (I.base.keep b o e n nb (nx b)) (I.base.free b o e n (nx b)) (ns b o e nb)
 ·obtain ⟨o',e'⟩:=I.base.there b o e (nx b)
  exact f.tb b o' e' (ns b o e nb)
 ·obtain ⟨l,q⟩:=I.base.slot b o e n hb (nx b)
  have hs:b∈cS X.stack:=by rw [L.jj,Ag L.fr];exact bX _ hb
  obtain ⟨l2,q2⟩:=f.sl b _ q (I.base.free b o e n (nx b)) hs;obtain ⟨_,o2,q3,nf⟩:=f.fl.2.2.1.mem hs;rw [q2] at q3;cases q3;obtain ⟨l3,q4⟩:=up b _ q2 nf;exact ⟨l3,q4⟩
 ·obtain ⟨o',e'⟩:=I.base.there b o e (nx b)
  exact f.QG b o' e' (I.base.free b o e n (nx b))
 ·obtain ⟨m1,e1⟩:=I.base.gQ b ps e
  obtain ⟨m2,e2⟩:=f.gQ b _ e1;exact ⟨m1++m2,by rw [e2,Array.append_assoc]⟩
theorem l_:Passes (gD X.prog X.w) X (fun _ _ _=>False):=fun pins σ H s e s' I h=>by obtain ⟨_,_,_,_,_,_,_,q⟩:=h;exact q.elim
theorem xP(L:uc X E):Passes (gD X.prog X.w) X E:=fun pins σ H s e s' I h=>by
 obtain ⟨ea,C,H',B,t,rfl,f,q⟩:=h;rw [L.xe];refine wpAny_leaves_onW (by rw [I.ok.frames,L.jj]) L.fr (by have z:=f.fl;rw [L.jj] at z;exact z) fun h' x up=>?_
 exact ⟨ea,C,H',B,t,rfl,f.leave L I x up,q⟩
end
variable {K:aE} {h:Heap}
theorem QI{C:Addr}{ud:List Value}{newId:String}(dv:K.In h)(hq:PySem.W.excIn K C ud newId=true) :
  ∃bm N nm qn bs hdct sn sub ab col dd k0 k1 k2 k3 k5 mN,h.get? C=some (excClassObj nm qn C N bs bm hdct sn sub ab col dd k0 k1 k2 k3 k5 newId)∧h.Ns N mN∧mN "__init__"=none∧OwnTail h ud bm∧PySem.W.mroIn K C=fun b=>some ((Value.ref C::bm).contains b):=by
 unfold PySem.W.excIn at hq
 split at hq
 ·rename_i ue cls slt look
  split at hq
  ·rename_i CC rest a0 a1 a2 a3 nn a5 em es
   simp only [lF,beq_iff_eq,Bool.not_eq_true'] at hq;obtain ⟨⟨⟨⟨⟨e1,e2⟩,e3⟩,e4⟩,e5⟩,e6⟩:=hq;subst e1 e2;have QJ:PySem.W.mroIn K CC=fun b=>some ((Value.ref CC::rest).contains b):=by
    funext b
    unfold PySem.W.mroIn PySem.W.clsIn;rw [look];simp [em]
   obtain ⟨c1,c2,c3,c4,c5,c6,c7,c8,c9,QK,c11⟩:=cls;dsimp only at em e3 e5 e6;subst em e3;have QL:slt = #[a0,a1,a2,a3,some (.builtin nn),a5]:=by obtain ⟨ll⟩:=slt;simp only at es;rw [es]
   subst QL;exact ⟨rest,c4,c1,c5,c2,c6,c7,c8,c9,QK,ue,a0,a1,a2,a3,a5,_,dv _ _ look,.of_isNs (PySem.W.isNs_of_in dv e5),PySem.W.nsMap_none_of_in dv e5 e6,PySem.W.tail_of_in dv e4,QJ⟩
  ·cases hq
 ·cases hq
section
variable {X:Cx} {E:XK} {x:Str} {C:Addr} {np eZ pos:Pos} {e:Expr} {es:List Expr} {ta:TA} {B newId QM:String} {ud:List Value}
def QN(C:Addr)(E:XK)(ta:TA):TS:=fun _ σ H=>ta σ H fun vs H1=>vs.length≤sizeLine∧E (.ref C) none H1
theorem IZ(L:uc X E)(hc:X.calm=true)(FB:ExcBaseFacts B newId QM ud)(hq:PySem.W.excIn X.K C ud newId=true)(hg:Gl X x)(hm:X.mg x=some (.ref C))(ha:PA X (e::es) ta)
  (hs:starEach (e::es) X.env=(false,eval e X.env)::starEach es X.env:=by rfl) (hp:(backTo eZ (starEach es X.env)).any (·.1)=false:=by rfl) (hd:(x == ("__debug__":Str))=false:=by decide) :
  PS X (.Raise (some (.Call (.Name x np) (e::es) [] eZ)) none pos) (QN C E ta):=by
 intro pins s σ H D I h;obtain ⟨bm,N,nm,qn,bs,hdct,sn,sub,ab,col,dd,k0,k1,k2,k3,k5,mN,hC,hN,QO,T,_⟩:=QI I.ok.mod.dv hq
 refine wpAny_Raise_call_subT (C:=C) (nm:=nm) (q:=qn) (N:=N) (bs:=bs) (bm:=bm) (hdct:=hdct) (sn:=sn) (sub:=sub) (ab:=ab) (col:=col) (dd:=dd) (k0:=k0) (k1:=k1) (k2:=k2) (k3:=k3) (k5:=k5) FB (mN:=mN) (T.hasType FB.hasBase) (I.ok.hd hc)
  (by rw [hs];show (false || (backTo eZ (starEach es X.env)).any (·.1))=false;rw [hp];rfl) QO (Dj I hg hm ⟨rfl,?_⟩ hd)
 have h1:=ha eZ pins s σ H _ I h;rw [hs] at h1 ⊢;refine Calls.evalArgs_plain (aJ h1 fun us s2 ⟨vs,H1,I1,r,hl,q⟩=>⟨rfl,by rw [←r.length];exact hl,I1.bk _ _ hC,hN.keeps I1.bk,T.keeps I1.bk,fun h' ea mk=>?_⟩)
 rw [L.xe];have nL:∀b o,X.s₀.heap.get? b=some o→b≠X.env.locals:=fun b o q=>cq (dX (aZ q) I1.ok.above);have ns:∀b o,X.s₀.heap.get? b=some o→b∉cS X.outer→b∉cS X.stack:=fun b o q nb z=>by
  rw [L.jj,Ag L.fr] at z;rcases bh.mp z with z | z;·exact nL b o q z
  ·exact nb z
 have nx:∀b:Addr,b∉X.ex:=fun b z=>by rw [L.ex] at z;cases z
 have ff:s2.heap.FunFrames (PySem.W.hideAll s2.heap (cS X.stack)) (X.env::X.outer):=by have z:=I1.stack;rw [←L.jj];exact PySem.W.funFrames_hide z fun env he a hf=>zC.mpr ⟨env,he,hf⟩
 refine wpAny_leaves_madeW (base:=PySem.W.hideAll s2.heap (cS X.stack)) (h:=s2.heap) (by rw [I1.ok.frames,L.jj]) L.fr (fun b o q=>PySem.W.of_hideAll _ q) ff mk fun h2 t fl _ _ up=>?_
 refine ⟨ea,C,H1,_,t,rfl,⟨I1.os,I1.bare,fl,fun a o e1=>?_,fun b o e1 n nb=>?_,fun b o e1 nb=>?_,fun b o e1 n hb=>?_,I1.ok.oB,fun b o e1 n=>?_,I1.base.hJ,I1.base.gP,I1.base.gQ⟩,q⟩
 ·refine (I1.ay a o e1).jh (fun b u hb e2=>zv _ e2 fun z=>?_) (fun _ z=>z) fun _ _ z=>z
  have n0:=I1.xj b z;rcases hb with hb | hb
  ·subst hb
   rw [e1] at n0;cases n0
  ·rw [hb] at n0
   cases n0
 ·exact zv _ (I1.base.keep b o e1 n nb (nx b)) (ns b o e1 nb)
 ·obtain ⟨o',e2⟩:=I1.base.there b o e1 (nx b)
  exact ⟨o',zv _ e2 (ns b o e1 nb)⟩
 ·obtain ⟨l,e2⟩:=I1.base.slot b o e1 n hb (nx b)
  have qt:b∈cS X.stack:=by rw [L.jj,Ag L.fr];exact bX _ hb
  obtain ⟨_,o2,e3,nf⟩:=I1.stack.mem qt;rw [e2] at e3;cases e3;obtain ⟨l2,e4⟩:=up b _ (mk.keeps _ _ e2) nf;exact ⟨l2,e4⟩
 ·obtain ⟨o',e2⟩:=I1.base.there b o e1 (nx b)
  exact I1.base.free b o e1 n (nx b)
end
section
variable {X:Cx} {k:Nat} {f C:Addr} {fd:FuncData} {ps:List Str} {sp:Sp} {lT:List V} {ds:List Value} {x m:Str} {p pos apos:Pos} {e o:Expr} {es:List Expr} {ta:TE} {t:TA}
variable {te:TX} {i:Nat} {pos':Pos}
end
section
variable {X:Cx} {pins:aK} {σ:St} {H:Hp} {s:Shared} {ea:Addr}
end
section
variable {M:Model} {A:Around} {E:aM} {h:Heap} {g:Array GenState} {d:Drawn} {t:Nat} {os:OsState} {e:Addr} {oe:Obj} {Q:Bool→Shared→Prop}
variable {nm q nm' q':Str} {C N D N':Addr} {bs bm bs' bm':List Value} {hdct acF:Bool} {sn sn':List Str} {sub I0:List Value} {ab ab':Bool} {col acI:Option Bool} {dd oK:Option Addr} {k0 k1 k2 k3 k5 j0 j1 j2 j3 j5:Option Value} {newId acJ:String}
end
section
variable {X:Cx} {body:List Stmt} {b₀:Stmt} {acK:List Stmt} {np acL pos:Pos} {x n:Str} {D:Addr} {tb:TSX} {ts:TS} {ud:List Value} {newId:String} {i:Nat}
end
section
variable {P:Program} {w:World} {K:aE} {mg:cJ} {base:Heap}
variable {x qual:Str} {f:Addr} {fd:FuncData} {N ps:List Str} {k:Nat} {sp:Sp}
theorem gT.QP{st:Stmt}(F:gT K x qual st f fd)(S:b8 N ps (bj st))(len:∀vs H Q E,sp vs H Q E→vs.length=ps.length)
  (kK:∀(bW:Value) (A:Around) (outer:List Env) (s:Shared) (H:Hp) (vs:List V) (Q:VK) (E:XK),dJ k (A.deeper (envOfC qual (bj st) s.heap.objs.size f bW))→sp vs H Q E→
   uc (jT (gD P w) P w K mg base N qual (bj st) f bW A outer s H E) E→
   ∃t,fE (jT (gD P w) P w K mg base N qual (bj st) f bW A outer s H E) (l8 st) t∧t {nx:=fun _ H'=>Q .aN H',rt:=Q} (start N vs) H):bK P w K mg base (gD P w) (k+1) f fd ps sp:=by
 obtain ⟨oc,od,kV,doc,pm,an,bW,ct,kJ,rfl,lk,eF⟩:=F.ex;exact DC lk eF S len fun A outer s H vs Q E hr lY=>kK bW A outer s H vs Q E hr lY ⟨rfl,rfl,rfl,rfl⟩
theorem gT.gU{st:Stmt}(F:gT K x qual st f fd)(S:b8 N ps (bj st))
  (kK:∀(bW:Value) (A:Around) (outer:List Env) (s:Shared) (H:Hp) (vs:List V) (Q:VK) (E:XK),dJ k (A.deeper (envOfC qual (bj st) s.heap.objs.size f bW))→sp vs H Q E→
   uc (jT (gD P w) P w K mg base N qual (bj st) f bW A outer s H E) E→
   ∃t,fE (jT (gD P w) P w K mg base N qual (bj st) f bW A outer s H E) (l8 st) t∧t {nx:=fun _ H'=>Q .aN H',rt:=Q} (start N vs) H)
  (len:∀vs H Q E,sp vs H Q E→vs.length=ps.length:=by intro vs H Q E h;repeat first | (obtain ⟨rfl,_⟩:=h;rfl) | (subst h;rfl) | obtain ⟨_,h⟩:=h):bK P w K mg base (gD P w) (k+1) f fd ps sp:=F.QP S len kK
end
structure qD (K:aE) (C:Addr):Prop where
 ci:PySem.W.hasDictIn K C=true
 ga:PySem.W.findIn K (.ref C) "__getattribute__"=some (some (.builtin "BaseException.__getattribute__"))
 gn:PySem.W.findIn K (.ref C) "__getattr__"=some none
 ca:PySem.W.findIn K (.ref C) "__class__"=some (some (.builtin "object.__class__"))
 mo:PySem.W.mroIn K C (.type "object")=some true
 mb:PySem.W.mroIn K C (.type "BaseException")=some true
section
variable {prog:Program} {w:World} {A:Around} {E:aM} {h:Heap} {g:Array GenState} {d:Drawn} {t:Nat} {os:OsState} {K:aE} {a C:Addr} {o:Obj}
theorem QQ{R:Result→Shared→Prop}(dv:K.In h)(c:qD K C)(hx:h.get? a=some o)(hc:o.cls=.ref C)(hq:R (.ok (.ret (.ref C))) ⟨h,g,d,t,os⟩) :
  codeAny (model prog w) A (.call (.builtin "getset_descriptor.__get__") ⟨[.builtin "object.__class__",.ref a,.ref C],[]⟩) R ⟨h,g,d,t,os⟩:=by
 have I_:(⟨h,g,d,t,os⟩:Shared).TypeIs (.builtin "object.__class__") "getset_descriptor":=CU;have L1:=PySem.W.looks_mroIn (M:=model prog w) dv c.mo;have ow:=F.owner_object_class;refine codeAny_call_builtin F.slot_gs_get.plain F.entry_gs_get (F.slot_gs_get.check _ _ _ _ _ _ _ _ I_ (F.args_gs_get _ _ _) ?_)
 repeat (any_goals (first | assumption | (with_reducible refine wX hx ?_;rw [hc]) | (rw [ow];with_reducible refine L1.at ?_) | wp_step))
 refine ⟨Code.quiet_builtin _ (by decide +kernel),codeAny_builtin F.entry_object_class ?_⟩
 repeat (any_goals (first | assumption | (with_reducible refine wX hx ?_;rw [hc]) | wp_step))
variable {tk:Tok}
theorem QR{Q:Fin→Shared→Prop}(dv:K.In h)(c:qD K C)(hx:h.get? a=some o)(hc:o.cls=.ref C)(hq:Q (.done (.ret (.ref C))) ⟨h,g,d,t,os⟩) :
  wpAny (model prog w) A (Builtin.«object.__getattribute__» ⟨[.ref a,.str "__class__" tk],[]⟩) Q E ⟨h,g,d,t,os⟩:=by
 have I_:(⟨h,g,d,t,os⟩:Shared).TypeIs (.builtin "object.__class__") "getset_descriptor":=CU;have L1:=PySem.W.looks_findIn (M:=model prog w) dv c.ca;have f5:=CU;have f6:=F.slot_gs_get.lookup;have f7:=F.slot_gs_set.lookup
 repeat (any_goals (first | assumption | (with_reducible refine wX hx ?_;rw [hc]) | with_reducible refine L1.at ?_ | wp_step))
 refine QQ dv c hx hc ?_
 repeat (any_goals (first | assumption | wp_step))
theorem QS{M:Model}{nv:Value}{Q:Unit→Shared→Prop}(dv:K.In h)(c:qD K C)(hx:h.get? a=some o)(hc:o.cls=.ref C)(hq:Q () ⟨h,g,d,t,os⟩) :
  wpAny M A (checkBuiltinCall "BaseException.__getattribute__" ⟨[.ref a,nv],[]⟩) Q E ⟨h,g,d,t,os⟩:=by
 have hk:builtinKind "BaseException.__getattribute__"=some .slot:=by decide +kernel
 have hs:splitId "BaseException.__getattribute__"=some ("BaseException","__getattribute__"):=by decide +kernel
 have L1:=PySem.W.looks_mroIn (M:=M) dv c.mb;have ha:=F.args_bexc_ga (.ref a) nv;simp only [checkBuiltinCall,hk,hs];refine bo ?_;unfold isInstance
 repeat (first | (with_reducible refine wX hx ?_;rw [hc]) | with_reducible refine L1.at ?_ | wp_step)
 exact hq
theorem QT{fill expr:Bool}{Q:aM}(dv:K.In h)(c:qD K C)(hx:h.get? a=some o)(hc:o.cls=.ref C)(hq:Q (.ref C) ⟨h,g,d,t,os⟩) :
  wpAny (model prog w) A (getAttrBy (.ref a) (.str "__class__" tk) fill expr) Q E ⟨h,g,d,t,os⟩:=by
 have f3:=F.attrBase_ValueError.ga.bind (.ref a);have z0:(expr && onTheHeap (Value.builtin "BaseException.__getattribute__"))=false:=by cases expr <;> rfl
 have z2:(Value.builtin "BaseException.__getattribute__" == Value.builtin "object.__getattribute__")=false:=by decide +kernel
 have z1:(onTheHeap (Value.ref C) && Value.builtin "BaseException.__getattribute__" == Value.builtin "object.__getattribute__")=false:=by rw [z2];rfl
 have L1:=PySem.W.looks_findIn (M:=model prog w) dv c.ga;have L2:=PySem.W.looks_findIn (M:=model prog w) dv c.gn
 repeat (any_goals (first | assumption | (with_reducible refine wX hx ?_;rw [hc]) | with_reducible refine L1.at ?_ | with_reducible refine L2.at ?_ | wp_step))
 refine codeAny_call_builtin F.attrBase_ValueError.ga.plain F.entry_bexc_ga (QS dv c hx hc (QR dv c hx hc ?_))
 repeat (any_goals (first | assumption | wp_step))
theorem QU{Q:Option Value→Shared→Prop}(dv:K.In h)(c:qD K C)(hx:h.get? a=some o)(hc:o.cls=.ref C)(hq:Q (some (.ref C)) ⟨h,g,d,t+1,os⟩) :
  wpAny (model prog w) A (getAttr? (.ref a) "__class__") Q E ⟨h,g,d,t,os⟩:=by
 unfold getAttr? getAttrBy?
 repeat (any_goals (first | assumption | with_reducible apply QT dv c hx hc | wp_step))
theorem QV(c:qD K C):PySem.W.KitX K (.ref a) (.ref C) (ExcAt a C) where
 ty:=fun M h _ k=>by obtain ⟨oe,e1,e2,_⟩:=k;exact e2▸(PySem.W.Looks.ld e1).andThen .now
 it:=fun M h dv _=>by
  obtain ⟨cd,hc,_⟩:=PySem.W.any_some c.ci;unfold PySem.W.clsIn at hc
  split at hc
  ·rename_i look
   intro A' Q' E' s' k q;unfold isType loadHead;exact bo (wpAny_loadPart (k _ _ (dv _ _ look)) (dB q))
  ·cases hc
 ne:=fun h tp dd its n sl dv QW=>by
  obtain ⟨cd,hc,_⟩:=PySem.W.any_some c.ci;refine Bool.eq_false_iff.mpr fun q=>?_;have e:C=tp:=Value.ref.inj (beq_iff_eq.mp q);subst e;unfold PySem.W.clsIn at hc
  split at hc
  ·rename_i look
   have z:=(dv _ _ look).symm.trans QW;cases z
  ·cases hc
 ca:=fun{prog w A E Q s} dv k z=>by obtain ⟨oe,e1,e2,_⟩:=k;obtain ⟨h,g,d,t,os⟩:=s;exact QU dv c e1 e2 z
end
def Ah(a:Addr)(h:Heap):Prop:=∃o ep,h.get? a=some o∧o.ExactDict∧o.data=.dict #[] ep∧(a == sysModules)=false
theorem Ah.DR{a:Addr}(e:Ah a h):PySem.W.KitAt a "dict" h:=by obtain ⟨o,_,e,c,_⟩:=e;exact ⟨o,e,c.1⟩
def Ja(a:Addr):HO:=.ext (Ah a)
inductive xQ (K:aE) (H:Hp):V→Value→Prop where
 | of {x:V} {t:Value} (h:jq K H x t):xQ K H x t
 | exc {a C:Addr} (e:H a=some (QH a C)) (c:qD K C):xQ K H (.ref a) (.ref C)
 | ue {a:Addr} (e:H a=some (Ja a)):xQ K H (.ref a) (.type "dict")
def Jb:V→Value
 | .ty n=>.type n
 | .ref a=>.ref a
 | _=>.none
def QX:V→Bool
 | .ty _=>true
 | .ref _=>true
 | _=>false
def QY(K:aE):List V→Hp→VK→Prop:=fun xs H Q=>∃x c t b,xs=[x,c]∧QX c=true∧xQ K H x t∧PySem.W.kitOne K t (Jb c)=some b∧Q (.bl b) H
theorem DS{X:Cx}(hK:X.K=K:=by rfl):gR X (.builtin "isinstance") (QY K):=by
 intro pins s σ H xs us Q I r h;subst hK;obtain ⟨x,c,t,b,rfl,hc,ty,e,q⟩:=h;obtain ⟨u,cv,rfl,rx,rc⟩:=vals2 r;have ec:cv=Jb c:=by
  cases c with
  | ty n=>exact rc
  | ref a=>exact rc
  | _=>cases hc
 subst ec;cases ty with
 | of ty=>exact PQ I rx ty e fun tk=>⟨.bl b,H,I.tok tk,rfl,q⟩
 | @ue a ea=>cases rx;obtain ⟨k,_,_⟩:=(show cw X.prog X.w H s.heap a (.ext (Ah a)) from I.ay a _ ea);exact jd PySem.W.kitx_dict I.ft k.DR e (fun z=>nomatch z) fun tk=>⟨.bl b,H,I.tok tk,rfl,q⟩
 | @exc a C ea cc=>cases rx;obtain ⟨k,_,_⟩:=(show cw X.prog X.w H s.heap a (.ext (ExcAt a C)) from I.ay a _ ea);exact jd (QV cc) I.ft k e (fun z=>nomatch z) fun tk=>⟨.bl b,H,I.tok tk,rfl,q⟩
theorem boot_isinstance:bootBuiltins "isinstance"=some (.builtin "isinstance"):=by decide +kernel
theorem boot_min:bootBuiltins "min"=some (.builtin "min"):=by decide +kernel
theorem boot_max:bootBuiltins "max"=some (.builtin "max"):=by decide +kernel
theorem boot_int:bootBuiltins "int"=some (.type "int"):=by decide +kernel
theorem boot_bool:bootBuiltins "bool"=some (.type "bool"):=by decide +kernel
theorem boot_tuple:bootBuiltins "tuple"=some (.type "tuple"):=by decide +kernel
theorem boot_list:bootBuiltins "list"=some (.type "list"):=by decide +kernel
end L2
namespace My
open PySem L2
end My
namespace L2
open PySem PySem.Spec PyProof.Rows
abbrev Cx.dr (X:Cx) (N:List Str) (scope:Scope) (cl:List (Str×Addr)) (s₃:Shared) (H₃:Hp) (fp:List Addr):Cx:=
 {X with N:=N,s₀:=s₃,H₀:=H₃,env:=compEnvC scope cl s₃.heap.objs.size X.env,outer:=X.stack,stack:=X.stack,ex:=fp,fn:=fun _=>false,pn:=[],xe:=fun _ _=>False}
inductive oM (X:Cx):List Expr→TT→Prop where
 | nil:oM X [] (fun _ H Q=>Q true H)
 | one {c:Expr} {t:TT} (h:PT X c t):oM X [c] t
def e_(wi:TI)(ρ:St→St)(tt:TT)(te:TE):TE:=fun σ H Q=>wi σ H fun J H1=>∀D,H1 D=none→∃W:Nat→Nat→List V→Hp→Prop,(∃m,W 0 m [] (upd H1 D (.lst []))) ∧
 ∀i m ys Hc,W i m ys Hc→Hc D=some (.lst ys)∧((J.stop i Hc∧Q (.ref D) Hc)∨(J.go i Hc∧∀x H',J.eY i Hc x H'→tt (some x::ρ σ) H' fun b H2=>
  if b=true then te (some x::ρ σ) H2 fun y H3=>H3 D=some (.lst ys)∧ys.length<sizeLine∧∃m',m'<m∧W (i+1) m' (ys++[y]) (upd H3 D (.lst (ys++[y]))) else ∃m',m'<m∧W (i+1) m' ys H2))
section
variable {X:Cx} {N:List Str} {scope:Scope} {cl:List (Str×Addr)} {x:Str} {px pos:Pos} {iter elt:Expr} {ifs:List Expr} {wi:TI} {ρ:St→St} {tt:TT} {te:TE}
structure DT (X:Cx) (N:List Str) (scope:Scope) (cl:List (Str×Addr)) (x:Str) (ρ:St→St):Prop where
 Ai:closureFor scope X.env=pure cl
 kind:scope.kind=.function
 Jc:∀y∈scope.names,y.2≠.cell
 names:∀y∈scope.names,y.2=.local→scope.names.lookup y.1=some .local
 sub:∀p∈cl,X.env.cells.lookup p.1=some p.2
 has:∀y,((relabel scope X.env).names.lookup y=some .cell∨(relabel scope X.env).names.lookup y=some .free)→∃c,cl.lookup y=some c
 n0:N[0]?=some x
 nd:N.Nodup
 hx:scope.names.lookup x=some .local
 Aj:∀(σ:St) (j:Nat) (v:V),(ρ σ)[j]?=some (some v)→∃(i:Nat) (y:Str),N[j+1]?=some y∧X.N[i]?=some y∧σ[i]?=some (some v)∧qh X.env.scope y∧(X.env.kindOf y=some .cell∨X.env.kindOf y=some .free)∧((relabel scope X.env).names.lookup y=some .cell∨(relabel scope X.env).names.lookup y=some .free)
 len:∀σ:St,σ.length=X.N.length→(ρ σ).length+1=N.length
theorem QZ{names:List (Str×NameKind)}(h:(names.all fun q=>(q.2 != .cell && q.2 != .free) || (cl.lookup q.1).isSome)=true) :
  ∀y,(names.lookup y=some .cell∨names.lookup y=some .free)→∃c,cl.lookup y=some c:=fun y hy=>by
 have key:∀k:NameKind,(k != .cell && k != .free)=false→names.lookup y=some k→∃c,cl.lookup y=some c:=fun k hk e=>by have z:=pV.mp h (y,k) (lE e);rw [hk,Bool.false_or] at z;exact CQ.mp z
 rcases hy with e | e;·exact key .cell rfl e
 ·exact key .free rfl e
theorem join_some{o:Option (Option V)}{v:V}(h:some o.join=some (some v)):o=some (some v):=by
 cases o with
 | none=>cases h
 | some o=>cases h;rfl
def DU(X:Cx)(sc:Scope):List Str→List Nat→Prop
 | n::ns,i::is=>(X.N[i]?=some n∧qh X.env.scope n∧(X.env.kindOf n=some .cell∨X.env.kindOf n=some .free)∧((relabel sc X.env).names.lookup n=some .cell∨(relabel sc X.env).names.lookup n=some .free))∧DU X sc ns is
 | _,[]=>True
 | [],_::_=>False
theorem Jd{X:Cx}{sc:Scope}:∀{ns:List Str} {is:List Nat},DU X sc ns is→∀(σ:St) (j:Nat) (v:V),(is.map fun i=>σ[i]?.join)[j]?=some (some v)→∃(i:Nat) (n:Str),ns[j]?=some n∧X.N[i]?=some n∧σ[i]?=some (some v)∧qh X.env.scope n∧(X.env.kindOf n=some .cell∨X.env.kindOf n=some .free)∧((relabel sc X.env).names.lookup n=some .cell∨(relabel sc X.env).names.lookup n=some .free)
 | _,[],_,_,_,_,e=>by cases e
 | [],_::_,h,_,_,_,_=>h.elim
 | n::_,i::_,h,_,0,_,e=>⟨i,n,rfl,h.1.1,join_some e,h.1.2⟩
 | _::_,_::_,h,σ,j+1,v,e=>Jd h.2 σ j v e
theorem en(is:List Nat)(h1:closureFor scope X.env=pure cl)(h:DU X scope N.tail is:=by repeat' first | exact True.intro | refine And.intro ⟨rfl,Or.inr (Or.inl rfl),.inl rfl,.inl rfl⟩ ?_)(h2:scope.kind=.function:=by rfl)(h3:∀y∈scope.names,y.2≠.cell:=by decide +kernel)(h4:∀y∈scope.names,y.2=.local→scope.names.lookup y.1=some .local:=by decide +kernel)(h5:∀p∈cl,X.env.cells.lookup p.1=some p.2:=by repeat' first | exact List.forall_mem_nil _ | refine List.forall_mem_cons.mpr ⟨rfl,?_⟩)(h6:((relabel scope X.env).names.all fun q=>(q.2 != .cell && q.2 != .free) || (cl.lookup q.1).isSome)=true:=by rfl)(h7:N[0]?=some x:=by rfl)(h8:N.Nodup:=by decide +kernel)(h9:scope.names.lookup x=some .local:=by rfl)(hr:∀σ:St,ρ σ=is.map fun i=>σ[i]?.join:=by exact fun _=>rfl)(hl:is.length+1=N.length:=by rfl):DT X N scope cl x ρ:=
 ⟨h1,h2,h3,h4,h5,QZ h6,h7,h8,h9,fun σ j v e=>by rw [hr] at e;rw [←List.getElem?_tail];exact Jd h σ j v e,fun σ _=>by rw [hr,aC];exact hl⟩
theorem fG(B:DT X N scope cl x ρ)(hc:X.calm=true)(hi:PI X (.Name x px) iter wi)(ht:∀s₃ H₃ fp,oM (X.dr N scope cl s₃ H₃ fp) ifs tt)(he:∀s₃ H₃ fp,PE (X.dr N scope cl s₃ H₃ fp) elt te)
  (hs:∀x,foldedSetIterable iter X.env x=pure x:=by intro _;rfl):PE X (.ListComp elt [⟨.Name x px,iter,ifs,0⟩] scope pos) (e_ wi ρ tt te):=by
 intro pins s σ H Q I h
 rw [eval_ListComp]
 refine CW (use:=none) rfl hs B.Ai B.kind B.names (aJ (hi pins s σ H _ I h) fun v s1 h1=>aJ h1 fun xx s2 h2=>?_)
 obtain ⟨it,fp,tn,J,H2,rfl,I2,T,jm,f2,q2⟩:=h2
 have nD:H2 s2.heap.objs.size=none:=I2.ay.fresh (ax _)
 obtain ⟨W,⟨m0,w0⟩,turn⟩:=q2 _ nD
 refine wpAny_newObj_type (wpAny_newFunctionEnv B.Jc (by intro y hy;simp at hy) (fun h₁ kM nB=>?_) B.kind)
 dsimp only at kM nB ⊢
 generalize hD:s2.heap.objs.size=D at nD w0 turn kM nB ⊢
 generalize kO:({s2 with heap:=s2.heap.push {cls:=.type "list",dict:=none,data:=.seq ([]:List Value).toArray}}:Shared)=s3
 have I3:Inv X pins σ (upd H2 D (.lst [])) s3:=by
  subst hD kO
  exact I2.laid (t':=s2.toks) (fun b u e=>cg _ e) (ax _) ⟨bY _,[],_,.nil,eX _ rfl⟩
 have e3:s3.heap=s2.heap.push {cls:=.type "list",dict:=none,data:=.seq ([]:List Value).toArray}:=by rw [←kO]
 have ig:∀b o,s2.heap.get? b=some o→s3.heap.get? b=some o:=fun b o e=>by rw [e3];exact cg _ e
 rw [←e3] at kM nB ⊢
 have below:∀b o,s3.heap.get? b=some o→b≠s3.heap.objs.size:=fun b o e=>cq (aZ e)
 have fv:∀b o,s3.heap.get? b=some o→h₁.get? b=some o:=fun b o e=>nB.extBut b o (below b o e) (cg _ e)
 have jV:∀b∈fp,∃o,s2.heap.get? b=some o∧∀v,o.data≠.cell v:=T.obj _ _ jm
 have xR:∀b∈fp,b≠D:=fun b hb z=>by
  obtain ⟨o,e,_⟩:=jV b hb
  rw [z,←hD] at e
  exact absurd (aZ e) (eE _)
 have d5:∀y c,cl.lookup y=some c→X.env.cells.lookup y=some c:=fun y c e=>B.sub (y,c) (lE e)
 have xS:=I3.xj
 have gU:(X.dr N scope cl s3 (upd H2 D (.lst [])) fp).Ok:=by
  refine ⟨I.ok.mod,B.kind,I.ok.glob,I.ok.blt,ax _,fun a b c e1 e2=>I.ok.inj a b c (d5 a c e1) (d5 b c e2),fun y hy=>B.has y hy,(fun _ _ z _=>absurd z dA),(fun _=>I.ok.hd hc),I.ok.frames,.inl rfl,fun b hb=>⟨?_,fun y c e z=>?_⟩,fun b o e=>?_,bR I.ok.jl I3.sz,fun b o e hb=>?_,fun b hb z=>?_,I3.stack,xS⟩
  ·obtain ⟨o,e,_⟩:=jV b hb
   exact below b o (ig b o e)
  ·exact (f2 b hb).2.2.2.2.1 y c (d5 y c e) z
  ·exact I3.bs b o e
  ·rcases (f2 b hb).2.2.2.1 with z | z
   ·exact I.ok.qj b o e z
   ·exact absurd (dX (aZ e) (bR I.ok.jl z)) (eE _)
  ·rcases bh.mp (I3.xi b z) with z | z
   ·exact (f2 b hb).2.1 z
   ·exact (f2 b hb).2.2.1 z
 have IB:∀tk:Nat,Inv (X.dr N scope cl s3 (upd H2 D (.lst [])) fp) [] (none::ρ σ) (upd H2 D (.lst [])) {s3 with heap:=h₁,toks:=tk}:=fun tk=>by
  refine ⟨gU,rfl,I3.bare,Un.kept fv,⟨_,kM,fun j y v e1 e2 e3=>?_⟩,fun y c e=>?_,?_,fun y c e=>I3.jP y c (d5 y c e),(fun p hp=>nomatch hp),I3.ay.kept fv,?_⟩
  ·cases j with
   | zero=>cases e2
   | succ j=>
    obtain ⟨i,y',a1,a2,a3,a4,a5,a6⟩:=B.Aj σ j v e2
    have oO:N[j+1]?=some y:=e1
    rw [oO] at a1
    cases a1
    obtain ⟨m,hn,hl⟩:=I3.loc
    obtain ⟨u,r,l⟩:=hl i y v a2 a3 a4
    refine ⟨u,r,.inr ⟨a6,?_⟩⟩
    obtain ⟨c,ec⟩:=B.has y a6
    rcases l with ⟨k,_⟩ | ⟨_,c',oP,z⟩
    ·rcases a5 with q | q <;> (rw [k] at q;cases q)
    ·have:=d5 y c ec
     rw [this] at oP
     cases oP
     obtain ⟨o,ho,hd⟩:=z
     exact ⟨c,ec,o,fv _ _ ho,hd⟩
  ·obtain ⟨v,o,ho,hd⟩:=I3.cell y c (d5 y c e)
   exact ⟨v,o,fv _ _ ho,hd⟩
  ·exact I3.ay.fresh (ax _)
  ·show (none::ρ σ).length=N.length
   rw [dY]
   exact B.len σ I.len
 have fin:∀{σ':St} {H':Hp} {s':Shared},Inv (X.dr N scope cl s3 (upd H2 D (.lst [])) fp) [] σ' H' s'→Q (.ref D) H'→compPost (model X.prog X.w) X.A X.xe none (EP X pins σ Q) (.ref D) s3.heap.objs.size (.ok .next) s':=fun{σ' H' s'} J q=>by
  obtain ⟨m,hn,_⟩:=J.loc
  refine ⟨m,hn,fun h' iV=>⟨.ref D,H',?_,rfl,q⟩⟩
  have old:∀b o,s3.heap.get? b=some o→b≠s3.heap.objs.size:=below
  have u1:Un (cS X.stack) fp (upd H2 D (.lst [])) H' s3.heap h':=by
   refine ⟨fun b o e n hb hx=>?_,fun b o e n hb hx=>?_,J.base.free,fun b o e hx=>?_,J.base.hJ,J.base.gP,J.base.gQ⟩
   ·exact (iV.2 b (old b o e)).trans (J.base.keep b o e n hb hx)
   ·obtain ⟨sl,z⟩:=J.base.slot b o e n hb hx
    exact ⟨sl,(iV.2 b (old b o e)).trans z⟩
   ·obtain ⟨o',z⟩:=J.base.there b o e hx
    exact ⟨o',(iV.2 b (old b o e)).trans z⟩
  have xT:cy X.prog X.w H' h':=fun b u e=>by
   refine (J.ay b u e).jh (fun c v hc z=>(iV.2 c fun y=>?_).trans z) (fun _ z=>z) fun _ _ z=>z
   have fr:=J.free
   have y':c=s3.heap.objs.size:=y
   rcases hc with hc | hc
   ·rw [←hc,y'] at e
    exact absurd (fr.symm.trans e) (by simp)
   ·rw [y'] at hc
    exact absurd (fr.symm.trans hc) (by simp)
  refine I3.qm (s':={s' with heap:=h'}) (ch:=fp) (J.os) u1 xT J.bare fun b hb=>?_
  obtain ⟨g0,g1,g2,g3,g4,g5⟩:=f2 b hb
  exact ⟨g3,g1,g4,g5⟩
 have hW:∀{H':Hp},(∀b∈fp,H' b=none)→∀b∈fp,ng (X.dr N scope cl s3 (upd H2 D (.lst [])) fp) [] H' b:=fun hn b hb=>by
  refine ⟨hn b hb,?_,?_,.inl hb,fun y c e z=>(f2 b hb).2.2.2.2.1 y c (d5 y c e) z,fun p hp=>nomatch hp⟩
  ·obtain ⟨o,e,_⟩:=jV b hb
   exact below b o (ig b o e)
  ·exact gU.qk b hb
 have loop:∀tk:Nat,codeAny (model X.prog X.w) X.A (.compLoop (.ListComp elt [⟨.Name x px,iter,ifs,0⟩] scope pos) 0 (.ref it) (.ref D) (compEnvC scope cl s3.heap.objs.size X.env))
   (compPost (model X.prog X.w) X.A X.xe none (EP X pins σ Q) (.ref D) s3.heap.objs.size) {s3 with heap:=h₁,toks:=tk}:=fun tk=>by
  refine CY (fun n s'=>∃i ys o H',Inv (X.dr N scope cl s3 (upd H2 D (.lst [])) fp) [] (o::ρ σ) H' s'∧tn i s'.heap∧(∀b∈fp,H' b=none)∧W i n ys H') ?_ m0
   ⟨0,[],none,_,IB tk,T.keep _ _ _ jm fun b hb o e=>fv _ _ (ig _ _ e),fun b hb=>by rw [aH (xR b hb)];exact (f2 b hb).1,w0⟩
  rintro n s4 ⟨i,ys,o,H4,I4,oQ,oR,w4⟩
  obtain ⟨Je,xU⟩:=turn i n ys H4 w4
  rcases xU with ⟨stop,qn⟩ | ⟨go,step⟩
  ·refine c_ (T.done (X.dr N scope cl s3 (upd H2 D (.lst [])) fp) rfl rfl rfl hc i [] s4 _ H4 (fun _ _=>False) I4 (hW oR) oQ stop) (fun r s5 ⟨hr,I5⟩=>?_) fun _ _ z=>z.elim
   subst hr
   exact fin I5 qn
  ·refine c_ (T.item (X.dr N scope cl s3 (upd H2 D (.lst [])) fp) rfl rfl rfl hc i [] s4 _ H4 (fun _ _=>False) I4 (hW oR) oQ go) (fun r s5 ⟨u,hr,h5⟩=>?_) fun _ _ z=>z.elim
   subst hr
   have z:letOwnedTupleGo (.Name x px) (.ref it) u=pure ():=rfl
   rw [z] at h5
   show wpAny _ _ ((pure ():Sem Unit) >>= fun _=>assign (.Name x px) (compEnvC scope cl s3.heap.objs.size X.env) u) _ _ s5
   refine bo (c_ h5 (fun _ s5 ⟨y,H5,I5,r5,y5,h_,qu⟩=>?_) fun _ _ z=>z.elim)
   have qv:=I5.pinned (hW qu) (T.obj _ _ h_)
   have pg:PG (X.dr N scope cl s3 (upd H2 D (.lst [])) fp) (.Name x px) (aO 0):=cU (i:=0) B.nd B.n0 (.inl (zF B.hx)) (.inr (zF B.hx))
   have again:∀{σ7:St} {H7:Hp} {s7:Shared},Inv (X.dr N scope cl s3 (upd H2 D (.lst [])) fp) ([]++lQ fp s5.heap) σ7 H7 s7→Inv (X.dr N scope cl s3 (upd H2 D (.lst [])) fp) [] σ7 H7 s7∧tn (i+1) s7.heap∧∀b∈fp,H7 b=none:=fun{σ7 H7 s7} I7=>by
    refine ⟨I7.tU,T.keep _ _ _ h_ fun b hb o e=>(I7.pin (b,o) (d9 _ (d9 _ (oF hb e)))).1,fun b hb=>?_⟩
    obtain ⟨o,e,d⟩:=T.obj _ _ h_ b hb
    exact (I7.pin (b,o) (d9 _ (d9 _ (oF hb e)))).2.1
   refine c_ (pg _ s5 _ H5 y u (fun σ2 H6=>σ2=some y::ρ σ∧H6=H5) qv r5 ⟨rfl,rfl⟩) (fun _ s6 ⟨σ6,H6,I6,q6⟩=>?_) fun _ _ z=>z.elim
   obtain ⟨rfl,rfl⟩:=q6
   have xW:=step y _ y5
   have tests:∀{kP:TT},oM (X.dr N scope cl s3 (upd H2 D (.lst [])) fp) ifs kP→∀{R:Bool→Hp→Prop},kP (some y::ρ σ) H6 R→wpAny (model X.prog X.w) X.A
     (forIn ifs true fun c r=>if r=true then do let ok ←isTrue c (compEnvC scope cl s3.heap.objs.size X.env) (eval c (compEnvC scope cl s3.heap.objs.size X.env));pure (ForInStep.yield ok) else pure (ForInStep.yield r))
     (fun ok s7=>∃H7,Inv (X.dr N scope cl s3 (upd H2 D (.lst [])) fp) ([]++lQ fp s5.heap) (some y::ρ σ) H7 s7∧R ok H7) (fun _ _=>False) s6:=fun{kP} p {R} hR=>by
    cases p with
    | nil=>exact wpAny_tests_nil ⟨_,I6,hR⟩
    | one p=>exact wpAny_tests_one (p _ s6 _ _ _ I6 hR)
   refine c_ (tests (ht s3 _ fp) xW) (fun ok s7 ⟨H7,I7,q7⟩=>?_) fun _ _ z=>z.elim
   cases ok with
   | false=>
    obtain ⟨m',dM,w7⟩:=q7
    obtain ⟨a1,a2,a3⟩:=again I7
    exact ⟨m',dM,i+1,ys,_,H7,a1,a2,a3,w7⟩
   | true=>
    refine c_ (he s3 _ fp _ s7 _ H7 _ I7 q7) (fun ev s8 ⟨z,H8,I8,r8,xX,hz,m',dM,w8⟩=>?_) fun _ _ z=>z.elim
    refine c_ (ie (X:=X.dr N scope cl s3 (upd H2 D (.lst [])) fp) _ s8 _ H8 (.ref D) [z] (.ref D) [ev] (fun _ H9=>H9=upd H8 D (.lst (ys++[z]))) I8 rfl (.cons r8 .nil) ⟨D,ys,z,rfl,rfl,xX,hz,rfl⟩) (fun _ s9 ⟨_,H9,I9,_,q9⟩=>?_) fun _ _ z=>z.elim
    subst q9
    obtain ⟨a1,a2,a3⟩:=again I9
    exact ⟨m',dM,i+1,ys++[z],_,_,a1,a2,a3,w8⟩
 have start:=loop (s3.toks+([]:List (Str×Value)).length)
 have es:({s3 with heap:=h₁,toks:=s3.toks+([]:List (Str×Value)).length}:Shared)={s2 with heap:=h₁,toks:=s2.toks+([]:List (Str×Value)).length}:=by rw [←kO]
 rw [es] at start
 exact CZ start (T.self _ 0 _ _ _ (T.keep _ _ _ jm fun b hb o e=>fv _ _ (ig _ _ e)) start)
end
def fZ(i:Int):Prop:=i.natAbs<2 ^ 2048
theorem fZ.log{i:Int}(h:fZ i):i.natAbs.log2<2048:=by
 by_cases z:i.natAbs=0;·rw [z];decide
 ·exact (Nat.log2_lt z).mpr h
theorem Jf:∀{xs:List V} {us:List Value},xs.length=us.length→(∀(i:Nat) (x:V) (u:Value),xs[i]?=some x→us[i]?=some u→RelV x u)→Vals xs us
 | [],[],_,_=>.nil
 | [],_::_,h,_=>by simp at h
 | _::_,[],h,_=>by simp at h
 | x::xs,u::us,h,k=>.cons (k 0 x u rfl rfl) (Jf (by simpa using h) fun i a b h1 h2=>k (i+1) a b (by simpa using h1) (by simpa using h2))
section
variable {X:Cx}
def Q0(i j:Int):Prop:=0<j∧fZ j
theorem Q1:da X (binaryOp .FloorDiv) (rI Q0 fun i j=>.int (i / j)):=z_ fun i j _ _ _ _ _ hc q=>floordiv_int (Int.ne_of_gt hc.1) (by rw [Int.fdiv_eq_ediv_of_nonneg i (dm hc.1)];exact q) (.inl (PyProof.noPylong_of_log2 (dX hc.2.log (by decide))))
def allR(K:aE):List V→Hp→VK→Prop:=fun xs H Q=>∃(p:Addr) (bs:List Bool),xs=[.ref p]∧a7 K H p (bs.map V.bl)∧Q (.bl (bs.all id)) H
theorem Q2{K:aE}(hc:X.calm=true)(hK:X.K=K:=by rfl):gR X (.builtin "all") (allR K):=by
 intro pins s σ H xs us Q I r h;subst hK;obtain ⟨p,bs,rfl,hq,q⟩:=h;obtain ⟨u,rfl,ru⟩:=vals1 r;cases ru;obtain ⟨its,rv,pl,hz⟩:=I.list hq;have eL:p≠s.heap.objs.size:=by obtain ⟨o,e,_⟩:=pl.isList;exact cq (aZ e)
 have hl:its.length=bs.length:=by rw [←rv.length,aC]
 refine call_all_walk (zB pl.isList ?_);refine ⟨s.heap.objs.size,_,_,_,_,_,fun i=>bs.getD i true,rfl,Walks.list (A:=X.A.in1) (show X.A.in1.handled=none from I.ok.hd hc) s.heap.objs.size p eL its.toArray,⟨⟨_,eX _ rfl,rfl,rfl⟩,pl.isList.push _⟩,fun i v s' Q' E' hv uf=>?_,fun h' tk hk=>?_⟩
 ·have iW:its[i]?=some v:=by simpa using hv
  cases eb:bs[i]? with
  | none=>
   have:=rv.none_of (i:=i) (by rw [bq,eb];rfl)
   rw [this] at iW;cases iW
  | some b=>
   obtain ⟨u,hu,ru⟩:=rv.get (i:=i) (x:=V.bl b) (by rw [bq,eb];rfl)
   rw [hu] at iW;cases iW;cases ru;have e:bs.getD i true=b:=by rw [du,eb];rfl
   have xY:Q' (bs.getD i true) s':=uf;rw [e] at xY;exact n6 xY
 ·refine ⟨.bl (bs.all id),H,I.kept fun b o e=>hk b o (fun z=>?_) (cg _ e),?_,q⟩
  ·exact absurd (aZ e) (by rw [bS.mp z];exact eE _)
  ·show Value.bool _=Value.bool _
   congr 1
   rw [bZ,hl];clear hk q rv pl hz hl hq
   induction bs with
   | nil=>rfl
   | cons b bs ih=>rw [dY,List.range_succ_eq_map,List.all_cons,List.all_map,List.all_cons];show (b && (List.range bs.length).all fun i=>bs.getD i true)=(b && bs.all id);rw [ih]
def Q3:List V→Hp→VK→Prop:=fun xs H Q=>∃j:Int,xs=[.int j]∧∀p,H p=none→Q (.ref p) (upd H p (.gO 0 j))
theorem Ak:gR X (.type "range") Q3:=by intro pins s σ H xs us Q I r h;obtain ⟨j,rfl,q⟩:=h;obtain ⟨u,rfl,ru⟩:=vals1 r;obtain ⟨t,rfl⟩:=ru;refine call_range_1 ⟨.ref s.heap.objs.size,_,I.laid (o:=.gO 0 j) (fun b o e=>cg _ e) (ax _) ⟨_,_,_,eX _ rfl⟩,rfl,q _ (I.ay.fresh (ax _))⟩
def dw(n:Nat):List V:=(List.range n).map fun i:Nat=>V.int (i:Int)
def Q4:List V→Hp→VK→Prop:=fun xs H Q=>∃p n,xs=[.ref p]∧H p=some (.gO 0 (n:Nat))∧n≤10000∧∀l,H l=none→Q (.ref l) (upd H l (.lst (dw n)))
theorem Am(hc:X.calm=true):gR X (.type "list") Q4:=by
 intro pins s σ H xs us Q I r h;obtain ⟨p,n,rfl,hp,hn,q⟩:=h;obtain ⟨u,rfl,ru⟩:=vals1 r;cases ru;obtain ⟨t,u,v,e⟩:=(show cw X.prog X.w H s.heap p (.gO 0 n) from I.ay p _ hp);refine call_list_range (n:=n) (I.ok.hd hc) e (small_one (by lia) (by lia) (by lia) (by lia)) (by rw [rangeSize_one];split <;> lia) (by lia) fun h' tk acc c hk hD hit=>?_
 refine ⟨.ref s.heap.objs.size,_,I.laid (o:=.lst (dw n)) (fun b o e=>hk b o e) (ax _) ⟨?_,acc.toList,c,?_,?_⟩,rfl,q _ (I.ay.fresh (ax _))⟩
 ·unfold dw
  rw [aC,dI];exact bR hn (by decide)
 ·refine Jf ?_ fun i x u h1 h2=>?_
  ·unfold dw
   rw [aC,dI,gM,hit.1]
  ·have Jg:acc[i]?=some u:=by simpa using h2
   obtain ⟨Jh,e'⟩:=hit.2 i u Jg;unfold dw at h1;rw [bq] at h1;have hi:i<n:=by have z:=(Array.getElem?_eq_some_iff.mp Jg).1;rw [hit.1] at z;exact z
   rw [jK hi] at h1;cases h1;exact ⟨Jh,by rw [e'];simp⟩
 ·rw [hD]
end
theorem boot_all:bootBuiltins "all"=some (.builtin "all"):=by decide +kernel
theorem An:bootBuiltins "range"=some (.type "range"):=by decide +kernel
def DV:Expr→Bool
 | .Starred _ _=>false
 | _=>true
variable {e:Expr} {es:List Expr}
theorem Q5{env:Env}(h:DV e=true):starEach (e::es) env=(false,eval e env)::starEach es env:=by cases e <;> first | rfl | cases h
variable {X:Cx} {te:TE} {t:TA}
theorem Q6(hs:DV e=true)(ha:PE X e te)(hr:PA X es t):PA X (e::es) (qz te t):=
 PR ha hr (Q5 hs)
theorem ak(ha:PE X e te)(hr:PA X es t)(hs:DV e=true:=by rfl):PA X (e::es) (qz te t):=Q6 hs ha hr
variable {pos pos':Pos} {x:Str}
theorem Ji{i:Nat}(hs:swapsWith e (some (.Name x pos')) pos.line X.env=pure false)(hf:X.fn x=true∨X.env.scope.names.lookup x=some .local)(hN:X.N.Nodup)(hi:X.N[i]?=some x)(hx:Loc X.env.scope x)(he:PE X e te) :
  PS X (.Assign [.Name x pos'] e pos) (oE te (aO i)):=Pe hN hi hx he hs hf
theorem putL(i:Nat)(hN:X.N.Nodup)(he:PE X e te)(hs:swapsWith e (some (.Name x pos')) pos.line X.env=pure false:=by rfl)(hi:X.N[i]?=some x:=by rfl)(hx:X.env.scope.names.lookup x=some .local:=by rfl) :
  PS X (.Assign [.Name x pos'] e pos) (oE te (aO i)):=Ji hs (.inr hx) hN hi (.inl hx) he
theorem jW(i:Nat)(hN:X.N.Nodup)(he:PE X e te)(hs:swapsWith e (some (.Name x pos')) pos.line X.env=pure false:=by rfl)(hf:X.fn x=true∨X.env.scope.names.lookup x=some .local:=by first | exact .inl rfl | exact .inr rfl | assumption)(hi:X.N[i]?=some x:=by rfl)(hx:X.env.scope.names.lookup x=some .cell:=by rfl) :
  PS X (.Assign [.Name x pos'] e pos) (oE te (aO i)):=Ji hs hf hN hi (.inr hx) he
end L2
namespace My
open PySem L2
theorem qE(a b:Int):decide (V.int a=V.int b)=decide (a=b):=by
 by_cases h:a=b;·subst h;simp
 ·rw [bL h];exact bL fun e=>h (V.int.inj e)
variable {K:aE}
theorem Q7{T:String}:PySem.W.kitOne K (.type T) (.type T)=some true:=by unfold PySem.W.kitOne;rw [ae (pW _)]
variable {H:Hp}
theorem aQ{p:Addr}{o:HO}(h:H p=none):aj H (upd H p o):=fun b u e=>by rw [aH (fT e h)];exact e
variable {i:Int}
theorem Jj{α:Type}{xs:List α}(h0:0≤i)(h1:i<xs.length):∃v,gS xs i=some v∧v∈xs:=by
 obtain ⟨k,rfl⟩:∃k:Nat,i=(k:Int):=⟨i.toNat,by lia⟩
 have hk:k<xs.length:=by lia
 exact ⟨xs[k],iU (by simp [hk]),bT _⟩
inductive Any (H:Hp):V→Prop where
 | aN:Any H .aN
 | bl (b:Bool):Any H (.bl b)
 | int (i:Int):Any H (.int i)
 | str (x:Str):Any H (.str x)
 | lst {a:Addr} {xs:List V} (e:H a=some (.lst xs)):Any H (.ref a)
 | tup {a:Addr} {xs:List V} (e:H a=some (.tup xs)):Any H (.ref a)
 | ue {a:Addr} (e:H a=some (Ja a)):Any H (.ref a)
def ug:V→Bool
 | .int _=>true
 | _=>false
def uh:V→Bool
 | .bl _=>true
 | _=>false
def Ao(H:Hp):V→Bool
 | .ref a=>(match H a with | some (.tup _)=>true | _=>false)
 | _=>false
theorem Any.DR{v:V}(h:Any H v):∃T:String,xQ K H v (.type T)∧PySem.W.kitOne K (.type T) (.type "int")=some (ug v || uh v)∧PySem.W.kitOne K (.type T) (.type "bool")=some (uh v) ∧
  PySem.W.kitOne K (.type T) (.type "tuple")=some (Ao H v):=by
 cases h with
 | aN=>exact ⟨"NoneType",.of .aN,rfl,rfl,rfl⟩
 | bl b=>exact ⟨"bool",.of (.bl b),rfl,rfl,rfl⟩
 | int i=>exact ⟨"int",.of (.int i),rfl,rfl,rfl⟩
 | str x=>exact ⟨"str",.of (.str x),rfl,rfl,rfl⟩
 | lst e=>exact ⟨"list",.of (.lst e),rfl,rfl,by unfold Ao;dsimp only;rw [e];rfl⟩
 | tup e=>exact ⟨"tuple",.of (.tup e),rfl,rfl,by unfold Ao;dsimp only;rw [e];rfl⟩
 | ue e=>exact ⟨"dict",.ue e,rfl,rfl,by unfold Ao;dsimp only;rw [e];rfl⟩
theorem Q8{v:V}(h:uh v=true):ug v=false:=by cases v <;> first | rfl | cases h
theorem fZ.of_lt(h1:-(10 ^ 70)<i)(h2:i<10 ^ 70):fZ i:=by
 have h3:i.natAbs<2 ^ 240:=by lia
 exact dX h3 (Nat.pow_le_pow_right (by decide) (by decide))
def Q9:Sp:=fun vs H Q _=>∃v:V,vs=[v]∧Any H v∧Q (.bl (ug v)) H
def Q_(K:aE):Sp:=fun vs H Q _=>∃(a:Addr) (ns:List Int),vs=[.ref a]∧a7 K H a (ns.map V.int)∧ns.length≤63∧∀H',Q (.bl true) H'
end My
namespace L2
open PySem PySem.Spec PyProof.Rows
end L2
namespace My
open PySem L2
end My
namespace L2
open PySem PySem.Spec PyProof.Rows
section
variable {P:Program} {w:World} {K:aE} {mg:cJ} {base:Heap}
end
section
variable {X:Cx} {CX:iS} {k:Nat} {f C:Addr} {fd:FuncData} {ps:List Str} {y:Str} {sp:Sp} {E:XK} {m:Str} {pos apos Ir:Pos} {e e' o:Expr} {ta:TE} {t tk:TA}
end
end L2
namespace My
open PySem L2
end My
namespace L2
open PySem PySem.Spec PyProof.Rows
section
variable {X:Cx}
end
end L2
namespace My
open PySem L2
section
variable {C N z:Addr} {q:Int} {v u:V} {t b t' b':Int} {H:Hp} {Q:VK} {E:XK}
end
end My
namespace L2
open PySem PySem.Spec PyProof.Rows
structure iX (J:It) (xs:List V) (H1:Hp):Prop where
 go:∀i Hc,aj H1 Hc→i<xs.length→J.go i Hc
 eY:∀i Hc x H',aj H1 Hc→J.eY i Hc x H'→H'=Hc∧(i<xs.length→xs[i]?=some x)
 stop:∀i Hc,aj H1 Hc→xs.length≤i→J.stop i Hc
variable {xs:List V} {H1:Hp}
theorem ju{K:aE}{a:Addr}(h:a7 K H1 a xs):iX (qr K a) xs H1 where
 go:=fun i Hc s hi=>⟨xs,xs[i],s.seq h,by simp [hi]⟩
 eY:=fun i Hc x H' s y=>⟨y.1,fun _=>y.2 xs (s.seq h)⟩
 stop:=fun i Hc s hi=>⟨xs,s.seq h,hi⟩
theorem DW{lo:Int}{n:Nat}:iX (nk lo n) ((List.range n).map fun i:Nat=>V.int (lo+(i:Int))) H1 where
 go:=fun i Hc s hi=>by
  have hi:i<n:=by simpa using hi
  exact hi
 eY:=fun i Hc x H' s y=>⟨y.1,fun hi=>by
  have hi:i<n:=by simpa using hi
  rw [y.2];simp [hi]⟩
 stop:=fun i Hc s hi=>by
  have hi:n≤i:=by simpa using hi
  exact hi
variable {H:Hp} {D:Addr}
theorem eN{H':Hp}{o:HO}(s:aj H H')(n:H D=none):aj H (upd H' D o):=fun b u e=>by rw [aH (fT e n)];exact s b u e
variable {te:TE} {Q:VK}
theorem Jk{J:It}{ρσ:St}(js:iX J xs H1)(nD:H1 D=none)(hn:xs.length<sizeLine)
  (P:Nat→V→Hp→Prop) (mono:∀i y H H' ys,P i y H→H D=some (.lst ys)→(∀b o,b≠D→H b=some o→H' b=some o)→P i y H')
  (step:∀i x,xs[i]?=some x→∀(Hc:Hp) (R:VK),aj H1 Hc→(∃ys,Hc D=some (.lst ys))→(∀y H3,aj Hc H3→P i y H3→R y H3)→te (some x::ρσ) Hc R)
  (fin:∀ys Hc,aj H1 Hc→ys.length=xs.length→(∀i y,ys[i]?=some y→P i y Hc)→Hc D=some (.lst ys)→Q (.ref D) Hc) :
  ∃W:Nat→Nat→List V→Hp→Prop,(∃m,W 0 m [] (upd H1 D (.lst []))) ∧
   ∀i m ys Hc,W i m ys Hc→Hc D=some (.lst ys)∧((J.stop i Hc∧Q (.ref D) Hc)∨(J.go i Hc∧∀x H',J.eY i Hc x H'→
    if true=true then te (some x::ρσ) H' fun y H3=>H3 D=some (.lst ys)∧ys.length<sizeLine∧∃m',m'<m∧W (i+1) m' (ys++[y]) (upd H3 D (.lst (ys++[y]))) else ∃m',m'<m∧W (i+1) m' ys H')):=by
 refine ⟨fun i m ys Hc=>m=xs.length-i∧i≤xs.length∧Hc D=some (.lst ys)∧aj H1 Hc∧ys.length=i∧∀j y,ys[j]?=some y→P j y Hc,⟨_,rfl,bY _,av,eN (aj.refl H1) nD,rfl,fun j y e=>by simp at e⟩,?_⟩
 rintro i m ys Hc ⟨rfl,hi,eD,sH,el,hP⟩;refine ⟨eD,?_⟩;by_cases aV:i<xs.length
 ·refine .inr ⟨js.go i Hc sH aV,fun x H' hy=>?_⟩
  obtain ⟨rfl,hx⟩:=js.eY i Hc x H' sH hy;rw [ae rfl];refine step i x (hx aV) _ _ sH ⟨ys,eD⟩ fun y H3 s3 hp=>?_;have e3:=s3 _ _ eD;refine ⟨e3,by lia,xs.length-(i+1),by lia,rfl,aV,av,eN (sH.trans s3) nD,by simp [el],fun j y' e=>?_⟩
  have cf:∀b o,b≠D→H3 b=some o→upd H3 D (.lst (ys++[y])) b=some o:=fun b o nb e=>by rw [aH nb];exact e
  by_cases hj:j<i
  ·have e':ys[j]?=some y':=by rw [iO (by lia)] at e;exact e
   refine mono j y' H' _ ys (hP j y' e') eD fun b o nb e=>?_;exact cf b o nb (s3 _ _ e)
  ·have hj:j=i:=by have:=(cu.mp e).1;simp at this;lia
   subst hj;have e':y'=y:=by rw [iM (by lia),el,wY] at e;simpa using e.symm
   subst e';exact mono _ _ H3 _ ys hp e3 cf
 ·have e:i=xs.length:=by lia
  subst e;exact .inl ⟨js.stop _ Hc sH (ax _),fin ys Hc sH el hP eD⟩
variable {wi:TI} {ρ:St→St} {σ:St}
theorem Ra(dR:∀R:It→Hp→Prop,(∀J H1,aj H H1→iX J xs H1→R J H1)→wi σ H R)(hn:xs.length<sizeLine)
  (P:Addr→Nat→V→Hp→Prop) (mono:∀D i y H H' ys,P D i y H→H D=some (.lst ys)→(∀b o,b≠D→H b=some o→H' b=some o)→P D i y H')
  (step:∀D i x,xs[i]?=some x→∀(Hc:Hp) (R:VK),aj H Hc→(∃ys,Hc D=some (.lst ys))→(∀y H3,aj Hc H3→P D i y H3→R y H3)→te (some x::ρ σ) Hc R)
  (fin:∀D ys Hc,aj H Hc→ys.length=xs.length→(∀i y,ys[i]?=some y→P D i y Hc)→Hc D=some (.lst ys)→Q (.ref D) Hc):e_ wi ρ (fun _ H Q=>Q true H) te σ H Q:=by
 refine dR _ fun J H1 s1 js=>?_;intro D nD;exact Jk (ρσ:=ρ σ) (te:=te) (Q:=Q) js nD hn (P D) (mono D) (fun i x hx Hc R sc=>step D i x hx Hc R (s1.trans sc)) (fun ys Hc sc=>fin D ys Hc (s1.trans sc))
theorem ma{g:TG}{D:Ends}(h:te σ H fun x H1=>g x σ H1 D.nx):oE te g D σ H:=h
theorem dN{a b:TS}{D:Ends}(h:a {D with nx:=fun σ H=>b D σ H} σ H):Dn a b D σ H:=h
section
variable {X:Cx} {N:List Str} {scope:Scope} {cl:List (Str×Addr)} {x:Str} {px pos:Pos} {iter elt:Expr} {ifs:List Expr} {wi:TI} {ρ:St→St} {tt:TT} {te:TE}
theorem Ap{y:Str}{py xZ:Pos}{i0:Nat}(B:DT X N scope cl x ρ)(hc:X.calm=true)(hN:X.N.Nodup)(DX:X.N[i0]?=some y)(hy:Loc X.env.scope y)(hi:PI X (.Name x px) iter wi)(ht:∀s₃ H₃ fp,oM (X.dr N scope cl s₃ H₃ fp) ifs tt)(he:∀s₃ H₃ fp,PE (X.dr N scope cl s₃ H₃ fp) elt te)
  (DY:swapsWith (.ListComp elt [⟨.Name x px,iter,ifs,0⟩] scope pos) (some (.Name y py)) xZ.line X.env=pure true:=by rfl) (hf:X.fn y=true∨X.env.scope.names.lookup y=some .local:=by first | exact .inl rfl | exact .inr rfl | assumption)
  (hs:∀x,foldedSetIterable iter X.env x=pure x:=by intro _;rfl):PS X (.Assign [.Name y py] (.ListComp elt [⟨.Name x px,iter,ifs,0⟩] scope pos) xZ) (oE (e_ wi ρ tt te) (aO i0)):=by
 intro pins s σ H D0 I h
 have h:e_ wi ρ tt te σ H (fun v H1=>D0.nx (σ.set i0 (some v)) H1):=h
 rw [exec_Assign_Name_used _ _ _ _ DY]
 refine bo (wR (bo ?_))
 show wpAny _ X.A (do let _ ←comprehension (.ListComp elt [⟨.Name x px,iter,ifs,0⟩] scope pos) scope X.env _ (newList []) false (eval iter X.env) (some (assign (.Name y py) X.env))) _ _ s
 refine bo (c_ (Q:=fun _ s'=>SP X pins D0 .next s') ?_ (fun _ s' hq=>dB (dB hq)) fun _ _ e=>e)
 refine CW (use:=some (assign (.Name y py) X.env)) rfl hs B.Ai B.kind B.names (aJ (hi pins s σ H _ I h) fun v s1 h1=>aJ h1 fun xx s2 h2=>?_)
 obtain ⟨it,fp,tn,J,H2,rfl,I2,T,jm,f2,q2⟩:=h2
 have nD:H2 s2.heap.objs.size=none:=I2.ay.fresh (ax _)
 obtain ⟨W,⟨m0,w0⟩,turn⟩:=q2 _ nD
 refine wpAny_newObj_type (wpAny_newFunctionEnv B.Jc (by intro y hy;simp at hy) (fun h₁ kM nB=>?_) B.kind)
 dsimp only at kM nB ⊢
 generalize hD:s2.heap.objs.size=D at nD w0 turn kM nB ⊢
 generalize kO:({s2 with heap:=s2.heap.push {cls:=.type "list",dict:=none,data:=.seq ([]:List Value).toArray}}:Shared)=s3
 have I3:Inv X pins σ (upd H2 D (.lst [])) s3:=by
  subst hD kO
  exact I2.laid (t':=s2.toks) (fun b u e=>cg _ e) (ax _) ⟨bY _,[],_,.nil,eX _ rfl⟩
 have e3:s3.heap=s2.heap.push {cls:=.type "list",dict:=none,data:=.seq ([]:List Value).toArray}:=by rw [←kO]
 have ig:∀b o,s2.heap.get? b=some o→s3.heap.get? b=some o:=fun b o e=>by rw [e3];exact cg _ e
 rw [←e3] at kM nB ⊢
 have below:∀b o,s3.heap.get? b=some o→b≠s3.heap.objs.size:=fun b o e=>cq (aZ e)
 have fv:∀b o,s3.heap.get? b=some o→h₁.get? b=some o:=fun b o e=>nB.extBut b o (below b o e) (cg _ e)
 have jV:∀b∈fp,∃o,s2.heap.get? b=some o∧∀v,o.data≠.cell v:=T.obj _ _ jm
 have xR:∀b∈fp,b≠D:=fun b hb z=>by
  obtain ⟨o,e,_⟩:=jV b hb
  rw [z,←hD] at e
  exact absurd (aZ e) (eE _)
 have d5:∀y c,cl.lookup y=some c→X.env.cells.lookup y=some c:=fun y c e=>B.sub (y,c) (lE e)
 have xS:=I3.xj
 have gU:(X.dr N scope cl s3 (upd H2 D (.lst [])) fp).Ok:=by
  refine ⟨I.ok.mod,B.kind,I.ok.glob,I.ok.blt,ax _,fun a b c e1 e2=>I.ok.inj a b c (d5 a c e1) (d5 b c e2),fun y hy=>B.has y hy,(fun _ _ z _=>absurd z dA),(fun _=>I.ok.hd hc),I.ok.frames,.inl rfl,fun b hb=>⟨?_,fun y c e z=>?_⟩,fun b o e=>?_,bR I.ok.jl I3.sz,fun b o e hb=>?_,fun b hb z=>?_,I3.stack,xS⟩
  ·obtain ⟨o,e,_⟩:=jV b hb
   exact below b o (ig b o e)
  ·exact (f2 b hb).2.2.2.2.1 y c (d5 y c e) z
  ·exact I3.bs b o e
  ·rcases (f2 b hb).2.2.2.1 with z | z
   ·exact I.ok.qj b o e z
   ·exact absurd (dX (aZ e) (bR I.ok.jl z)) (eE _)
  ·rcases bh.mp (I3.xi b z) with z | z
   ·exact (f2 b hb).2.1 z
   ·exact (f2 b hb).2.2.1 z
 have IB:∀tk:Nat,Inv (X.dr N scope cl s3 (upd H2 D (.lst [])) fp) [] (none::ρ σ) (upd H2 D (.lst [])) {s3 with heap:=h₁,toks:=tk}:=fun tk=>by
  refine ⟨gU,rfl,I3.bare,Un.kept fv,⟨_,kM,fun j y v e1 e2 e3=>?_⟩,fun y c e=>?_,?_,fun y c e=>I3.jP y c (d5 y c e),(fun p hp=>nomatch hp),I3.ay.kept fv,?_⟩
  ·cases j with
   | zero=>cases e2
   | succ j=>
    obtain ⟨i,y',a1,a2,a3,a4,a5,a6⟩:=B.Aj σ j v e2
    have oO:N[j+1]?=some y:=e1
    rw [oO] at a1
    cases a1
    obtain ⟨m,hn,hl⟩:=I3.loc
    obtain ⟨u,r,l⟩:=hl i y v a2 a3 a4
    refine ⟨u,r,.inr ⟨a6,?_⟩⟩
    obtain ⟨c,ec⟩:=B.has y a6
    rcases l with ⟨k,_⟩ | ⟨_,c',oP,z⟩
    ·rcases a5 with q | q <;> (rw [k] at q;cases q)
    ·have:=d5 y c ec
     rw [this] at oP
     cases oP
     obtain ⟨o,ho,hd⟩:=z
     exact ⟨c,ec,o,fv _ _ ho,hd⟩
  ·obtain ⟨v,o,ho,hd⟩:=I3.cell y c (d5 y c e)
   exact ⟨v,o,fv _ _ ho,hd⟩
  ·exact I3.ay.fresh (ax _)
  ·show (none::ρ σ).length=N.length
   rw [dY]
   exact B.len σ I.len
 have qF:∀b o,s3.heap.get? b=some o→b≠s3.heap.objs.size:=below
 have fin:∀{σ':St} {H':Hp} {s':Shared},Inv (X.dr N scope cl s3 (upd H2 D (.lst [])) fp) [] σ' H' s'→D0.nx (σ.set i0 (some (.ref D))) H'→compPost (model X.prog X.w) X.A X.xe (some (assign (.Name y py) X.env)) (fun _ s'=>SP X pins D0 .next s') (.ref D) s3.heap.objs.size (.ok .next) s':=fun{σ' H' s'} J q=>by
  obtain ⟨m,hn,_⟩:=J.loc
  have hn:s'.heap.Ns s3.heap.objs.size m:=hn
  have JC:H' s3.heap.objs.size=none:=J.free
  have u1:Un (cS X.stack) fp (upd H2 D (.lst [])) H' s3.heap s'.heap:=by
   refine ⟨fun b o e n hb hx=>J.base.keep b o e n hb hx,fun b o e n hb hx=>J.base.slot b o e n hb hx,J.base.free,fun b o e hx=>J.base.there b o e hx,J.base.hJ,J.base.gP,J.base.gQ⟩
  have IX:Inv X pins σ H' s':=I3.qm (ch:=fp) (J.os) u1 J.ay J.bare fun b hb=>by
   obtain ⟨g0,g1,g2,g3,g4,g5⟩:=f2 b hb
   exact ⟨g3,g1,g4,g5⟩
  have nl:X.env.locals≠s3.heap.objs.size:=by
   obtain ⟨m3,⟨o3,_,_,e3,_⟩,_⟩:=I3.loc
   exact qF _ _ e3
  have nc:∀z c,X.env.cells.lookup z=some c→c≠s3.heap.objs.size:=fun z c e=>by
   obtain ⟨v3,o3,e3,_⟩:=I3.cell z c e
   exact qF _ _ e3
  refine wpAny_assign_Name (Dh (v:=.ref D) IX hN DX hy rfl (fun jr qG md=>?_) hf)
  obtain ⟨a,md,ha⟩:=md
  have na:s3.heap.objs.size≠a:=by
   rcases ha with rfl | e
   ·exact fun z=>nl z.symm
   ·exact fun z=>nc _ _ e z.symm
  refine ⟨m,hn.sameBut md na,fun h' iV=>⟨σ.set i0 (some (.ref D)),H',?_,q⟩⟩
  have u2:Un (cS X.stack) [s3.heap.objs.size] H' H' jr.heap h':=by
   refine ⟨fun b o e n hb hx=>(iV.2 b (by simpa using hx)).trans e,fun b o e n hb hx=>⟨o.slots,(iV.2 b (by simpa using hx)).trans e⟩,fun b o e n hx=>n,fun b o e hx=>⟨o,(iV.2 b (by simpa using hx)).trans e⟩,fun b xs z=>z,fun b o u z=>z,fun b ps z=>⟨#[],by simpa using z⟩⟩
  have xT:cy X.prog X.w H' h':=fun b u e=>by
   refine (qG.ay b u e).jh (fun c v hc z=>(iV.2 c fun y=>?_).trans z) (fun _ z=>z) fun _ _ z=>z
   have y':c=s3.heap.objs.size:=y
   rcases hc with hc | hc
   ·rw [←hc,y',JC] at e
    cases e
   ·rw [y',JC] at hc
    cases hc
  refine qG.qm (s':={jr with heap:=h'}) (ch:=[s3.heap.objs.size]) rfl u2 xT qG.bare fun b hb=>?_
  have eb:b=s3.heap.objs.size:=by simpa using hb
  subst eb
  refine ⟨.inr I3.sz,fun z=>nl z.symm,fun z c e=>nc z c e,fun p hp=>?_⟩
  exact qF _ _ (I3.pin p hp).1
 have hW:∀{H':Hp},(∀b∈fp,H' b=none)→∀b∈fp,ng (X.dr N scope cl s3 (upd H2 D (.lst [])) fp) [] H' b:=fun hn b hb=>by
  refine ⟨hn b hb,?_,?_,.inl hb,fun y c e z=>(f2 b hb).2.2.2.2.1 y c (d5 y c e) z,fun p hp=>nomatch hp⟩
  ·obtain ⟨o,e,_⟩:=jV b hb
   exact below b o (ig b o e)
  ·exact gU.qk b hb
 have loop:∀tk:Nat,codeAny (model X.prog X.w) X.A (.compLoop (.ListComp elt [⟨.Name x px,iter,ifs,0⟩] scope pos) 0 (.ref it) (.ref D) (compEnvC scope cl s3.heap.objs.size X.env))
   (compPost (model X.prog X.w) X.A X.xe (some (assign (.Name y py) X.env)) (fun _ s'=>SP X pins D0 .next s') (.ref D) s3.heap.objs.size) {s3 with heap:=h₁,toks:=tk}:=fun tk=>by
  refine CY (fun n s'=>∃i ys o H',Inv (X.dr N scope cl s3 (upd H2 D (.lst [])) fp) [] (o::ρ σ) H' s'∧tn i s'.heap∧(∀b∈fp,H' b=none)∧W i n ys H') ?_ m0
   ⟨0,[],none,_,IB tk,T.keep _ _ _ jm fun b hb o e=>fv _ _ (ig _ _ e),fun b hb=>by rw [aH (xR b hb)];exact (f2 b hb).1,w0⟩
  rintro n s4 ⟨i,ys,o,H4,I4,oQ,oR,w4⟩
  obtain ⟨Je,xU⟩:=turn i n ys H4 w4
  rcases xU with ⟨stop,qn⟩ | ⟨go,step⟩
  ·refine c_ (T.done (X.dr N scope cl s3 (upd H2 D (.lst [])) fp) rfl rfl rfl hc i [] s4 _ H4 (fun _ _=>False) I4 (hW oR) oQ stop) (fun r s5 ⟨hr,I5⟩=>?_) fun _ _ z=>z.elim
   subst hr
   exact fin I5 qn
  ·refine c_ (T.item (X.dr N scope cl s3 (upd H2 D (.lst [])) fp) rfl rfl rfl hc i [] s4 _ H4 (fun _ _=>False) I4 (hW oR) oQ go) (fun r s5 ⟨u,hr,h5⟩=>?_) fun _ _ z=>z.elim
   subst hr
   have z:letOwnedTupleGo (.Name x px) (.ref it) u=pure ():=rfl
   rw [z] at h5
   show wpAny _ _ ((pure ():Sem Unit) >>= fun _=>assign (.Name x px) (compEnvC scope cl s3.heap.objs.size X.env) u) _ _ s5
   refine bo (c_ h5 (fun _ s5 ⟨y,H5,I5,r5,y5,h_,qu⟩=>?_) fun _ _ z=>z.elim)
   have qv:=I5.pinned (hW qu) (T.obj _ _ h_)
   have pg:PG (X.dr N scope cl s3 (upd H2 D (.lst [])) fp) (.Name x px) (aO 0):=cU (i:=0) B.nd B.n0 (.inl (zF B.hx)) (.inr (zF B.hx))
   have again:∀{σ7:St} {H7:Hp} {s7:Shared},Inv (X.dr N scope cl s3 (upd H2 D (.lst [])) fp) ([]++lQ fp s5.heap) σ7 H7 s7→Inv (X.dr N scope cl s3 (upd H2 D (.lst [])) fp) [] σ7 H7 s7∧tn (i+1) s7.heap∧∀b∈fp,H7 b=none:=fun{σ7 H7 s7} I7=>by
    refine ⟨I7.tU,T.keep _ _ _ h_ fun b hb o e=>(I7.pin (b,o) (d9 _ (d9 _ (oF hb e)))).1,fun b hb=>?_⟩
    obtain ⟨o,e,d⟩:=T.obj _ _ h_ b hb
    exact (I7.pin (b,o) (d9 _ (d9 _ (oF hb e)))).2.1
   refine c_ (pg _ s5 _ H5 y u (fun σ2 H6=>σ2=some y::ρ σ∧H6=H5) qv r5 ⟨rfl,rfl⟩) (fun _ s6 ⟨σ6,H6,I6,q6⟩=>?_) fun _ _ z=>z.elim
   obtain ⟨rfl,rfl⟩:=q6
   have xW:=step y _ y5
   have tests:∀{kP:TT},oM (X.dr N scope cl s3 (upd H2 D (.lst [])) fp) ifs kP→∀{R:Bool→Hp→Prop},kP (some y::ρ σ) H6 R→wpAny (model X.prog X.w) X.A
     (forIn ifs true fun c r=>if r=true then do let ok ←isTrue c (compEnvC scope cl s3.heap.objs.size X.env) (eval c (compEnvC scope cl s3.heap.objs.size X.env));pure (ForInStep.yield ok) else pure (ForInStep.yield r))
     (fun ok s7=>∃H7,Inv (X.dr N scope cl s3 (upd H2 D (.lst [])) fp) ([]++lQ fp s5.heap) (some y::ρ σ) H7 s7∧R ok H7) (fun _ _=>False) s6:=fun{kP} p {R} hR=>by
    cases p with
    | nil=>exact wpAny_tests_nil ⟨_,I6,hR⟩
    | one p=>exact wpAny_tests_one (p _ s6 _ _ _ I6 hR)
   refine c_ (tests (ht s3 _ fp) xW) (fun ok s7 ⟨H7,I7,q7⟩=>?_) fun _ _ z=>z.elim
   cases ok with
   | false=>
    obtain ⟨m',dM,w7⟩:=q7
    obtain ⟨a1,a2,a3⟩:=again I7
    exact ⟨m',dM,i+1,ys,_,H7,a1,a2,a3,w7⟩
   | true=>
    refine c_ (he s3 _ fp _ s7 _ H7 _ I7 q7) (fun ev s8 ⟨z,H8,I8,r8,xX,hz,m',dM,w8⟩=>?_) fun _ _ z=>z.elim
    refine c_ (ie (X:=X.dr N scope cl s3 (upd H2 D (.lst [])) fp) _ s8 _ H8 (.ref D) [z] (.ref D) [ev] (fun _ H9=>H9=upd H8 D (.lst (ys++[z]))) I8 rfl (.cons r8 .nil) ⟨D,ys,z,rfl,rfl,xX,hz,rfl⟩) (fun _ s9 ⟨_,H9,I9,_,q9⟩=>?_) fun _ _ z=>z.elim
    subst q9
    obtain ⟨a1,a2,a3⟩:=again I9
    exact ⟨m',dM,i+1,ys++[z],_,_,a1,a2,a3,w8⟩
 have start:=loop (s3.toks+([]:List (Str×Value)).length)
 have es:({s3 with heap:=h₁,toks:=s3.toks+([]:List (Str×Value)).length}:Shared)={s2 with heap:=h₁,toks:=s2.toks+([]:List (Str×Value)).length}:=by rw [←kO]
 rw [es] at start
 exact CZ start (T.self _ 0 _ _ _ (T.keep _ _ _ jm fun b hb o e=>fv _ _ (ig _ _ e)) start)
end
section
variable {X:Cx}
end
section
variable {prog:Program} {w:World} {A:Around} {R:Result→Shared→Prop} {s:Shared}
end
section
variable {X:Cx} {N:List Str} {scope:Scope} {cl:List (Str×Addr)} {x y:Str} {px py pos tp:Pos} {Rb:Nat} {iter elt:Expr} {ifs:List Expr} {wi:TI} {ρ:St→St} {tt:TT} {te:TE}
end
section
variable {X:Cx}
def anyR(K:aE):List V→Hp→VK→Prop:=fun xs H Q=>∃(p:Addr) (bs:List Bool),xs=[.ref p]∧a7 K H p (bs.map V.bl)∧Q (.bl (bs.any id)) H
variable {K:aE}
theorem Aq(hc:X.calm=true)(hK:X.K=K:=by rfl):gR X (.builtin "any") (anyR K):=by
 intro pins s σ H xs us Q I r h;subst hK;obtain ⟨p,bs,rfl,hq,q⟩:=h;obtain ⟨u,rfl,ru⟩:=vals1 r;cases ru;obtain ⟨its,rv,pl,hz⟩:=I.list hq;have eL:p≠s.heap.objs.size:=by obtain ⟨o,e,_⟩:=pl.isList;exact cq (aZ e)
 have hl:its.length=bs.length:=by rw [←rv.length,aC]
 refine call_any_walk (zB pl.isList ?_);refine ⟨s.heap.objs.size,_,_,_,_,_,fun i=>bs.getD i false,rfl,Walks.list (A:=X.A.in1) (show X.A.in1.handled=none from I.ok.hd hc) s.heap.objs.size p eL its.toArray,⟨⟨_,eX _ rfl,rfl,rfl⟩,pl.isList.push _⟩,fun i v s' Q' E' hv uf=>?_,fun h' tk hk=>?_⟩
 ·have iW:its[i]?=some v:=by simpa using hv
  cases eb:bs[i]? with
  | none=>
   have:=rv.none_of (i:=i) (by rw [bq,eb];rfl)
   rw [this] at iW;cases iW
  | some b=>
   obtain ⟨u,hu,ru⟩:=rv.get (i:=i) (x:=V.bl b) (by rw [bq,eb];rfl)
   rw [hu] at iW;cases iW;cases ru;have e:bs.getD i false=b:=by rw [du,eb];rfl
   have xY:Q' (bs.getD i false) s':=uf;rw [e] at xY;exact n6 xY
 ·refine ⟨.bl (bs.any id),H,I.kept fun b o e=>hk b o (fun z=>?_) (cg _ e),?_,q⟩
  ·exact absurd (aZ e) (by rw [bS.mp z];exact eE _)
  ·show Value.bool _=Value.bool _
   congr 1
   rw [bZ,hl];clear hk q rv pl hz hl hq
   induction bs with
   | nil=>rfl
   | cons b bs ih=>rw [dY,List.range_succ_eq_map,oj,List.any_map,oj];show (b || (List.range bs.length).any fun i=>bs.getD i false)=(b || bs.any id);rw [ih]
def Rc(K:aE):List V→Hp→VK→Prop:=fun xs H Q=>∃(p:Addr) (ns:List Int),xs=[.ref p]∧a7 K H p (ns.map V.int)∧Q (.int ns.sum) H
theorem Rf:∀(ns:List Int),preSum (fun i=>ns.getD i 0) ns.length=ns.sum:=by
 intro ns;have key:∀k,k≤ns.length→preSum (fun i=>ns.getD i 0) k=(ns.take k).sum:=by
  intro k
  induction k with
  | zero=>intro _;rfl
  | succ k ih=>
   intro hk;show preSum (fun i=>ns.getD i 0) k+ns.getD k 0=_;rw [ih (by lia),List.take_add_one,List.sum_append]
   have e:ns[k]?=some ns[k]:=by simp [show k<ns.length by lia]
   rw [du,e];simp
 rw [key ns.length (ax _),gu]
theorem Rg(hc:X.calm=true)(hK:X.K=K:=by rfl):gR X (.builtin "sum") (Rc K):=by
 intro pins s σ H xs us Q I r h;subst hK;obtain ⟨p,ns,rfl,hq,q⟩:=h;obtain ⟨u,rfl,ru⟩:=vals1 r;cases ru;obtain ⟨its,rv,pl,hz⟩:=I.list hq;have eL:p≠s.heap.objs.size:=by obtain ⟨o,e,_⟩:=pl.isList;exact cq (aZ e)
 have hl:its.length=ns.length:=by rw [←rv.length,aC]
 refine call_sum_walkG (zB pl.isList ?_);refine ⟨s.heap.objs.size,_,_,_,_,_,fun i=>ns.getD i 0,rfl,Walks.list (A:=X.A.in1) (show X.A.in1.handled=none from I.ok.hd hc) s.heap.objs.size p eL its.toArray,⟨⟨_,eX _ rfl,rfl,rfl⟩,pl.isList.push _⟩,?_,fun i v hv=>?_,fun h' tk t' hk=>?_⟩
 ·intro b hb
  rw [Heap.size_push];simp only [bh,mR,or_false] at hb;rcases hb with rfl | rfl;·exact Nat.lt_succ_self _
  ·obtain ⟨o,e,_⟩:=pl.isList
   exact wZ (aZ e)
 ·have iW:its[i]?=some v:=by simpa using hv
  cases eb:ns[i]? with
  | none=>
   have:=rv.none_of (i:=i) (by rw [bq,eb];rfl)
   rw [this] at iW;cases iW
  | some b=>
   obtain ⟨u,hu,ru⟩:=rv.get (i:=i) (x:=V.int b) (by rw [bq,eb];rfl)
   rw [hu] at iW;cases iW;obtain ⟨t,rfl⟩:=ru;exact ⟨t,by show Value.int b t=Value.int (ns.getD i 0) t;rw [du,eb];rfl⟩
 ·refine ⟨.int ns.sum,H,I.kept fun b o e=>hk b o (fun z=>?_) (cg _ e),⟨t',?_⟩,q⟩
  ·exact absurd (aZ e) (by rw [bS.mp z];exact eE _)
  ·congr 1
   rw [bZ,hl];exact Rf ns
end
theorem boot_any:bootBuiltins "any"=some (.builtin "any"):=by decide +kernel
theorem boot_sum:bootBuiltins "sum"=some (.builtin "sum"):=by decide +kernel
abbrev Cx.iq (X:Cx) (N:List Str) (scope:Scope) (cl:List (Str×Addr)) (x:Str) (s₃:Shared) (H₃:Hp) (fp:List Addr):Cx:=
 {X with N:=N,s₀:=s₃,H₀:=H₃,env:=compEnvC scope ((x,s₃.heap.objs.size+1)::cl) s₃.heap.objs.size X.env,outer:=X.stack,stack:=X.stack,ex:=fp,fn:=fun y=>y == x,pn:=[],xe:=fun _ _=>False}
section
variable {M:Model} {A:Around} {E:aM} {s:Shared}
theorem Rh{scope:Scope}{globals:Addr}{cl:List (Str×Addr)}{qual x:Str}{env:Env}{Q:Env→Shared→Prop}
  (c1:∀n,cellsFrom n scope.names cl=(x,n)::cl) (p1:∀h:Heap,pushCells h scope.names=h.push {cls:=.type "cell",data:=.cell none})
  (hQ:Q (newEnv scope s.heap.objs.size globals ((x,s.heap.objs.size+1)::cl) qual none .none (some env) builtinsNs) {s with heap:=(s.heap.push {cls:=.type "dict",data:=.dict #[]}).push {cls:=.type "cell",data:=.cell none}}) :
  wpAny M A (newFunctionEnv scope globals cl [] qual none .none (some env)) Q E s:=by
 simp only [newFunctionEnv,Option.isSome_some,if_true];refine bo (wpAny_alloc ?_);refine bo (wpAny_layCells _ (fun name kind cells=>by cases Ri:kind == NameKind.cell <;> simp [Ri]) _ _ _ _ ?_)
 rw [show ({s with heap:=s.heap.push {cls:=.type "dict",data:=.dict #[]}}:Shared).heap.objs.size=s.heap.objs.size+1 from Heap.size_push ..,c1,p1];exact bo (dB (dB hQ))
end
section
variable {X:Cx} {N:List Str} {scope:Scope} {cl:List (Str×Addr)} {x:Str} {px pos:Pos} {iter elt:Expr} {ifs:List Expr} {wi:TI} {ρ:St→St} {tt:TT} {te:TE}
theorem Rj{names:List (Str×NameKind)}(h:(names.all fun q=>(q.2 != .cell && q.2 != .free) || ((cl.lookup q.1).isSome || q.1 == x))=true) :
  ∀y,y≠x→(names.lookup y=some .cell∨names.lookup y=some .free)→∃c,cl.lookup y=some c:=fun y hx hy=>by
 have key:∀k:NameKind,(k != .cell && k != .free)=false→names.lookup y=some k→∃c,cl.lookup y=some c:=fun k hk e=>by have z:=pV.mp h (y,k) (lE e);rw [hk,Bool.false_or,show ((y,k).1 == x)=false from n5.mpr hx,Bool.or_false] at z;exact CQ.mp z
 rcases hy with e | e;·exact key .cell rfl e
 ·exact key .free rfl e
structure Rk (X:Cx) (N:List Str) (scope:Scope) (cl:List (Str×Addr)) (x:Str) (ρ:St→St):Prop where
 Ai:closureFor scope X.env=pure cl
 kind:scope.kind=.function
 Rm:∀n,cellsFrom n scope.names cl=(x,n)::cl
 Rn:∀h:Heap,pushCells h scope.names=h.push {cls:=.type "cell",data:=.cell none}
 names:∀y∈scope.names,y.2=.local→scope.names.lookup y.1=some .local
 sub:∀p∈cl,X.env.cells.lookup p.1=some p.2
 has:∀y,y≠x→((relabel scope X.env).names.lookup y=some .cell∨(relabel scope X.env).names.lookup y=some .free)→∃c,cl.lookup y=some c
 n0:N[0]?=some x
 nd:N.Nodup
 Ro:(relabel scope X.env).names.lookup x=some .cell
 Aj:∀(σ:St) (j:Nat) (v:V),(ρ σ)[j]?=some (some v)→∃(i:Nat) (y:Str),N[j+1]?=some y∧X.N[i]?=some y∧σ[i]?=some (some v)∧qh X.env.scope y∧(X.env.kindOf y=some .cell∨X.env.kindOf y=some .free)∧((relabel scope X.env).names.lookup y=some .cell∨(relabel scope X.env).names.lookup y=some .free)
 len:∀σ:St,σ.length=X.N.length→(ρ σ).length+1=N.length
end
theorem Jl{v:V}(h:kL v=true):eK v v=true:=by
 cases v with
 | aN=>rfl
 | bl b=>show (b == b)=true;simp
 | int i=>show (i == i)=true;simp
 | str x=>show (x == x)=true;simp
 | _=>cases h
theorem all_range(n:Nat):(List.range n).all (fun _=>true)=true:=by simp
section
variable {X:Cx} {pins:aK} {σ:St} {H:Hp} {s:Shared}
end
section
variable {X:Cx}
end
section
variable {X:Cx} {N:List Str} {scope:Scope} {cl:List (Str×Addr)} {x:Str} {px pos:Pos} {iter elt:Expr} {ifs:List Expr} {wi:TI} {ρ:St→St} {tt:TT} {te:TE}
theorem Rq{y:Str}{py xZ:Pos}{i0:Nat}(B:Rk X N scope cl x ρ)(hc:X.calm=true)(hN:X.N.Nodup)(DX:X.N[i0]?=some y)(hy:Loc X.env.scope y)(hi:PI X (.Name x px) iter wi)(ht:∀s₃ H₃ fp,oM (X.iq N scope cl x s₃ H₃ fp) ifs tt)(he:∀s₃ H₃ fp,PE (X.iq N scope cl x s₃ H₃ fp) elt te)
  (DY:swapsWith (.ListComp elt [⟨.Name x px,iter,ifs,0⟩] scope pos) (some (.Name y py)) xZ.line X.env=pure true:=by rfl) (hf:X.fn y=true∨X.env.scope.names.lookup y=some .local:=by first | exact .inl rfl | exact .inr rfl | assumption)
  (hs:∀x,foldedSetIterable iter X.env x=pure x:=by intro _;rfl):PS X (.Assign [.Name y py] (.ListComp elt [⟨.Name x px,iter,ifs,0⟩] scope pos) xZ) (oE (e_ wi ρ tt te) (aO i0)):=by
 intro pins s σ H D0 I h
 have h:e_ wi ρ tt te σ H (fun v H1=>D0.nx (σ.set i0 (some v)) H1):=h
 rw [exec_Assign_Name_used _ _ _ _ DY]
 refine bo (wR (bo ?_))
 show wpAny _ X.A (do let _ ←comprehension (.ListComp elt [⟨.Name x px,iter,ifs,0⟩] scope pos) scope X.env _ (newList []) false (eval iter X.env) (some (assign (.Name y py) X.env))) _ _ s
 refine bo (c_ (Q:=fun _ s'=>SP X pins D0 .next s') ?_ (fun _ s' hq=>dB (dB hq)) fun _ _ e=>e)
 refine CW (use:=some (assign (.Name y py) X.env)) rfl hs B.Ai B.kind B.names (aJ (hi pins s σ H _ I h) fun v s1 h1=>aJ h1 fun xx s2 h2=>?_)
 obtain ⟨it,fp,tn,J,H2,rfl,I2,T,jm,f2,q2⟩:=h2
 have nD:H2 s2.heap.objs.size=none:=I2.ay.fresh (ax _)
 obtain ⟨W,⟨m0,w0⟩,turn⟩:=q2 _ nD
 refine wpAny_newObj_type (Rh B.Rm B.Rn ?_)
 dsimp only
 generalize hD:s2.heap.objs.size=D at nD w0 turn ⊢
 generalize kO:({s2 with heap:=s2.heap.push {cls:=.type "list",dict:=none,data:=.seq ([]:List Value).toArray}}:Shared)=s3
 have I3:Inv X pins σ (upd H2 D (.lst [])) s3:=by
  subst hD kO
  exact I2.laid (t':=s2.toks) (fun b u e=>cg _ e) (ax _) ⟨bY _,[],_,.nil,eX _ rfl⟩
 have e3:s3.heap=s2.heap.push {cls:=.type "list",dict:=none,data:=.seq ([]:List Value).toArray}:=by rw [←kO]
 have ig:∀b o,s2.heap.get? b=some o→s3.heap.get? b=some o:=fun b o e=>by rw [e3];exact cg _ e
 rw [←e3]
 obtain ⟨h₁,eh⟩:∃h₁,h₁=(s3.heap.push {cls:=.type "dict",data:=.dict #[]}).push {cls:=.type "cell",data:=.cell none}:=⟨_,rfl⟩
 rw [←eh]
 have kM:h₁.Ns s3.heap.objs.size (fun _=>none):=by
  rw [eh]
  exact (Heap.Ns.new s3.heap (.type "dict")).keeps fun b o e=>cg _ e
 have Rr:(s3.heap.push {cls:=.type "dict",data:=.dict #[]}).objs.size=s3.heap.objs.size+1:=Heap.size_push ..
 have Rt:h₁.IsCell (s3.heap.objs.size+1) none:=by
  rw [eh,←Rr]
  exact ⟨_,eX _ rfl,rfl⟩
 have below:∀b o,s3.heap.get? b=some o→b≠s3.heap.objs.size:=fun b o e=>cq (aZ e)
 have fv:∀b o,s3.heap.get? b=some o→h₁.get? b=some o:=fun b o e=>by rw [eh];exact cg _ (cg _ e)
 have jV:∀b∈fp,∃o,s2.heap.get? b=some o∧∀v,o.data≠.cell v:=T.obj _ _ jm
 have xR:∀b∈fp,b≠D:=fun b hb z=>by
  obtain ⟨o,e,_⟩:=jV b hb
  rw [z,←hD] at e
  exact absurd (aZ e) (eE _)
 have d5:∀y c,cl.lookup y=some c→X.env.cells.lookup y=some c:=fun y c e=>B.sub (y,c) (lE e)
 have Jm:∀y c,cl.lookup y=some c→c<s3.heap.objs.size:=fun y c e=>by
  obtain ⟨v,o,eo,_⟩:=I3.cell y c (d5 y c e)
  exact aZ eo
 have lk:∀y c,((x,s3.heap.objs.size+1)::cl).lookup y=some c→(y=x∧c=s3.heap.objs.size+1)∨(y≠x∧cl.lookup y=some c):=fun y c e=>by
  by_cases z:y=x
  ·subst z
   rw [pX,pW] at e
   exact .inl ⟨rfl,(Option.some.inj e).symm⟩
  ·rw [pX,n5.mpr z] at e
   exact .inr ⟨z,e⟩
 have Ar:∀y c,y≠x→cl.lookup y=some c→((x,s3.heap.objs.size+1)::cl).lookup y=some c:=fun y c z e=>by
  rw [pX,n5.mpr z]
  exact e
 have Jn:∀b∈fp,b<s3.heap.objs.size:=fun b hb=>by
  obtain ⟨o,e,_⟩:=jV b hb
  exact aZ (ig b o e)
 have xS:=I3.xj
 have gU:(X.iq N scope cl x s3 (upd H2 D (.lst [])) fp).Ok:=by
  refine ⟨I.ok.mod,B.kind,I.ok.glob,I.ok.blt,ax _,fun a b c e1 e2=>?inj,fun y hy=>?has,(fun y c z e=>?qi),(fun _=>I.ok.hd hc),I.ok.frames,.inl rfl,fun b hb=>⟨?_,fun y c e z=>?_⟩,fun b o e=>?_,bR I.ok.jl I3.sz,fun b o e hb=>?_,fun b hb z=>?_,I3.stack,xS⟩
  case inj=>
   rcases lk a c e1 with ⟨z1,Ru⟩ | ⟨_,f1⟩ <;> rcases lk b _ e2 with ⟨z2,ec⟩ | ⟨_,Jo⟩
   ·rw [z1,z2]
   ·have:=Jm _ _ Jo
    rw [Ru] at this
    exact absurd this (Nat.not_lt.mpr (jJ _))
   ·have:=Jm _ _ f1
    rw [ec] at this
    exact absurd this (Nat.not_lt.mpr (jJ _))
   ·exact I.ok.inj a b c (d5 a c f1) (d5 b c Jo)
  case has=>
   by_cases z:y=x
   ·subst z
    exact ⟨_,by rw [show (compEnvC scope ((y,s3.heap.objs.size+1)::cl) s3.heap.objs.size X.env).cells=(y,s3.heap.objs.size+1)::cl from rfl,pX,pW]⟩
   ·obtain ⟨c,ec⟩:=B.has y z hy
    exact ⟨c,Ar y c z ec⟩
  case qi=>
   have z:y=x:=by simpa using z
   rcases lk y c e with ⟨_,rfl⟩ | ⟨z',_⟩
   ·exact jJ _
   ·exact absurd z z'
  ·obtain ⟨o,e,_⟩:=jV b hb
   exact below b o (ig b o e)
  ·rcases lk y c e with ⟨rfl,rfl⟩ | ⟨_,e⟩
   ·rw [←z] at hb
    exact absurd (Jn _ hb) (Nat.not_lt.mpr (jJ _))
   ·exact (f2 b hb).2.2.2.2.1 y c (d5 y c e) z
  ·exact I3.bs b o e
  ·rcases (f2 b hb).2.2.2.1 with z | z
   ·exact I.ok.qj b o e z
   ·exact absurd (dX (aZ e) (bR I.ok.jl z)) (eE _)
  ·rcases bh.mp (I3.xi b z) with z | z
   ·exact (f2 b hb).2.1 z
   ·exact (f2 b hb).2.2.1 z
 have IB:∀tk:Nat,Inv (X.iq N scope cl x s3 (upd H2 D (.lst [])) fp) [] (none::ρ σ) (upd H2 D (.lst [])) {s3 with heap:=h₁,toks:=tk}:=fun tk=>by
  refine ⟨gU,rfl,I3.bare,Un.kept fv,⟨_,kM,fun j y v e1 e2 e3=>?_⟩,fun y c e=>?_,?_,fun y c e=>?fC,(fun p hp=>nomatch hp),I3.ay.kept fv,?_⟩
  ·cases j with
   | zero=>cases e2
   | succ j=>
    obtain ⟨i,y',a1,a2,a3,a4,a5,a6⟩:=B.Aj σ j v e2
    have oO:N[j+1]?=some y:=e1
    rw [oO] at a1
    cases a1
    obtain ⟨m,hn,hl⟩:=I3.loc
    obtain ⟨u,r,l⟩:=hl i y v a2 a3 a4
    refine ⟨u,r,.inr ⟨a6,?_⟩⟩
    have yx:y≠x:=fun z=>by
     have n0:=B.n0
     rw [←z] at n0
     have:=(List.getElem?_inj (cu.mp n0).1 B.nd).mp (n0.trans oO.symm)
     lia
    obtain ⟨c,ec⟩:=B.has y yx a6
    rcases l with ⟨k,_⟩ | ⟨_,c',oP,z⟩
    ·rcases a5 with q | q <;> (rw [k] at q;cases q)
    ·have:=d5 y c ec
     rw [this] at oP
     cases oP
     obtain ⟨o,ho,hd⟩:=z
     exact ⟨c,Ar y c yx ec,o,fv _ _ ho,hd⟩
  case fC=>
   rcases lk y c e with ⟨rfl,rfl⟩ | ⟨_,e⟩
   ·exact I3.ay.fresh (jJ _)
   ·exact I3.jP y c (d5 y c e)
  ·rcases lk y c e with ⟨rfl,rfl⟩ | ⟨_,e⟩
   ·exact ⟨none,Rt⟩
   ·obtain ⟨v,o,ho,hd⟩:=I3.cell y c (d5 y c e)
    exact ⟨v,o,fv _ _ ho,hd⟩
  ·exact I3.ay.fresh (ax _)
  ·show (none::ρ σ).length=N.length
   rw [dY]
   exact B.len σ I.len
 have qF:∀b o,s3.heap.get? b=some o→b≠s3.heap.objs.size:=below
 have fin:∀{σ':St} {H':Hp} {s':Shared},Inv (X.iq N scope cl x s3 (upd H2 D (.lst [])) fp) [] σ' H' s'→D0.nx (σ.set i0 (some (.ref D))) H'→compPost (model X.prog X.w) X.A X.xe (some (assign (.Name y py) X.env)) (fun _ s'=>SP X pins D0 .next s') (.ref D) s3.heap.objs.size (.ok .next) s':=fun{σ' H' s'} J q=>by
  obtain ⟨m,hn,_⟩:=J.loc
  have hn:s'.heap.Ns s3.heap.objs.size m:=hn
  have JC:H' s3.heap.objs.size=none:=J.free
  have u1:Un (cS X.stack) fp (upd H2 D (.lst [])) H' s3.heap s'.heap:=by
   refine ⟨fun b o e n hb hx=>J.base.keep b o e n hb hx,fun b o e n hb hx=>J.base.slot b o e n hb hx,J.base.free,fun b o e hx=>J.base.there b o e hx,J.base.hJ,J.base.gP,J.base.gQ⟩
  have IX:Inv X pins σ H' s':=I3.qm (ch:=fp) (J.os) u1 J.ay J.bare fun b hb=>by
   obtain ⟨g0,g1,g2,g3,g4,g5⟩:=f2 b hb
   exact ⟨g3,g1,g4,g5⟩
  have nl:X.env.locals≠s3.heap.objs.size:=by
   obtain ⟨m3,⟨o3,_,_,e3,_⟩,_⟩:=I3.loc
   exact qF _ _ e3
  have nc:∀z c,X.env.cells.lookup z=some c→c≠s3.heap.objs.size:=fun z c e=>by
   obtain ⟨v3,o3,e3,_⟩:=I3.cell z c e
   exact qF _ _ e3
  refine wpAny_assign_Name (Dh (v:=.ref D) IX hN DX hy rfl (fun jr qG md=>?_) hf)
  obtain ⟨a,md,ha⟩:=md
  have na:s3.heap.objs.size≠a:=by
   rcases ha with rfl | e
   ·exact fun z=>nl z.symm
   ·exact fun z=>nc _ _ e z.symm
  refine ⟨m,hn.sameBut md na,fun h' iV=>⟨σ.set i0 (some (.ref D)),H',?_,q⟩⟩
  have u2:Un (cS X.stack) [s3.heap.objs.size] H' H' jr.heap h':=by
   refine ⟨fun b o e n hb hx=>(iV.2 b (by simpa using hx)).trans e,fun b o e n hb hx=>⟨o.slots,(iV.2 b (by simpa using hx)).trans e⟩,fun b o e n hx=>n,fun b o e hx=>⟨o,(iV.2 b (by simpa using hx)).trans e⟩,fun b xs z=>z,fun b o u z=>z,fun b ps z=>⟨#[],by simpa using z⟩⟩
  have xT:cy X.prog X.w H' h':=fun b u e=>by
   refine (qG.ay b u e).jh (fun c v hc z=>(iV.2 c fun y=>?_).trans z) (fun _ z=>z) fun _ _ z=>z
   have y':c=s3.heap.objs.size:=y
   rcases hc with hc | hc
   ·rw [←hc,y',JC] at e
    cases e
   ·rw [y',JC] at hc
    cases hc
  refine qG.qm (s':={jr with heap:=h'}) (ch:=[s3.heap.objs.size]) rfl u2 xT qG.bare fun b hb=>?_
  have eb:b=s3.heap.objs.size:=by simpa using hb
  subst eb
  refine ⟨.inr I3.sz,fun z=>nl z.symm,fun z c e=>nc z c e,fun p hp=>?_⟩
  exact qF _ _ (I3.pin p hp).1
 have hW:∀{H':Hp},(∀b∈fp,H' b=none)→∀b∈fp,ng (X.iq N scope cl x s3 (upd H2 D (.lst [])) fp) [] H' b:=fun hn b hb=>by
  refine ⟨hn b hb,?_,?_,.inl hb,fun y c e z=>?sc,fun p hp=>nomatch hp⟩
  case sc=>
   rcases lk y c e with ⟨rfl,rfl⟩ | ⟨_,e⟩
   ·rw [←z] at hb
    exact absurd (Jn _ hb) (Nat.not_lt.mpr (jJ _))
   ·exact (f2 b hb).2.2.2.2.1 y c (d5 y c e) z
  ·obtain ⟨o,e,_⟩:=jV b hb
   exact below b o (ig b o e)
  ·exact gU.qk b hb
 have loop:∀tk:Nat,codeAny (model X.prog X.w) X.A (.compLoop (.ListComp elt [⟨.Name x px,iter,ifs,0⟩] scope pos) 0 (.ref it) (.ref D) (compEnvC scope ((x,s3.heap.objs.size+1)::cl) s3.heap.objs.size X.env))
   (compPost (model X.prog X.w) X.A X.xe (some (assign (.Name y py) X.env)) (fun _ s'=>SP X pins D0 .next s') (.ref D) s3.heap.objs.size) {s3 with heap:=h₁,toks:=tk}:=fun tk=>by
  refine CY (fun n s'=>∃i ys o H',Inv (X.iq N scope cl x s3 (upd H2 D (.lst [])) fp) [] (o::ρ σ) H' s'∧tn i s'.heap∧(∀b∈fp,H' b=none)∧W i n ys H') ?_ m0
   ⟨0,[],none,_,IB tk,T.keep _ _ _ jm fun b hb o e=>fv _ _ (ig _ _ e),fun b hb=>by rw [aH (xR b hb)];exact (f2 b hb).1,w0⟩
  rintro n s4 ⟨i,ys,o,H4,I4,oQ,oR,w4⟩
  obtain ⟨Je,xU⟩:=turn i n ys H4 w4
  rcases xU with ⟨stop,qn⟩ | ⟨go,step⟩
  ·refine c_ (T.done (X.iq N scope cl x s3 (upd H2 D (.lst [])) fp) rfl rfl rfl hc i [] s4 _ H4 (fun _ _=>False) I4 (hW oR) oQ stop) (fun r s5 ⟨hr,I5⟩=>?_) fun _ _ z=>z.elim
   subst hr
   exact fin I5 qn
  ·refine c_ (T.item (X.iq N scope cl x s3 (upd H2 D (.lst [])) fp) rfl rfl rfl hc i [] s4 _ H4 (fun _ _=>False) I4 (hW oR) oQ go) (fun r s5 ⟨u,hr,h5⟩=>?_) fun _ _ z=>z.elim
   subst hr
   have z:letOwnedTupleGo (.Name x px) (.ref it) u=pure ():=rfl
   rw [z] at h5
   show wpAny _ _ ((pure ():Sem Unit) >>= fun _=>assign (.Name x px) (compEnvC scope ((x,s3.heap.objs.size+1)::cl) s3.heap.objs.size X.env) u) _ _ s5
   refine bo (c_ h5 (fun _ s5 ⟨y,H5,I5,r5,y5,h_,qu⟩=>?_) fun _ _ z=>z.elim)
   have qv:=I5.pinned (hW qu) (T.obj _ _ h_)
   have pg:PG (X.iq N scope cl x s3 (upd H2 D (.lst [])) fp) (.Name x px) (aO 0):=cU (i:=0) B.nd B.n0 (.inr B.Ro) (.inl (by show (x == x)=true;simp))
   have again:∀{σ7:St} {H7:Hp} {s7:Shared},Inv (X.iq N scope cl x s3 (upd H2 D (.lst [])) fp) ([]++lQ fp s5.heap) σ7 H7 s7→Inv (X.iq N scope cl x s3 (upd H2 D (.lst [])) fp) [] σ7 H7 s7∧tn (i+1) s7.heap∧∀b∈fp,H7 b=none:=fun{σ7 H7 s7} I7=>by
    refine ⟨I7.tU,T.keep _ _ _ h_ fun b hb o e=>(I7.pin (b,o) (d9 _ (d9 _ (oF hb e)))).1,fun b hb=>?_⟩
    obtain ⟨o,e,d⟩:=T.obj _ _ h_ b hb
    exact (I7.pin (b,o) (d9 _ (d9 _ (oF hb e)))).2.1
   refine c_ (pg _ s5 _ H5 y u (fun σ2 H6=>σ2=some y::ρ σ∧H6=H5) qv r5 ⟨rfl,rfl⟩) (fun _ s6 ⟨σ6,H6,I6,q6⟩=>?_) fun _ _ z=>z.elim
   obtain ⟨rfl,rfl⟩:=q6
   have xW:=step y _ y5
   have tests:∀{kP:TT},oM (X.iq N scope cl x s3 (upd H2 D (.lst [])) fp) ifs kP→∀{R:Bool→Hp→Prop},kP (some y::ρ σ) H6 R→wpAny (model X.prog X.w) X.A
     (forIn ifs true fun c r=>if r=true then do let ok ←isTrue c (compEnvC scope ((x,s3.heap.objs.size+1)::cl) s3.heap.objs.size X.env) (eval c (compEnvC scope ((x,s3.heap.objs.size+1)::cl) s3.heap.objs.size X.env));pure (ForInStep.yield ok) else pure (ForInStep.yield r))
     (fun ok s7=>∃H7,Inv (X.iq N scope cl x s3 (upd H2 D (.lst [])) fp) ([]++lQ fp s5.heap) (some y::ρ σ) H7 s7∧R ok H7) (fun _ _=>False) s6:=fun{kP} p {R} hR=>by
    cases p with
    | nil=>exact wpAny_tests_nil ⟨_,I6,hR⟩
    | one p=>exact wpAny_tests_one (p _ s6 _ _ _ I6 hR)
   refine c_ (tests (ht s3 _ fp) xW) (fun ok s7 ⟨H7,I7,q7⟩=>?_) fun _ _ z=>z.elim
   cases ok with
   | false=>
    obtain ⟨m',dM,w7⟩:=q7
    obtain ⟨a1,a2,a3⟩:=again I7
    exact ⟨m',dM,i+1,ys,_,H7,a1,a2,a3,w7⟩
   | true=>
    refine c_ (he s3 _ fp _ s7 _ H7 _ I7 q7) (fun ev s8 ⟨z,H8,I8,r8,xX,hz,m',dM,w8⟩=>?_) fun _ _ z=>z.elim
    refine c_ (ie (X:=X.iq N scope cl x s3 (upd H2 D (.lst [])) fp) _ s8 _ H8 (.ref D) [z] (.ref D) [ev] (fun _ H9=>H9=upd H8 D (.lst (ys++[z]))) I8 rfl (.cons r8 .nil) ⟨D,ys,z,rfl,rfl,xX,hz,rfl⟩) (fun _ s9 ⟨_,H9,I9,_,q9⟩=>?_) fun _ _ z=>z.elim
    subst q9
    obtain ⟨a1,a2,a3⟩:=again I9
    exact ⟨m',dM,i+1,ys++[z],_,_,a1,a2,a3,w8⟩
 have start:=loop s3.toks
 have es:({s3 with heap:=h₁,toks:=s3.toks}:Shared)={s2 with heap:=h₁}:=by rw [←kO]
 rw [es] at start
 exact CZ start (T.self _ 0 _ _ _ (T.keep _ _ _ jm fun b hb o e=>fv _ _ (ig _ _ e)) start)
end
theorem x6(dR:∀R:It→Hp→Prop,(∀J H1,aj H H1→iX J xs H1→R J H1)→wi σ H R)(hn:xs.length<sizeLine)
  (P:Addr→Nat→V→Hp→Prop) (mono:∀D i y H H' ys,P D i y H→H D=some (.lst ys)→(∀b o,b≠D→H b=some o→H' b=some o)→P D i y H')
  (step:∀D i x,xs[i]?=some x→∀(Hc:Hp) (R:VK),aj H Hc→(∃ys,Hc D=some (.lst ys))→(∀y H3,aj Hc H3→P D i y H3→R y H3)→te (some x::ρ σ) Hc R)
  (fin:∀D ys Hc,H D=none→aj H Hc→ys.length=xs.length→(∀(i:Nat) (y:V),ys[i]?=some y→P D i y Hc)→Hc D=some (.lst ys)→Q (.ref D) Hc):e_ wi ρ (fun _ H Q=>Q true H) te σ H Q:=by
 refine dR _ fun J H1 s1 js=>?_;intro D nD;have hD:H D=none:=by
  cases e:H D with
  | none=>rfl
  | some o=>rw [s1 _ _ e] at nD;cases nD
 exact Jk (ρσ:=ρ σ) (te:=te) (Q:=Q) js nD hn (P D) (mono D) (fun i x hx Hc R sc=>step D i x hx Hc R (s1.trans sc)) (fun ys Hc sc=>fin D ys Hc hD (s1.trans sc))
section
variable {X:Cx} {K:aE}
theorem Jp(hK:X.K=K:=by rfl):tY X (II K):=by subst hK;exact dZ
theorem oS(hK:X.K=K:=by rfl):tY X (DF K):=by subst hK;exact cz
def Rv(K:aE):List V→Hp→VK→Prop:=fun xs H Q=>∃p ys,xs=[.ref p]∧(a7 K H p ys∨gC K H p ys)∧Q (.int (ys.length:Int)) H
theorem Jq(hK:X.K=K:=by rfl):gR X (.builtin "len") (Rv K):=by subst hK;exact jt
theorem Rw{tg l:Expr}{tl:TE}(hl:PE X l tl)(hK:X.K=K:=by rfl):PI X tg l (HU K tl):=by subst hK;exact fu hl
end
end L2
namespace My
open PySem L2
variable {te:TE} {σ:St} {H:Hp} {Q:VK}
theorem qH{r:List V→Hp→VK→Prop}(h:te σ H fun x H1=>r [x] H1 Q):xC r (qz te tX) σ H Q:=h
theorem uj{D:Ends}(h:te σ H D.rt):HQ te D σ H:=h
theorem Rx{vs:List V}{b:Bool}(h:∀(i:Nat) (v:V),vs[i]?=some v→v=.bl b):vs=(List.replicate vs.length b).map V.bl:=by
 refine w5 fun i=>?_;rw [bq];by_cases hi:i<vs.length
 ·rw [show vs[i]?=some vs[i] by simp [hi],h i vs[i] (by simp [hi])]
  simp [hi]
 ·rw [zG (by lia),zG (by simp;lia)]
  rfl
theorem Ry(n:Nat):(List.replicate n true).all id=true:=by simp
theorem Rz{r:R2}{ta tb:TE}(h:ta σ H fun x H1=>tb σ H1 fun y H2=>r x y H2 Q):lR r ta tb σ H Q:=h
variable {H':Hp} {b:Addr}
theorem none_of(s:aj H H')(h:H' b=none):H b=none:=by
 cases e:H b with
 | none=>rfl
 | some o=>rw [s _ _ e] at h;cases h
theorem getD_at{α:Type}{xs:List α}{d:α}{i:Nat}(hi:i<xs.length):xs.getD i d=xs[i]:=by
 rw [du,show xs[i]?=some xs[i] by simp [hi]]
 rfl
def er(P:Addr)(H:Hp):Hp:=fun b=>if b=P then none else H b
variable {P:Addr}
theorem me:aj (er P H) H:=fun b o e=>by
 unfold er at e
 split at e
 ·cases e
 ·exact e
theorem eO(h:b≠P):er P H b=H b:=aa h
variable {o:HO}
theorem x8(h:b≠P)(e:H b=some o):er P H b=some o:=by rw [eO h];exact e
theorem As(s:aj H H'):aj (er P H) (er P H'):=fun b o e=>by
 unfold er at e ⊢
 split at e
 ·cases e
 ·rename_i h
  rw [aa h];exact s _ _ e
theorem Jr:er P (upd H P o)=er P H:=funext fun b=>by
 unfold er
 split
 ·rfl
 ·rename_i h
  exact aH h
def bG(H:Hp)(P a:Addr):Prop:=∃x y:Int,H P=some (.lst [.ref a,.int x,.int y])∧0≤x∧0≤y
variable {a:Addr}
theorem bG.mono(h:bG H P a)(s:aj H H'):bG H' P a:=by obtain ⟨x,y,e,h1,h2⟩:=h;exact ⟨x,y,s _ _ e,h1,h2⟩
variable {D:Addr}
theorem bG.upd(h:bG H P a)(n:D≠P):bG (L2.upd H D o) P a:=by obtain ⟨x,y,e,h1,h2⟩:=h;exact ⟨x,y,by rw [aH n.symm];exact e,h1,h2⟩
theorem bG.ne(h:bG H P a)(n:H D=none):D≠P:=fun z=>by obtain ⟨x,y,e,_⟩:=h;rw [z,e] at n;cases n
def aI(P:Addr)(H H':Hp):Prop:=aj (er P H) (er P H')
theorem aI.refl(H:Hp):aI P H H:=aj.refl _
theorem aI.trans{H2:Hp}(s:aI P H H')(t:aI P H' H2):aI P H H2:=aj.trans s t
theorem aI.of(s:aj H H'):aI P H H':=As s
theorem aI.jX:aI P H (upd H P o):=by unfold aI;rw [Jr];exact aj.refl _
theorem aI.but(s:aI P H H')(n:H D=none):aI P H (upd H' D o):=fun b u e=>by
 have e0:=s b u e;have nb:b≠P:=fun z=>by unfold er at e;rw [ae z] at e;cases e
 rw [eO nb] at e e0 ⊢;rw [aH (fT e n)];exact e0
theorem aI.at(s:aI P H H')(nb:b≠P)(e:H b=some o):H' b=some o:=by have z:=s b o (x8 nb e);rw [eO nb] at z;exact z
end My
namespace L2
open PySem PySem.Spec PyProof.Rows
end L2
namespace My
open PySem L2
def RA:Sp:=fun vs H Q _=>∃c a:Int,vs=[.int c,.int a]∧0≤a∧∀r:Int,0≤r→Q (.int r) H
def RB(K:aE):Sp:=fun vs H Q _=>∃(P a:Addr) (ns:List Int) (many:Int),vs=[.ref P,.int many]∧bG H P a∧a7 K (er P H) a (ns.map V.int)∧1≤many∧fZ many∧∀(r:Int) (H':Hp),0≤r→r<many→aI P H H'→bG H' P a→Q (.int r) H'
end My
namespace L2
open PySem PySem.Spec PyProof.Rows
end L2
namespace My
open PySem L2
end My
namespace L2
open PySem PySem.Spec PyProof.Rows
def x9(K:aE)(l:Addr):It:=
  ⟨fun i H=>∃xs x,a7 K H l xs∧xs[i]?=some x,
   fun i H v H'=>∃T x,H T=none∧v=.ref T∧H'=upd H T (.tup [.int (i:Int),x])∧∀xs,a7 K H l xs→xs[i]?=some x,
   fun i H=>∃xs,a7 K H l xs∧xs.length≤i⟩
variable {K:aE} {l:Addr}
theorem RC{P:Program}{w:World}{elts:List Expr}{k:Nat}{pos:Pos}{e it:Addr}(Js:e≠it):Turn P w K (.Tuple elts k pos) (x9 K l) [e,it] e
  (fun i h=>(∃old,IsEnum h e it (i:Int) old)∧h.IsListIter it l i) where
 mem:=by simp
 obj:=fun i h st b hb=>by
  obtain ⟨⟨old,he⟩,h1⟩:=st;simp only [bh,mR,or_false] at hb;rcases hb with rfl | rfl;·exact ⟨_,he,fun v z=>by cases z⟩
  ·obtain ⟨o,e,c,d⟩:=h1
   exact ⟨o,e,fun v z=>by rw [d] at z;cases z⟩
 keep:=fun i h h' st k=>by obtain ⟨⟨old,he⟩,h1⟩:=st;exact ⟨⟨old,k _ (by simp) _ he⟩,h1.at fun o e=>k _ (by simp) o e⟩
 item:=by
  intro X hP hw hK hc i pins s σ H E I hf st hg;subst hP hw hK;obtain ⟨⟨old,he⟩,h1⟩:=st;obtain ⟨xs,x,um,hx⟩:=hg;obtain ⟨its,rv,p,_⟩:=I.list um;obtain ⟨u,hu,ru⟩:=rv.get hx;refine wpAny_pyNext_enum_item he h1 p.isList (x:=u) (by simpa using hu) Js fun h' g1 g2 g3 g4 g5=>⟨_,rfl,?_⟩
  refine wpAny_letOwnedTupleGo_enum g1 fun Au q1 sb=>?_;have Jt:H s.heap.objs.size=none:=I.ay.fresh (ax _);have lt:∀b o,s.heap.get? b=some o→b≠s.heap.objs.size:=fun b o e=>cq (aZ e);have keep:∀b o,b∉[e,it]→s.heap.get? b=some o→Au.get? b=some o:=fun b o nb e=>by simp only [bh,mR,or_false,not_or] at nb;exact sb.extBut _ _ nb.1 (g5 b o nb.1 nb.2 e)
  have elt:e≠s.heap.objs.size:=lt _ _ he;have pT:=sb.extBut _ _ elt.symm g3;have x_:∀{b:Addr} {o:HO} (e:H b=some o),upd H s.heap.objs.size (.tup [.int (i:Int),x]) b=some o:=fun e=>by rw [aH (fT e Jt)];exact e
  have ay:cy X.prog X.w (upd H s.heap.objs.size (.tup [.int (i:Int),x])) Au:=fun b o e=>by
   by_cases hb:b=s.heap.objs.size
   ·subst hb
    rw [av] at e;cases e;exact ⟨by show 2≤sizeLine;decide,[.int i s.toks,u],.cons ⟨_,rfl⟩ (.cons ru .nil),⟨_,pT,rfl,_,rfl⟩⟩
   ·rw [aH hb] at e
    refine (I.ay b o e).jh (fun c v fU q=>keep c v (fun m=>?_) q) (fun c q=>x_ q) fun c xs q=>x_ q;have nn:=(hf c m).1;rcases fU with rfl | fU;·rw [nn] at e;cases e
    ·rw [nn] at fU;cases fU
  have u1:Un (cS X.stack) [e,it] H (upd H s.heap.objs.size (.tup [.int (i:Int),x])) s.heap Au:=
   ⟨fun b o e n _ hx=>keep b o hx e,fun b o e n _ hx=>⟨o.slots,keep b o hx e⟩,fun b o e n hx=>by rw [aH (lt b o e)];exact n,fun b o e hx=>⟨o,keep b o hx e⟩,fun b xs e=>x_ e,fun b o u e=>x_ e,fun b ps e=>⟨#[],by rw [x_ e];simp⟩⟩
  refine ⟨.ref s.heap.objs.size,upd H s.heap.objs.size (.tup [.int (i:Int),x]),I.qm (s':={s with heap:=Au,toks:=s.toks+1}) (ch:=[e,it]) rfl u1 ay I.bare (fun b hb=>?_),rfl,⟨_,x,Jt,rfl,rfl,fun as ha=>by rw [I.HP ha um];exact hx⟩,?_,fun b hb=>?_⟩
  ·obtain ⟨f0,f1,f2,f3,f4,f5⟩:=hf b hb
   exact ⟨f3,f1,f4,f5⟩
  ·refine ⟨⟨u,?_⟩,g2.extBut sb.extBut Js.symm⟩
   have z:((i+1:Nat):Int)=(i:Int)+1:=by lia
   rw [z];exact q1
  ·have nb:b≠s.heap.objs.size:=by
    simp only [bh,mR,or_false] at hb;rcases hb with rfl | rfl;·exact lt _ _ he
    ·obtain ⟨o,e,_⟩:=h1;exact lt _ _ e
   rw [aH nb];exact (hf b hb).1
 done:=by
  intro X hP hw hK hc i pins s σ H E I hf st hg;subst hP hw hK;obtain ⟨⟨old,he⟩,h1⟩:=st;obtain ⟨xs,um,hx⟩:=hg;obtain ⟨its,rv,p,_⟩:=I.list um;have hl:=rv.length;refine wpAny_pyNext_enum_end (I.ok.hd hc) he h1 p.isList (by simp;lia) fun h' g=>⟨rfl,?_⟩
  have keep:∀b o,b∉[e,it]→s.heap.get? b=some o→h'.get? b=some o:=fun b o nb e=>by simp only [bh,mR,or_false,not_or] at nb;exact g b o nb.2 e
  have ay:cy X.prog X.w H h':=fun b o e=>by
   refine (I.ay b o e).jh (fun c v fU q=>keep c v (fun m=>?_) q) (fun c q=>q) fun c xs q=>q;have nn:=(hf c m).1;rcases fU with rfl | fU;·rw [nn] at e;cases e
   ·rw [nn] at fU;cases fU
  have u1:Un (cS X.stack) [e,it] H H s.heap h':=
   ⟨fun b o e n _ hx=>keep b o hx e,fun b o e n _ hx=>⟨o.slots,keep b o hx e⟩,fun b o e n hx=>n,fun b o e hx=>⟨o,keep b o hx e⟩,fun b xs e=>e,fun b o u e=>e,fun b ps e=>⟨#[],by rw [e];simp⟩⟩
  refine I.qm (s':={s with heap:=h'}) (ch:=[e,it]) rfl u1 ay I.bare fun b hb=>?_;obtain ⟨f0,f1,f2,f3,f4,f5⟩:=hf b hb;exact ⟨f3,f1,f4,f5⟩
 self:=fun _ _ _ _ _ st h=>by obtain ⟨⟨old,he⟩,_⟩:=st;exact wpAny_pyIter_enum he h
theorem boot_enumerate:bootBuiltins "enumerate"=some (.type "enumerate"):=by decide +kernel
def RD(K:aE)(ta:TA):TI:=fun σ H R=>ta σ H fun vs H1=>∃l,vs=[.ref l]∧(∃xs,a7 K H1 l xs)∧R (x9 K l) H1
section
variable {X:Cx}
theorem Ju{elts:List Expr}{k:Nat}{tR:Pos}{a:Expr}{ta:TA}{p pos:Pos}(hg:Gl X "enumerate")(hm:X.mg "enumerate"=none)(ha:PA X [a] ta)(hs:starEach [a] X.env=[(false,eval a X.env)]:=by rfl) :
  PI X (.Tuple elts k tR) (.Call (.Name "enumerate" p) [a] [] pos) (RD X.K ta):=by
 intro pins s σ H R I h;refine Call_ (m9 I hg hm boot_enumerate (wV (aJ (ha pos pins s σ H _ I h) fun us s1 ⟨vs,H1,I1,r1,q1⟩=>?_) hs rfl));obtain ⟨l,e,⟨xs,um⟩,q⟩:=q1;subst e;obtain ⟨u,rfl,ru⟩:=vals1 r1;cases ru;obtain ⟨its,rv,p1,_⟩:=I1.list um;refine call_enumerate_list p1.isList fun h' z1 z2 z3 z4=>?_;refine wpAny_pyIter_enum (s:={s1 with heap:=h'}) z1 ?_;refine ⟨_,_,_,_,H1,rfl,I1.kept (t':=s1.toks) z4,RC (Nat.succ_ne_self _),⟨⟨_,z1⟩,z2⟩,fun b hb=>?_,q⟩;have le:s1.heap.objs.size≤b:=by
  simp only [bh,mR,or_false] at hb;rcases hb with rfl | rfl;·exact Nat.le_add_right ..
  ·exact ax _
 exact I1.xw le (I1.ay.fresh le)
end
theorem Jv{xs:List V}{g:TG}{tb:TS}{D:Ends}{σ:St}{H:Hp}(Pv:Nat→St→Hp→Prop)(h0:Pv 0 σ H)(hl:∀i σ H,Pv i σ H→a7 K H l xs)
  (hs:∀(i:Nat) (x:V) σ H T,xs[i]?=some x→Pv i σ H→H T=none→g (.ref T) σ (upd H T (.tup [.int (i:Int),x])) fun σ2 H2=>tb {D with nx:=Pv (i+1),ct:=Pv (i+1),bk:=D.nx} σ2 H2) (hd:∀σ H,Pv xs.length σ H→D.nx σ H) :
  ∃W:Nat→Nat→St→Hp→Prop,(∃m,W 0 m σ H)∧∀i m σ H,W i m σ H→
   ((x9 K l).stop i H∧D.nx σ H)∨((x9 K l).go i H∧∃N:St→Hp→Prop,(∀σ' H',N σ' H'→∃m',m'<m∧W (i+1) m' σ' H')∧∀x H',(x9 K l).eY i H x H'→g x σ H' fun σ2 H2=>tb {D with nx:=N,ct:=N,bk:=D.nx} σ2 H2):=by
 refine ⟨fun i m σ H=>m=xs.length-i∧i≤xs.length∧Pv i σ H,⟨xs.length,by simp,bY _,h0⟩,?_⟩
 rintro i m σ H ⟨rfl,hi,p⟩;have q1:=hl i σ H p;by_cases aV:i<xs.length
 ·refine .inr ⟨⟨xs,xs[i],q1,by simp [aV]⟩,Pv (i+1),fun σ' H' p'=>⟨xs.length-(i+1),by lia,rfl,aV,p'⟩,fun v H' hy=>?_⟩
  obtain ⟨T,x,nT,rfl,rfl,hx⟩:=hy;exact hs i x σ H T (hx xs q1) p nT
 ·have e:i=xs.length:=by lia
  subst e;exact .inl ⟨⟨xs,q1,ax _⟩,hd σ H p⟩
def RE(K:aE):V→V→Hp→VK→Prop:=fun o i H Q=>∃p xs k v,o=.ref p∧i=.int k∧0≤k∧a7 K H p xs∧gS xs k=some v∧Q v H
theorem RF{X:Cx}:HS X (RE X.K):=by
 intro pins s σ H o i ov iv Q I ro ri h;obtain ⟨p,xs,k,z,rfl,rfl,h0,hq,he,q⟩:=h;cases ro;obtain ⟨t,rfl⟩:=ri;obtain ⟨its,r,pl,hz⟩:=I.list hq;obtain ⟨j,h1,h2,h3,h4,h5⟩:=DD he;obtain ⟨w,ew,eI⟩:=r.get h2;have hl:=r.length;have hn:=qy;have hj:k.toNat=j:=by rw [seqIndex_of h0 h5] at h1;exact Option.some.inj h1
 exact wpAny_getItem_list pl.isList h0 (by lia) (by rw [hj];simpa using ew) ⟨z,H,I,eI,q⟩
end L2
namespace My
open PySem L2
end My
namespace L2
open PySem PySem.Spec PyProof.Rows
section
variable {X:Cx} {tg:Expr}
end
section
variable {X:Cx} {e:Expr} {te:TE} {pos p2:Pos}
end
end L2
namespace My
open PySem L2
theorem RG:∀place:Nat,(List.replicate ((place:Int).toNat) [V.int 0]).flatten=(List.replicate place (0:Int)).map V.int:=fun place=>by
 rw [cQ,List.map_replicate]
 induction place with
 | zero=>rfl
 | succ m ih=>rw [mQ,sZ,ih,mQ];rfl
theorem DZ{wi:TI}{ρ:St→St}{te:TE}{σ:St}{H:Hp}{Q:VK}{xs:List V}{n:Nat}(hl:xs.length=n)(dR:∀R:It→Hp→Prop,(∀J H1,aj H H1→iX J xs H1→R J H1)→wi σ H R)(hn:n<sizeLine)
  (P:Addr→Nat→Addr→Hp→Prop) (mono:∀D i y H H' ys,P D i y H→y≠D→H D=some (.lst ys)→(∀b o,b≠D→H b=some o→H' b=some o)→P D i y H')
  (step:∀D (i:Nat) (x:V),xs[i]?=some x→∀(Hc:Hp) (R:VK),aj H Hc→(∃ys,Hc D=some (.lst ys))→(∀y H3,aj Hc H3→Hc y=none→(∃o,H3 y=some o)→P D i y H3→R (.ref y) H3)→te (some x::ρ σ) Hc R)
  (fin:∀D (A:Nat→Addr) Hc,H D=none→aj H Hc→(∀i j,i<n→j<n→A i=A j→i=j)→(∀i,i<n→P D i (A i) Hc∧A i≠D)→Hc D=some (.lst ((List.range n).map fun i=>V.ref (A i)))→Q (.ref D) Hc):e_ wi ρ (fun _ H Q=>Q true H) te σ H Q:=by
 refine dR _ fun J H1 s1 js=>?_;intro D nD;have hD:H D=none:=by
  cases e:H D with
  | none=>rfl
  | some o=>rw [s1 _ _ e] at nD;cases nD
 refine ⟨fun i m ys Hc=>m=n-i∧i≤n∧Hc D=some (.lst ys)∧aj H1 Hc∧∃A:Nat→Addr,ys=(List.range i).map (fun j=>V.ref (A j))∧(∀a b,a<i→b<i→A a=A b→a=b)∧∀j,j<i→P D j (A j) Hc∧A j≠D∧∃o,Hc (A j)=some o,⟨_,rfl,bY _,av,eN (aj.refl H1) nD,fun _=>D,rfl,(fun a b h=>by lia),fun j h=>by lia⟩,?_⟩
 rintro i m ys Hc ⟨rfl,hi,eD,sH,A,rfl,inj,hA⟩;refine ⟨eD,?_⟩;by_cases aV:i<n
 ·refine .inr ⟨js.go i Hc sH (by lia),fun x H' hy=>?_⟩
  obtain ⟨rfl,hx⟩:=js.eY i Hc x H' sH hy;rw [ae rfl];refine step D i x (hx (by lia)) _ _ (s1.trans sH) ⟨_,eD⟩ fun y H3 s3 ny ⟨o,ho⟩ hp=>?_
  have e3:=s3 _ _ eD;have yD:y≠D:=fun e=>by rw [e,eD] at ny;cases ny
  have cf:∀b o,b≠D→H3 b=some o→upd H3 D (.lst ((List.range i).map (fun j=>V.ref (A j))++[.ref y])) b=some o:=fun b o nb e=>by rw [aH nb];exact e
  have nA:∀j,j<i→A j≠y:=fun j hj e=>by obtain ⟨_,_,o',h'⟩:=hA j hj;rw [e,ny] at h';cases h'
  refine ⟨e3,by simp;lia,n-(i+1),by lia,rfl,aV,av,eN (sH.trans s3) nD,fun j=>if j=i then y else A j,?_,fun a b ha hb e=>?_,fun j hj=>?_⟩
  ·rw [s_,fj]
   congr 1
   ·refine hE fun j hj=>?_
    dsimp only;rw [aa (by have:=bb.mp hj;lia)]
   ·simp
  ·dsimp only at e
   by_cases z1:a=i
   ·by_cases z2:b=i
    ·lia
    ·rw [ae z1,aa z2] at e
     exact absurd e.symm (nA b (by lia))
   ·by_cases z2:b=i
    ·rw [aa z1,ae z2] at e
     exact absurd e (nA a (by lia))
    ·rw [aa z1,aa z2] at e
     exact inj a b (by lia) (by lia) e
  ·dsimp only
   by_cases z:j=i
   ·rw [ae z,z]
    exact ⟨mono D i y H3 _ _ hp yD e3 cf,yD,o,cf _ _ yD ho⟩
   ·rw [aa z]
    obtain ⟨h1,h2,o',h3⟩:=hA j (by lia)
    exact ⟨mono D j (A j) H' _ _ h1 h2 eD (fun b o nb e=>cf b o nb (s3 _ _ e)),h2,o',cf _ _ h2 (s3 _ _ h3)⟩
 ·have e:i=n:=by lia
  subst e;exact .inl ⟨js.stop _ Hc sH (by lia),fin D A Hc hD (s1.trans sH) inj (fun j hj=>⟨(hA j hj).1,(hA j hj).2.1⟩) eD⟩
end My
namespace L2
open PySem PySem.Spec PyProof.Rows
theorem RH{xs ys:List Int}(h:xs.length=ys.length):((List.range xs.length).all fun j=>eK (.int (xs.getD j 0)) (.int (ys.getD j 0)))=decide (xs=ys):=by
 by_cases e:xs=ys
 ·subst e
  rw [a_ rfl,pV];intro j _;exact Jl rfl
 ·rw [bL e]
  cases z:((List.range xs.length).all fun j=>eK (.int (xs.getD j 0)) (.int (ys.getD j 0))) with
  | false=>rfl
  | true=>refine absurd (hG h fun j h1 h2=>?_) e;have:=pV.mp z j (bb.mpr h1);have this:(xs.getD j 0 == ys.getD j 0)=true:=this;rw [beq_iff_eq,du,du] at this;simpa [h1,h2] using this
end L2
namespace My
open PySem L2
end My
namespace L2
open PySem PySem.Spec PyProof.Rows
end L2
namespace My
open PySem L2
end My
namespace L2
open PySem PySem.Spec PyProof.Rows
section
variable {X:Cx}
end
end L2
namespace My
open PySem L2
end My
namespace L2
open PySem PySem.Spec PyProof.Rows
end L2
namespace My
open PySem L2
end My
namespace L2
open PySem PySem.Spec PyProof.Rows
section
variable {X:Cx} {N:List Str} {scope:Scope} {cl:List (Str×Addr)} {x y:Str} {px py pos tp:Pos} {Rb:Nat} {iter elt:Expr} {ifs:List Expr} {wi:TI} {ρ:St→St} {tt:TT} {te:TE}
end
section
variable {X:Cx} {pins:aK} {σ:St} {H:Hp} {s:Shared}
end
end L2
namespace My
open PySem PySem.W PyProof.Rows
section
variable {n:Nat} {c:Nat→Int}
def mf(n:Nat)(p:Array Nat):Prop:=p.Perm (List.toArray (List.range n))
theorem mf.size{p:Array Nat}(h:mf n p):p.size=n:=by rw [Array.Perm.size_eq h];simp
def vN(c:Nat→Int)(p:Array Nat)(i:Nat):Int:=c (p.getD i 0)
def oT(c:Nat→Int)(p:Array Nat)(k:Nat):Prop:=∀a b,a≤b→b<k→vN c p a≤vN c p b
end
end My
namespace Tm
open PySem PySem.W PyProof.Rows
def oU:Bool→Keyed→Array Keyed→Nat→Nat→Nat→StateT SortSt Sem (Option Nat):=sortPriv% PySem.Builtin.gallop
def ya:Nat→StateT SortSt Sem Unit:=sortPriv% PySem.Builtin.setMinGallop
def D4:Array Keyed→Array Keyed→StateT SortSt Sem (Array Keyed):=sortPriv% PySem.Builtin.mergeLo
def D5:Array Keyed→Array Keyed→StateT SortSt Sem (Array Keyed):=sortPriv% PySem.Builtin.mergeHi
def qI(left:Bool)(key:Keyed)(arr:Array Keyed)(base i:Nat):StateT SortSt Sem (Option Bool):=do
 let x ←elem' arr (base+i)
 if left then lt' x key else return (←lt' key x).map (!·)
theorem RI(left:Bool)(key:Keyed)(arr:Array Keyed)(base n hint:Nat):oU left key arr base n hint=(do
 let mut Av:=0
 let mut bz:=1
 let mut lo:=0
 let mut hi:=0
 let some right ←qI left key arr base hint | return none
 if right then
  let yb:=n-hint
  for _ in [0:n] do
   if bz≥yb then break
   let some more ←qI left key arr base (hint+bz) | return none
   if !more then break
   Av:=bz
   bz:=2*bz+1
  lo:=hint+Av+1
  hi:=hint+min bz yb
 else
  let yb:=hint+1
  for _ in [0:n] do
   if bz≥yb then break
   let some found ←qI left key arr base (hint-bz) | return none
   if found then break
   Av:=bz
   bz:=2*bz+1
  lo:=hint+1-min bz yb
  hi:=hint-Av
 for _ in [0:n] do
  if lo≥hi then break
  let m:=lo+(hi-lo) / 2
  let some more ←qI left key arr base m | return none
  if more then lo:=m+1 else hi:=m
 return some hi):=rfl
section
variable {prog:Program} {w:World} {A:Around} {E:aM} {s:Shared} {κ:SortKind} {key:Keyed→Int} {Ok:Keyed→Prop}
def jY(prog:Program)(w:World)(A:Around)(s:Shared)(κ:SortKind)(key:Keyed→Int)(Ok:Keyed→Prop):Prop:=
 ∀x y,Ok x→Ok y→∀C:Bool→Shared→Prop,C (decide (key x<key y)) s→wpAny (model prog w) A (keyLt' κ x.1 y.1) C (fun _ _=>False) s
variable {Q:Option Bool→SortSt→Prop}
theorem yc(h:jY prog w A s κ key Ok){x y:Keyed}(ox:Ok x)(oy:Ok y){st:SortSt}(hk:kindOf st=κ)(q:Q (some (decide (key x<key y))) st):wpS (model prog w) A E s (lt' x y) Q st:=by rw [lt'_eq];refine ar (jf ?_);rw [hk];refine ar (wpS_lift (wpAny_attempt (c_ (h x y ox oy (fun c s'=>s'=s∧wpS (model prog w) A E s (pure (some c)) Q st) ⟨rfl,aq q⟩) (fun c s' hc=>?_) fun _ _ hF=>hF.elim)));exact hc
def nn:Keyed:=(Value.none,Value.none)
variable {arr:Array Keyed} {i:Nat}
theorem bE(hi:i<arr.size){st:SortSt}{Q:Keyed→SortSt→Prop}(q:Q (arr.getD i nn) st):wpS (model prog w) A E s (elem' arr i) Q st:=by
 rw [elem'_eq];have e:arr[i]?=some (arr.getD i nn):=by simp [Array.getD,hi]
 rw [e];exact aq q
def fH(Ok:Keyed→Prop)(arr:Array Keyed):Prop:=∀i,i<arr.size→Ok (arr.getD i nn)
def bB(left:Bool)(k a:Int):Bool:=if left=true then decide (a<k) else !decide (k<a)
variable {left:Bool} {kx:Keyed} {base:Nat}
theorem iY(h:jY prog w A s κ key Ok)(hi:base+i<arr.size)(ha:fH Ok arr)(ox:Ok kx){st:SortSt}(hk:kindOf st=κ)(q:Q (some (bB left (key kx) (key (arr.getD (base+i) nn)))) st):wpS (model prog w) A E s (qI left kx arr base i) Q st:=by
 unfold qI;refine ar (bE hi ?_);unfold bB at q;cases left with
 | true=>rw [ae rfl] at q ⊢;exact yc h (ha _ hi) ox hk q
 | false=>
  rw [aa (by simp)] at q ⊢
  exact ar (yc h ox (ha _ hi) hk (aq q))
theorem iZ{n hint:Nat}{f:Nat→Bool}{st:SortSt}
  (hb:∀i,i<n→∀Q:Option Bool→SortSt→Prop,Q (some (f i)) st→wpS (model prog w) A E s (qI left kx arr base i) Q st)
  (hh:hint<n) (mono:∀i j,i≤j→j<n→f j=true→f i=true) {Q:Option Nat→SortSt→Prop}
  (k:∀m,m≤n→(∀i,i<m→f i=true)→(∀i,m≤i→i<n→f i=false)→Q (some m) st):wpS (model prog w) A E s (oU left kx arr base n hint) Q st:=by
 rw [RI];refine ar (hb hint hh _ ?_);dsimp only;have ur:∀i j,i≤j→j<n→f i=false→f j=false:=fun i j h1 h2 h3=>by
  cases e:f j with
  | false=>rfl
  | true=>rw [mono i j h1 h2 e] at h3;cases h3
 have bs:∀(lo hi:Nat) (body:Nat→Option (Option Nat)×Nat×Nat→StateT SortSt Sem (ForInStep (Option (Option Nat)×Nat×Nat))) (R:Option (Option Nat)×Nat×Nat→SortSt→Prop),lo≤hi→hi≤n→(∀i,i<lo→f i=true)→(∀i,hi≤i→i<n→f i=false)→
   (∀x lo hi (R:ForInStep (Option (Option Nat)×Nat×Nat)→SortSt→Prop),lo≥hi→R (.done (none,lo,hi)) st→wpS (model prog w) A E s (body x (none,lo,hi)) R st)→
   (∀x lo hi (R:ForInStep (Option (Option Nat)×Nat×Nat)→SortSt→Prop),lo<hi→hi≤n→R (.yield (if f (lo+(hi-lo) / 2)=true then (none,lo+(hi-lo) / 2+1,hi) else (none,lo,lo+(hi-lo) / 2))) st→wpS (model prog w) A E s (body x (none,lo,hi)) R st)→
   (∀m,m≤n→(∀i,i<m→f i=true)→(∀i,m≤i→i<n→f i=false)→R (none,m,m) st)→
   wpS (model prog w) A E s (forIn [0:n] (none,lo,hi) body) R st:=fun lo hi body R h1 h2 h3 h4 b1 b2 kk=>by
  refine fR (I:=fun x c aw=>aw=st∧∃lo hi,c=(none,lo,hi)∧lo≤hi∧hi≤n∧hi-lo+x≤n∧(∀i,i<lo→f i=true)∧(∀i,hi≤i→i<n→f i=false)) ?_ ?_ ⟨rfl,lo,hi,rfl,h1,h2,by lia,h3,h4⟩
  ·rintro x c aw _ hx ⟨rfl,lo,hi,rfl,g1,g2,g3,g4,g5⟩
   by_cases z:lo≥hi
   ·refine b1 x lo hi _ z ?_
    obtain rfl:lo=hi:=by lia
    exact kk lo g2 g4 g5
   ·refine b2 x lo hi _ (by lia) g2 ?_
    cases e:f (lo+(hi-lo) / 2) with
    | true=>rw [ae rfl];exact ⟨rfl,_,_,rfl,by lia,g2,by lia,fun i bF=>mono i (lo+(hi-lo) / 2) (by lia) (by lia) e,g5⟩
    | false=>
     rw [aa (by simp)]
     exact ⟨rfl,_,_,rfl,by lia,by lia,by lia,g4,fun i h1 h2=>ur (lo+(hi-lo) / 2) i h1 h2 e⟩
  ·rintro c aw ⟨rfl,lo,hi,rfl,g1,g2,g3,g4,g5⟩
   have:lo=hi:=by
    have:max 0 n=n:=by lia
    lia
   subst this;exact kk lo g2 g4 g5
 cases e:f hint with
 | true=>
  rw [ae rfl]
  refine ar (gv (fR (I:=fun x c aw=>aw=st∧∃la bz,c=(none,la,bz)∧x+1≤bz∧la<bz∧la<n-hint∧f (hint+la)=true)
   (Q:=fun c aw=>aw=st∧∃la bz,c=(none,la,bz)∧la<bz∧la<n-hint∧f (hint+la)=true∧(bz≥n-hint∨f (hint+bz)=false)) ?_ ?_ ⟨rfl,0,1,rfl,ax _,by lia,by lia,by simpa using e⟩) ?_)
  ·rintro x c aw _ hx ⟨rfl,la,bz,rfl,g1,g2,g3,g4⟩
   dsimp only;by_cases z:bz≥n-hint
   ·rw [ae z]
    exact aq ⟨rfl,la,bz,rfl,g2,g3,g4,.inl z⟩
   ·rw [aa z]
    refine ar (hb _ (by lia) _ ?_)
    dsimp only;cases e':f (hint+bz) with
    | true=>
     rw [aa (by simp)]
     exact aq ⟨rfl,_,_,rfl,by lia,by lia,by lia,e'⟩
    | false=>
     rw [ae (by simp)]
     exact aq ⟨rfl,la,bz,rfl,g2,g3,g4,.inr e'⟩
  ·rintro c aw ⟨rfl,la,bz,rfl,g1,g2,g3,g4⟩
   have:max 0 n=n:=by lia
   exact ⟨rfl,la,bz,rfl,g2,g3,g4,.inl (by lia)⟩
  ·rintro c aw ⟨rfl,la,bz,rfl,g2,g3,g4,g5⟩
   refine ar (bs (hint+la+1) (hint+min bz (n-hint)) _ _ (by lia) (by lia) (fun i hi=>mono i (hint+la) (by lia) (by lia) g4) (fun i h1 h2=>?_) ?_ ?_ ?_)
   ·rcases g5 with g5 | g5
    ·lia
    ·by_cases z:bz≥n-hint
     ·lia
     ·exact ur (hint+bz) i (by lia) h2 g5
   ·intro x lo hi R z hR
    dsimp only;rw [ae z];exact aq hR
   ·intro x lo hi R z z2 hR
    dsimp only;rw [aa (by lia)]
    refine ar (hb _ (by lia) _ ?_)
    dsimp only;cases e:f (lo+(hi-lo) / 2) with
    | true=>rw [e,ae rfl] at hR;rw [ae rfl];exact aq hR
    | false=>
     rw [e,aa (by simp)] at hR
     rw [aa (by simp)]
     exact aq hR
   ·exact fun m m1 m2 m3=>aq (k m m1 m2 m3)
 | false=>
  rw [aa (by simp)]
  refine ar (gv (fR (I:=fun x c aw=>aw=st∧∃la bz,c=(none,la,bz)∧x+1≤bz∧la<bz∧la≤hint∧f (hint-la)=false)
   (Q:=fun c aw=>aw=st∧∃la bz,c=(none,la,bz)∧la<bz∧la≤hint∧f (hint-la)=false∧(bz≥hint+1∨f (hint-bz)=true)) ?_ ?_ ⟨rfl,0,1,rfl,ax _,by lia,by lia,by simpa using e⟩) ?_)
  ·rintro x c aw _ hx ⟨rfl,la,bz,rfl,g1,g2,g3,g4⟩
   dsimp only;by_cases z:bz≥hint+1
   ·rw [ae z]
    exact aq ⟨rfl,la,bz,rfl,g2,g3,g4,.inl z⟩
   ·rw [aa z]
    refine ar (hb _ (by lia) _ ?_)
    dsimp only;cases e':f (hint-bz) with
    | true=>rw [ae rfl];exact aq ⟨rfl,la,bz,rfl,g2,g3,g4,.inr e'⟩
    | false=>
     rw [aa (by simp)]
     exact aq ⟨rfl,_,_,rfl,by lia,by lia,by lia,e'⟩
  ·rintro c aw ⟨rfl,la,bz,rfl,g1,g2,g3,g4⟩
   have:max 0 n=n:=by lia
   exact ⟨rfl,la,bz,rfl,g2,g3,g4,.inl (by lia)⟩
  ·rintro c aw ⟨rfl,la,bz,rfl,g2,g3,g4,g5⟩
   refine ar (bs (hint+1-min bz (hint+1)) (hint-la) _ _ (by lia) (by lia) (fun i hi=>?_) (fun i h1 h2=>ur (hint-la) i (by lia) h2 g4) ?_ ?_ ?_)
   ·rcases g5 with g5 | g5
    ·lia
    ·by_cases z:bz≥hint+1
     ·lia
     ·exact mono i (hint-bz) (by lia) (by lia) g5
   ·intro x lo hi R z hR
    dsimp only;rw [ae z];exact aq hR
   ·intro x lo hi R z z2 hR
    dsimp only;rw [aa (by lia)]
    refine ar (hb _ (by lia) _ ?_)
    dsimp only;cases e:f (lo+(hi-lo) / 2) with
    | true=>rw [e,ae rfl] at hR;rw [ae rfl];exact aq hR
    | false=>
     rw [e,aa (by simp)] at hR
     rw [aa (by simp)]
     exact aq hR
   ·exact fun m m1 m2 m3=>aq (k m m1 m2 m3)
end
def bt(K:Keyed→Int)(l:List Keyed):Prop:=l.Pairwise fun x y=>K x≤K y
variable {K:Keyed→Int} {l:List Keyed}
theorem bt.take(h:bt K l)(k:Nat):bt K (l.take k):=C0 (List.take_sublist k l) h
theorem bt.drop(h:bt K l)(k:Nat):bt K (l.drop k):=C0 (List.drop_sublist k l) h
variable {m:List Keyed}
theorem bt.app(h:bt K l)(h':bt K m)(k:∀x∈l,∀y∈m,K x≤K y):bt K (l++m):=tj.mpr ⟨h,h',k⟩
structure MI (K:Keyed→Int) (A B O:List Keyed) (i j:Nat):Prop where
 pm:O.Perm (A.take i++B.take j)
 so:bt K O
 ca:∀x∈O,∀y∈A.drop i,K x≤K y
 cb:∀x∈O,∀y∈B.drop j,K x≤K y
variable {A B O:List Keyed} {i j:Nat}
theorem MI.flip(h:MI K A B O i j):MI K B A O j i:=⟨h.pm.trans tm,h.so,h.cb,h.ca⟩
theorem MI.Aw(h:MI K A B O i j)(sA:bt K A)(k:Nat)(hk:∀x∈(A.drop i).take k,∀y∈B.drop j,K x≤K y):MI K A B (O++(A.drop i).take k) (i+k) j:=by
 have e:A.take (i+k)=A.take i++(A.drop i).take k:=List.take_add;have d:A.drop (i+k)=(A.drop i).drop k:=by rw [List.drop_drop]
 have sd:=sA.drop i;have sp:(A.drop i).take k++(A.drop i).drop k=A.drop i:=oo ..;have cr:∀x∈(A.drop i).take k,∀y∈(A.drop i).drop k,K x≤K y:=by have:=sd;rw [←sp] at this;exact (tj.mp this).2.2
 refine ⟨?_,h.so.app (sd.take k) fun x hx y hy=>h.ca x hx y (List.mem_of_mem_take hy),fun x hx y hy=>?_,fun x hx y hy=>?_⟩
 ·rw [e]
  refine (h.pm.append_right _).trans ?_;rw [gr,gr];exact C1 _ tm
 ·rw [d] at hy
  rcases cZ.mp hx with hx | hx;·exact h.ca x hx y (List.mem_of_mem_drop hy)
  ·exact cr x hx y hy
 ·rcases cZ.mp hx with hx | hx
  ·exact h.cb x hx y hy
  ·exact hk x hx y hy
theorem MI.D6(h:MI K A B O i j)(sB:bt K B)(k:Nat)(hk:∀x∈(B.drop j).take k,∀y∈A.drop i,K x≤K y):MI K A B (O++(B.drop j).take k) i (j+k):=(h.flip.Aw sB k hk).flip
theorem MI.done(h:MI K A B O i j)(sA:bt K A)(sB:bt K B)(k:∀x∈A.drop i,∀y∈B.drop j,K x≤K y):(O++A.drop i++B.drop j).Perm (A++B)∧bt K (O++A.drop i++B.drop j):=by
 refine ⟨?_,(h.so.app (sA.drop i) h.ca).app (sB.drop j) fun x hx y hy=>?_⟩
 ·have e1:A.take i++A.drop i=A:=oo ..
  have e2:B.take j++B.drop j=B:=oo ..;have:(A.take i++B.take j++A.drop i++B.drop j).Perm ((A.take i++A.drop i)++(B.take j++B.drop j)):=by rw [gr,gr,gr];refine C1 _ ?_;rw [←gr,←gr];exact List.Perm.append_right _ tm
  rw [e1,e2] at this;exact ((h.pm.append_right _).append_right _).trans this
 ·rcases cZ.mp hx with hx | hx
  ·exact h.cb x hx y hy
  ·exact k x hx y hy
theorem MI.Jw(h:MI K A B O i j)(sA:bt K A)(sB:bt K B)(k:∀x∈A.drop i,∀y∈B.drop j,K y≤K x):(O++B.drop j++A.drop i).Perm (A++B)∧bt K (O++B.drop j++A.drop i):=by have:=h.flip.done sB sA fun x hx y hy=>k y hy x hx;exact ⟨this.1.trans tm,this.2⟩
theorem RJ(a b:Array Keyed):D4 a b=(do
 rule "list.sort.merge-lo"
 let total:=a.size+b.size
 let done (out:Array Keyed) (ia ib:Nat):=out++a.extract ia a.size++b.extract ib b.size
 let Ax (out:Array Keyed) (ia ib:Nat):=out++b.extract ib b.size++a.extract ia a.size
 let mut out:Array Keyed:=#[←elem' b 0]
 let mut ia:=0
 let mut ib:=1
 if ib == b.size then return done out ia ib
 if ia+1 == a.size then return Ax out ia ib
 let mut minGallop:=gallopOf (←get)
 for _ in [0:total] do
  let mut jv:=0
  let mut jw:=0
  for _ in [0:total] do
   let some RK ←lt' (←elem' b ib) (←elem' a ia) | return done out ia ib
   if RK then
    out:=out.push (←elem' b ib);ib:=ib+1;jw:=jw+1;jv:=0
    if ib == b.size then return done out ia ib
    if jw≥minGallop then break
   else
    out:=out.push (←elem' a ia);ia:=ia+1;jv:=jv+1;jw:=0
    if ia+1 == a.size then return Ax out ia ib
    if jv≥minGallop then break
  rule "list.sort.gallop"
  minGallop:=minGallop+1
  for _ in [0:total] do
   if minGallop>1 then minGallop:=minGallop-1
   ya minGallop
   let some k ←oU false (←elem' b ib) a ia (a.size-ia) 0 | return done out ia ib
   jv:=k
   if k>0 then
    out:=out++a.extract ia (ia+k);ia:=ia+k
    if ia+1 == a.size then return Ax out ia ib
    if ia == a.size then return done out ia ib
   out:=out.push (←elem' b ib);ib:=ib+1
   if ib == b.size then return done out ia ib
   let some k ←oU true (←elem' a ia) b ib (b.size-ib) 0 | return done out ia ib
   jw:=k
   if k>0 then
    out:=out++b.extract ib (ib+k);ib:=ib+k
    if ib == b.size then return done out ia ib
   out:=out.push (←elem' a ia);ia:=ia+1
   if ia+1 == a.size then return Ax out ia ib
   if jv<7 && jw<7 then break
  minGallop:=minGallop+1
  ya minGallop
 unsupported "internal:list.sort.merge-bound"):=rfl
section
variable {prog:Program} {w:World} {A:Around} {E:aM} {s:Shared} {κ:SortKind} {key:Keyed→Int} {Ok:Keyed→Prop}
def setG(st:SortSt)(g:Nat):SortSt:=SortSt.mk' (kindOf st) (arrOf st) (pendingOf st) g (failedOf st)
variable {a:Array Keyed}
theorem yd(hi:i<a.size):(a.toList.drop i).take 1=[a.getD i nn]:=by
 have hl:i<a.toList.length:=by simpa using hi
 rw [C2 hl];simp [Array.getD,hi]
theorem jZ(a:Array Keyed)(i j:Nat):(a.extract i j).toList=(a.toList.drop i).take (j-i):=by rw [Array.toList_extract,List.extract_eq_take_drop]
theorem Ay(a:Array Keyed)(i:Nat):(a.extract i a.size).toList=a.toList.drop i:=by rw [jZ];refine zH ?_;simp
variable {x:Keyed}
theorem qJ(h:x∈a.toList.drop i):∃j,i≤j∧j<a.size∧x=a.getD j nn:=by
 obtain ⟨j,hj,rfl⟩:=tu h;have d6:i+j<a.size:=by simp at hj;lia
 refine ⟨i+j,by lia,d6,?_⟩
 rw [List.getElem_drop];simp [Array.getD,d6]
theorem D7{k:Nat}(h:x∈(a.toList.drop i).take k):∃j,j<k∧i+j<a.size∧x=a.getD (i+j) nn:=by
 obtain ⟨j,hj,rfl⟩:=tu h;have d6:i+j<a.size∧j<k:=by simp at hj;lia
 refine ⟨j,d6.2,d6.1,?_⟩;rw [List.getElem_take,List.getElem_drop];simp [Array.getD,d6.1]
theorem f9(h:bt key a.toList)(D_:i≤j)(hj:j<a.size):key (a.getD i nn)≤key (a.getD j nn):=by
 have hi:i<a.size:=by lia
 by_cases e:i=j;·subst e;exact mT _
 ·have:=oq.mp h i j (by simpa using hi) (by simpa using hj) (by lia)
  simpa [Array.getD,hi,hj] using this
theorem fb{c:Prop}[Decidable c]{α:Type}{m1 m2:StateT SortSt Sem α}{Q:α→SortSt→Prop}{st:SortSt}(h1:c→wpS (model prog w) A E s m1 Q st)(h2:¬c→wpS (model prog w) A E s m2 Q st):wpS (model prog w) A E s (if c then m1 else m2) Q st:=by
 by_cases h:c;·rw [ae h];exact h1 h
 ·rw [aa h];exact h2 h
theorem uu{st:SortSt}{g:Nat}{Q:Unit→SortSt→Prop}(q:Q () (setG st g)):wpS (model prog w) A E s (ya g) Q st:=ky q
variable {k:Int}
theorem iu{a:Int}(h:bB true k a=true):a<k:=df h
theorem i3{a:Int}(h:bB true k a=false):k≤a:=Int.not_lt.mp (of_decide_eq_false h)
theorem mh{a:Int}(h:bB false k a=true):a≤k:=by have:(!decide (k<a))=true:=h;simpa using this
theorem oW{a:Int}(h:bB false k a=false):k<a:=by have:(!decide (k<a))=false:=h;simpa using this
variable {b:Array Keyed} {o:Nat}
theorem oX(sb:bt key b.toList):∀i j,i≤j→j<b.size-o→bB true k (key (b.getD (o+j) nn))=true→bB true k (key (b.getD (o+i) nn))=true:=fun i j h1 h2 h3=>a_ (Int.lt_of_le_of_lt (f9 sb (by lia) (by lia)) (iu h3))
theorem Az(sb:bt key b.toList):∀i j,i≤j→j<b.size-o→bB false k (key (b.getD (o+j) nn))=true→bB false k (key (b.getD (o+i) nn))=true:=fun i j h1 h2 h3=>by
 have:key (b.getD (o+i) nn)≤k:=dz (f9 sb (by lia) (by lia)) (mh h3)
 show (!decide (k<key (b.getD (o+i) nn)))=true;simpa using this
section
variable {a b:Array Keyed} (sa:bt key a.toList) (sb:bt key b.toList) {out:Array Keyed} {ia ib:Nat}
include sa sb
theorem uz(m:MI key a.toList b.toList out.toList ia ib)(hb:ib<b.size)(k:∀j,ia≤j→j<a.size→key (b.getD ib nn)≤key (a.getD j nn)):MI key a.toList b.toList (out.push (b.getD ib nn)).toList ia (ib+1):=by
 have:=m.D6 sb 1 fun x hx y hy=>by rw [yd hb,bS] at hx;subst hx;obtain ⟨j,h1,h2,rfl⟩:=qJ hy;exact k j h1 h2
 rw [yd hb] at this;rw [ot];exact this
theorem nC(m:MI key a.toList b.toList out.toList ia ib)(ha:ia<a.size)(k:∀j,ib≤j→j<b.size→key (a.getD ia nn)≤key (b.getD j nn)):MI key a.toList b.toList (out.push (a.getD ia nn)).toList (ia+1) ib:=by
 have:=m.Aw sa 1 fun x hx y hy=>by rw [yd ha,bS] at hx;subst hx;obtain ⟨j,h1,h2,rfl⟩:=qJ hy;exact k j h1 h2
 rw [yd ha] at this;rw [ot];exact this
variable {n:Nat}
theorem Jx(m:MI key a.toList b.toList out.toList ia ib)(k:∀i j,i<n→ia+i<a.size→ib≤j→j<b.size→key (a.getD (ia+i) nn)≤key (b.getD j nn)):MI key a.toList b.toList (out++a.extract ia (ia+n)).toList (ia+n) ib:=by
 have:=m.Aw sa n fun x hx y hy=>by obtain ⟨i,h3,h4,rfl⟩:=D7 hx;obtain ⟨j,h1,h2,rfl⟩:=qJ hy;exact k i j h3 h4 h1 h2
 rw [lG,jZ,show ia+n-ia=n by lia]
 exact this
theorem AA(m:MI key a.toList b.toList out.toList ia ib)(k:∀i j,i<n→ib+i<b.size→ia≤j→j<a.size→key (b.getD (ib+i) nn)≤key (a.getD j nn)):MI key a.toList b.toList (out++b.extract ib (ib+n)).toList ia (ib+n):=by
 have:=m.D6 sb n fun x hx y hy=>by obtain ⟨i,h3,h4,rfl⟩:=D7 hx;obtain ⟨j,h1,h2,rfl⟩:=qJ hy;exact k i j h3 h4 h1 h2
 rw [lG,jZ,show ib+n-ib=n by lia]
 exact this
theorem j4(m:MI key a.toList b.toList out.toList ia ib)(e:ib=b.size∨ia=a.size):(out++a.extract ia a.size++b.extract ib b.size).toList.Perm (a.toList++b.toList)∧bt key (out++a.extract ia a.size++b.extract ib b.size).toList:=by rw [lG,lG,Ay,Ay];refine m.done sa sb fun x hx y hy=>?_;obtain ⟨i,h1,h2,_⟩:=qJ hx;obtain ⟨j,h3,h4,_⟩:=qJ hy;lia
theorem j6(m:MI key a.toList b.toList out.toList ia ib)(hl:∀y∈b.toList,key y≤key (a.getD (a.size-1) nn))(e:ia+1=a.size):(out++b.extract ib b.size++a.extract ia a.size).toList.Perm (a.toList++b.toList)∧bt key (out++b.extract ib b.size++a.extract ia a.size).toList:=by
 rw [lG,lG,Ay,Ay];refine m.Jw sa sb fun x hx y hy=>?_;obtain ⟨i,h1,h2,rfl⟩:=qJ hx;have:=hl y (List.mem_of_mem_drop hy);rw [show i=a.size-1 by lia]
 exact this
end
theorem RL(h:jY prog w A s κ key Ok)(oa:fH Ok a)(ob:fH Ok b)(sa:bt key a.toList)(sb:bt key b.toList)(a1:1≤a.size)(b1:1≤b.size)
  (h0:∀x∈a.toList,key (b.getD 0 nn)≤key x) (hl:∀y∈b.toList,key y≤key (a.getD (a.size-1) nn)) {st:SortSt} (hk:kindOf st=κ) {Q:Array Keyed→SortSt→Prop}
  (q:∀m g,m.toList.Perm (a.toList++b.toList)→bt key m.toList→Q m (setG st g)):wpS (model prog w) A E s (D4 a b) Q st:=by
 rw [RJ];refine ar (wpS_lift (pY ⟨rfl,?_⟩));refine ar (bE (by lia) ?_)
 dsimp only;have m0:MI key a.toList b.toList (#[b.getD 0 nn]:Array Keyed).toList 0 1:=by
  have:MI key a.toList b.toList (#[]:Array Keyed).toList 0 0:=⟨by simp,List.Pairwise.nil,fun x hx=>by simp at hx,fun x hx=>by simp at hx⟩
  exact uz sa sb this (by lia) fun j _ hj=>h0 _ (by simp [Array.getD,hj])
 have fg:∀g,kindOf (setG st g)=κ:=fun _=>hk;by_cases e1:(1 == b.size)=true
 ·rw [ae e1]
  have:=j4 sa sb m0 (.inl (eq_of_beq e1));exact aq (q _ (gallopOf st) this.1 this.2)
 rw [aa e1];by_cases e2:(0+1 == a.size)=true
 ·rw [ae e2]
  have:=j6 sa sb m0 hl (eq_of_beq e2);exact aq (q _ (gallopOf st) this.1 this.2)
 rw [aa e2];have b2:1<b.size:=by
  have:1≠b.size:=fun e=>e1 (by simp [←e])
  lia
 have a2:0+1<a.size:=by
  have:0+1≠a.size:=fun e=>e2 (by simp [←e])
  lia
 refine ar (jf ?_)
 refine ar (gv (fR (I:=fun x c aw=>∃out ia ib mg g,c=(none,out,ia,ib,mg)∧aw=setG st g∧MI key a.toList b.toList out.toList ia ib∧ia+1<a.size∧ib<b.size∧x≤ia+ib)
  (Q:=fun c aw=>∃m g,c.1=some m∧aw=setG st g∧m.toList.Perm (a.toList++b.toList)∧bt key m.toList) ?_ ?_ ⟨_,_,_,_,gallopOf st,rfl,rfl,m0,a2,b2,bY _⟩) ?_)
 ·rintro x c aw _ hx ⟨out,ia,ib,mg,g,rfl,rfl,mi,ha,hb,qK⟩
  dsimp only
  refine ar (gv (fR (I:=fun y c aw=>∃out gW iw ac bc,c=(none,out,gW,iw,ac,bc)∧aw=setG st g∧MI key a.toList b.toList out.toList gW iw∧gW+1<a.size∧iw<b.size∧ia+ib+y≤gW+iw)
   (Q:=fun c aw=>aw=setG st g∧((∃m,c.1=some m∧m.toList.Perm (a.toList++b.toList)∧bt key m.toList)∨∃out gW iw ac bc,c=(none,out,gW,iw,ac,bc)∧MI key a.toList b.toList out.toList gW iw∧gW+1<a.size∧iw<b.size∧ia+ib+1≤gW+iw)) ?_ ?_ ⟨_,_,_,_,_,rfl,rfl,mi,ha,hb,ax _⟩) ?_)
  ·rintro y c aw _ hy ⟨out,gW,iw,ac,bc,rfl,rfl,mi,ha,hb,iy⟩
   dsimp only;refine ar (bE hb (ar (bE (by lia) (ar (yc h (ob _ hb) (oa gW (by lia)) (fg _) ?_)))))
   dsimp only;by_cases z:key (b.getD iw nn)<key (a.getD gW nn)
   ·rw [a_ z,ae rfl]
    refine ar (bE hb ?_);have iz:=uz sa sb mi hb fun j h1 h2=>dz (dm z) (f9 sa h1 h2);by_cases z1:(iw+1 == b.size)=true
    ·rw [ae z1]
     exact aq ⟨rfl,.inl ⟨_,rfl,j4 sa sb iz (.inl (eq_of_beq z1))⟩⟩
    ·rw [aa z1]
     have ye:iw+1≠b.size:=fun e=>z1 (by simp [←e])
     by_cases z2:bc+1≥mg
     ·rw [ae z2]
      exact aq ⟨rfl,.inr ⟨_,_,_,_,_,rfl,iz,ha,by lia,by lia⟩⟩
     ·rw [aa z2]
      exact aq ⟨_,_,_,_,_,rfl,rfl,iz,ha,by lia,by lia⟩
   ·rw [bL z,aa (by simp)]
    refine ar (bE (by lia) ?_)
    have iz:=nC sa sb mi (by lia) fun j h1 h2=>dz (Int.not_lt.mp z) (f9 sb h1 h2)
    by_cases z1:(gW+1+1 == a.size)=true
    ·rw [ae z1]
     exact aq ⟨rfl,.inl ⟨_,rfl,j6 sa sb iz hl (eq_of_beq z1)⟩⟩
    ·rw [aa z1]
     have ye:gW+1+1≠a.size:=fun e=>z1 (by simp [←e])
     by_cases z2:ac+1≥mg
     ·rw [ae z2]
      exact aq ⟨rfl,.inr ⟨_,_,_,_,_,rfl,iz,by lia,hb,by lia⟩⟩
     ·rw [aa z2]
      exact aq ⟨_,_,_,_,_,rfl,rfl,iz,by lia,hb,by lia⟩
  ·rintro c aw ⟨out,gW,iw,ac,bc,rfl,rfl,mi,ha,hb,iy⟩
   exact ⟨rfl,.inr ⟨_,_,_,_,_,rfl,mi,ha,hb,by lia⟩⟩
  ·rintro c aw ⟨rfl,⟨m,e,pm⟩ | ⟨out,gW,iw,ac,bc,rfl,mi,ha,hb,iy⟩⟩
   ·obtain ⟨c1,c2⟩:=c
    dsimp only at e;subst e;exact aq ⟨m,g,rfl,rfl,pm⟩
   ·dsimp only
    refine ar (wpS_lift (pY ⟨rfl,?_⟩))
    refine ar (gv (fR (I:=fun y c aw=>∃out i j mg ac bc g,c=(none,out,i,j,mg,ac,bc)∧aw=setG st g∧MI key a.toList b.toList out.toList i j∧i+1<a.size∧j<b.size∧x+1≤i+j)
     (Q:=fun c aw=>(∃m g,c.1=some m∧aw=setG st g∧m.toList.Perm (a.toList++b.toList)∧bt key m.toList)∨∃out i j mg ac bc g,c=(none,out,i,j,mg,ac,bc)∧aw=setG st g∧MI key a.toList b.toList out.toList i j∧i+1<a.size∧j<b.size∧x+1≤i+j) ?_ ?_ ⟨_,_,_,_,_,_,g,rfl,rfl,mi,ha,hb,by lia⟩) ?_)
    ·clear mi ha hb iy
     rintro y c aw _ hy ⟨out,ia,ib,mg,ac,bc,g,rfl,rfl,mi,ha,hb,iy⟩;dsimp only;rcases Nat.lt_or_ge 1 mg with zm | zm
     ·rw [ae zm]
      refine ar (uu ?_);refine ar (bE hb (ar (iZ (f:=fun i=>bB false (key (b.getD ib nn)) (key (a.getD (ia+i) nn))) (fun i hi Q q=>iY h (by lia) oa (ob _ hb) (fg _) q) (by lia) (Az sa) fun k k1 k2 k3=>?_)))
      dsimp only;by_cases zk:k>0
      ·rw [ae zk]
       have iC:=Jx sa sb mi (n:=k) fun i j hi bF hj d6=>dz (mh (k2 i hi)) (f9 sb hj d6);by_cases w1:(ia+k+1 == a.size)=true
       ·rw [ae w1]
        exact aq (.inl ⟨_,_,rfl,rfl,j6 sa sb iC hl (eq_of_beq w1)⟩)
       ·rw [aa w1]
        have Ea:ia+k+1≠a.size:=fun e=>w1 (by simp [←e])
        by_cases w2:(ia+k == a.size)=true
        ·rw [ae w2]
         exact aq (.inl ⟨_,_,rfl,rfl,j4 sa sb iC (.inr (eq_of_beq w2))⟩)
        ·rw [aa w2]
         have RM:ia+k≠a.size:=fun e=>w2 (by simp [←e])
         refine ar (bE hb ?_);have cE:=uz sa sb iC hb fun j h1 h2=>by have:=oW (k3 (j-ia) (by lia) (by lia));rw [show ia+(j-ia)=j by lia] at this;exact dm this
         by_cases x1:(ib+1 == b.size)=true
         ·rw [ae x1]
          exact aq (.inl ⟨_,_,rfl,rfl,j4 sa sb cE (.inl (eq_of_beq x1))⟩)
         ·rw [aa x1]
          have qL:ib+1≠b.size:=fun e=>x1 (by simp [←e])
          refine ar (bE (by lia) (ar (iZ (f:=fun i=>bB true (key (a.getD (ia+k) nn)) (key (b.getD (ib+1+i) nn))) (fun i hi Q q=>iY h (by lia) ob (oa _ (by lia)) (fg _) q) (by lia) (oX sb) fun k' q1 q2 q3=>?_)))
          dsimp only;by_cases eA:k'>0
          ·rw [ae eA]
           have dE:=AA sa sb cE (n:=k') fun i j hi bF hj d6=>dz (dm (iu (q2 i hi))) (f9 sa hj d6);by_cases x2:(ib+1+k' == b.size)=true
           ·rw [ae x2]
            exact aq (.inl ⟨_,_,rfl,rfl,j4 sa sb dE (.inl (eq_of_beq x2))⟩)
           ·rw [aa x2]
            have qM:ib+1+k'≠b.size:=fun e=>x2 (by simp [←e])
            refine ar (bE (by lia) ?_)
            have aW:=nC sa sb dE (by lia) fun j h1 h2=>by have:=i3 (q3 (j-(ib+1)) (by lia) (by lia));rwa [show ib+1+(j-(ib+1))=j by lia] at this
            by_cases y1:(ia+k+1+1 == a.size)=true
            ·rw [ae y1]
             exact aq (.inl ⟨_,_,rfl,rfl,j6 sa sb aW hl (eq_of_beq y1)⟩)
            ·rw [aa y1]
             have iD:ia+k+1+1≠a.size:=fun e=>y1 (by simp [←e])
             exact fb (fun _=>aq (.inr ⟨_,_,_,_,_,_,_,rfl,rfl,aW,by lia,by lia,by lia⟩)) (fun _=>aq ⟨_,_,_,_,_,_,_,rfl,rfl,aW,by lia,by lia,by lia⟩)
          ·rw [aa eA]
           obtain rfl:k'=0:=by lia
           refine ar (bE (by lia) ?_)
           have aW:=nC sa sb cE (by lia) fun j h1 h2=>by have:=i3 (q3 (j-(ib+1)) (by lia) (by lia));rwa [show ib+1+(j-(ib+1))=j by lia] at this
           by_cases y1:(ia+k+1+1 == a.size)=true
           ·rw [ae y1]
            exact aq (.inl ⟨_,_,rfl,rfl,j6 sa sb aW hl (eq_of_beq y1)⟩)
           ·rw [aa y1]
            have iD:ia+k+1+1≠a.size:=fun e=>y1 (by simp [←e])
            exact fb (fun _=>aq (.inr ⟨_,_,_,_,_,_,_,rfl,rfl,aW,by lia,by lia,by lia⟩)) (fun _=>aq ⟨_,_,_,_,_,_,_,rfl,rfl,aW,by lia,by lia,by lia⟩)
      ·rw [aa zk]
       obtain rfl:k=0:=by lia
       refine ar (bE hb ?_);have cE:=uz sa sb mi hb fun j h1 h2=>by have:=oW (k3 (j-ia) (by lia) (by lia));rw [show ia+(j-ia)=j by lia] at this;exact dm this
       by_cases x1:(ib+1 == b.size)=true
       ·rw [ae x1]
        exact aq (.inl ⟨_,_,rfl,rfl,j4 sa sb cE (.inl (eq_of_beq x1))⟩)
       ·rw [aa x1]
        have qL:ib+1≠b.size:=fun e=>x1 (by simp [←e])
        refine ar (bE (by lia) (ar (iZ (f:=fun i=>bB true (key (a.getD (ia) nn)) (key (b.getD (ib+1+i) nn))) (fun i hi Q q=>iY h (by lia) ob (oa _ (by lia)) (fg _) q) (by lia) (oX sb) fun k' q1 q2 q3=>?_)))
        dsimp only;by_cases eA:k'>0
        ·rw [ae eA]
         have dE:=AA sa sb cE (n:=k') fun i j hi bF hj d6=>dz (dm (iu (q2 i hi))) (f9 sa hj d6);by_cases x2:(ib+1+k' == b.size)=true
         ·rw [ae x2]
          exact aq (.inl ⟨_,_,rfl,rfl,j4 sa sb dE (.inl (eq_of_beq x2))⟩)
         ·rw [aa x2]
          have qM:ib+1+k'≠b.size:=fun e=>x2 (by simp [←e])
          refine ar (bE (by lia) ?_)
          have aW:=nC sa sb dE (by lia) fun j h1 h2=>by have:=i3 (q3 (j-(ib+1)) (by lia) (by lia));rwa [show ib+1+(j-(ib+1))=j by lia] at this
          by_cases y1:(ia+1+1 == a.size)=true
          ·rw [ae y1]
           exact aq (.inl ⟨_,_,rfl,rfl,j6 sa sb aW hl (eq_of_beq y1)⟩)
          ·rw [aa y1]
           have iD:ia+1+1≠a.size:=fun e=>y1 (by simp [←e])
           exact fb (fun _=>aq (.inr ⟨_,_,_,_,_,_,_,rfl,rfl,aW,by lia,by lia,by lia⟩)) (fun _=>aq ⟨_,_,_,_,_,_,_,rfl,rfl,aW,by lia,by lia,by lia⟩)
        ·rw [aa eA]
         obtain rfl:k'=0:=by lia
         refine ar (bE (by lia) ?_)
         have aW:=nC sa sb cE (by lia) fun j h1 h2=>by have:=i3 (q3 (j-(ib+1)) (by lia) (by lia));rwa [show ib+1+(j-(ib+1))=j by lia] at this
         by_cases y1:(ia+1+1 == a.size)=true
         ·rw [ae y1]
          exact aq (.inl ⟨_,_,rfl,rfl,j6 sa sb aW hl (eq_of_beq y1)⟩)
         ·rw [aa y1]
          have iD:ia+1+1≠a.size:=fun e=>y1 (by simp [←e])
          exact fb (fun _=>aq (.inr ⟨_,_,_,_,_,_,_,rfl,rfl,aW,by lia,by lia,by lia⟩)) (fun _=>aq ⟨_,_,_,_,_,_,_,rfl,rfl,aW,by lia,by lia,by lia⟩)
     ·rw [aa (by lia)]
      refine ar (uu ?_);refine ar (bE hb (ar (iZ (f:=fun i=>bB false (key (b.getD ib nn)) (key (a.getD (ia+i) nn))) (fun i hi Q q=>iY h (by lia) oa (ob _ hb) (fg _) q) (by lia) (Az sa) fun k k1 k2 k3=>?_)))
      dsimp only;by_cases zk:k>0
      ·rw [ae zk]
       have iC:=Jx sa sb mi (n:=k) fun i j hi bF hj d6=>dz (mh (k2 i hi)) (f9 sb hj d6);by_cases w1:(ia+k+1 == a.size)=true
       ·rw [ae w1]
        exact aq (.inl ⟨_,_,rfl,rfl,j6 sa sb iC hl (eq_of_beq w1)⟩)
       ·rw [aa w1]
        have Ea:ia+k+1≠a.size:=fun e=>w1 (by simp [←e])
        by_cases w2:(ia+k == a.size)=true
        ·rw [ae w2]
         exact aq (.inl ⟨_,_,rfl,rfl,j4 sa sb iC (.inr (eq_of_beq w2))⟩)
        ·rw [aa w2]
         have RM:ia+k≠a.size:=fun e=>w2 (by simp [←e])
         refine ar (bE hb ?_);have cE:=uz sa sb iC hb fun j h1 h2=>by have:=oW (k3 (j-ia) (by lia) (by lia));rw [show ia+(j-ia)=j by lia] at this;exact dm this
         by_cases x1:(ib+1 == b.size)=true
         ·rw [ae x1]
          exact aq (.inl ⟨_,_,rfl,rfl,j4 sa sb cE (.inl (eq_of_beq x1))⟩)
         ·rw [aa x1]
          have qL:ib+1≠b.size:=fun e=>x1 (by simp [←e])
          refine ar (bE (by lia) (ar (iZ (f:=fun i=>bB true (key (a.getD (ia+k) nn)) (key (b.getD (ib+1+i) nn))) (fun i hi Q q=>iY h (by lia) ob (oa _ (by lia)) (fg _) q) (by lia) (oX sb) fun k' q1 q2 q3=>?_)))
          dsimp only;by_cases eA:k'>0
          ·rw [ae eA]
           have dE:=AA sa sb cE (n:=k') fun i j hi bF hj d6=>dz (dm (iu (q2 i hi))) (f9 sa hj d6);by_cases x2:(ib+1+k' == b.size)=true
           ·rw [ae x2]
            exact aq (.inl ⟨_,_,rfl,rfl,j4 sa sb dE (.inl (eq_of_beq x2))⟩)
           ·rw [aa x2]
            have qM:ib+1+k'≠b.size:=fun e=>x2 (by simp [←e])
            refine ar (bE (by lia) ?_)
            have aW:=nC sa sb dE (by lia) fun j h1 h2=>by have:=i3 (q3 (j-(ib+1)) (by lia) (by lia));rwa [show ib+1+(j-(ib+1))=j by lia] at this
            by_cases y1:(ia+k+1+1 == a.size)=true
            ·rw [ae y1]
             exact aq (.inl ⟨_,_,rfl,rfl,j6 sa sb aW hl (eq_of_beq y1)⟩)
            ·rw [aa y1]
             have iD:ia+k+1+1≠a.size:=fun e=>y1 (by simp [←e])
             exact fb (fun _=>aq (.inr ⟨_,_,_,_,_,_,_,rfl,rfl,aW,by lia,by lia,by lia⟩)) (fun _=>aq ⟨_,_,_,_,_,_,_,rfl,rfl,aW,by lia,by lia,by lia⟩)
          ·rw [aa eA]
           obtain rfl:k'=0:=by lia
           refine ar (bE (by lia) ?_)
           have aW:=nC sa sb cE (by lia) fun j h1 h2=>by have:=i3 (q3 (j-(ib+1)) (by lia) (by lia));rwa [show ib+1+(j-(ib+1))=j by lia] at this
           by_cases y1:(ia+k+1+1 == a.size)=true
           ·rw [ae y1]
            exact aq (.inl ⟨_,_,rfl,rfl,j6 sa sb aW hl (eq_of_beq y1)⟩)
           ·rw [aa y1]
            have iD:ia+k+1+1≠a.size:=fun e=>y1 (by simp [←e])
            exact fb (fun _=>aq (.inr ⟨_,_,_,_,_,_,_,rfl,rfl,aW,by lia,by lia,by lia⟩)) (fun _=>aq ⟨_,_,_,_,_,_,_,rfl,rfl,aW,by lia,by lia,by lia⟩)
      ·rw [aa zk]
       obtain rfl:k=0:=by lia
       refine ar (bE hb ?_);have cE:=uz sa sb mi hb fun j h1 h2=>by have:=oW (k3 (j-ia) (by lia) (by lia));rw [show ia+(j-ia)=j by lia] at this;exact dm this
       by_cases x1:(ib+1 == b.size)=true
       ·rw [ae x1]
        exact aq (.inl ⟨_,_,rfl,rfl,j4 sa sb cE (.inl (eq_of_beq x1))⟩)
       ·rw [aa x1]
        have qL:ib+1≠b.size:=fun e=>x1 (by simp [←e])
        refine ar (bE (by lia) (ar (iZ (f:=fun i=>bB true (key (a.getD (ia) nn)) (key (b.getD (ib+1+i) nn))) (fun i hi Q q=>iY h (by lia) ob (oa _ (by lia)) (fg _) q) (by lia) (oX sb) fun k' q1 q2 q3=>?_)))
        dsimp only;by_cases eA:k'>0
        ·rw [ae eA]
         have dE:=AA sa sb cE (n:=k') fun i j hi bF hj d6=>dz (dm (iu (q2 i hi))) (f9 sa hj d6);by_cases x2:(ib+1+k' == b.size)=true
         ·rw [ae x2]
          exact aq (.inl ⟨_,_,rfl,rfl,j4 sa sb dE (.inl (eq_of_beq x2))⟩)
         ·rw [aa x2]
          have qM:ib+1+k'≠b.size:=fun e=>x2 (by simp [←e])
          refine ar (bE (by lia) ?_)
          have aW:=nC sa sb dE (by lia) fun j h1 h2=>by have:=i3 (q3 (j-(ib+1)) (by lia) (by lia));rwa [show ib+1+(j-(ib+1))=j by lia] at this
          by_cases y1:(ia+1+1 == a.size)=true
          ·rw [ae y1]
           exact aq (.inl ⟨_,_,rfl,rfl,j6 sa sb aW hl (eq_of_beq y1)⟩)
          ·rw [aa y1]
           have iD:ia+1+1≠a.size:=fun e=>y1 (by simp [←e])
           exact fb (fun _=>aq (.inr ⟨_,_,_,_,_,_,_,rfl,rfl,aW,by lia,by lia,by lia⟩)) (fun _=>aq ⟨_,_,_,_,_,_,_,rfl,rfl,aW,by lia,by lia,by lia⟩)
        ·rw [aa eA]
         obtain rfl:k'=0:=by lia
         refine ar (bE (by lia) ?_)
         have aW:=nC sa sb cE (by lia) fun j h1 h2=>by have:=i3 (q3 (j-(ib+1)) (by lia) (by lia));rwa [show ib+1+(j-(ib+1))=j by lia] at this
         by_cases y1:(ia+1+1 == a.size)=true
         ·rw [ae y1]
          exact aq (.inl ⟨_,_,rfl,rfl,j6 sa sb aW hl (eq_of_beq y1)⟩)
         ·rw [aa y1]
          have iD:ia+1+1≠a.size:=fun e=>y1 (by simp [←e])
          exact fb (fun _=>aq (.inr ⟨_,_,_,_,_,_,_,rfl,rfl,aW,by lia,by lia,by lia⟩)) (fun _=>aq ⟨_,_,_,_,_,_,_,rfl,rfl,aW,by lia,by lia,by lia⟩)
    ·rintro c aw ⟨out,i,j,mg,ac,bc,g,rfl,rfl,mi,ha,hb,iy⟩
     exact .inr ⟨_,_,_,_,_,_,_,rfl,rfl,mi,ha,hb,iy⟩
    ·rintro c aw (⟨m,g,e,rfl,pm⟩ | ⟨out,i,j,mg,ac,bc,g,rfl,rfl,mi,ha,hb,iy⟩)
     ·obtain ⟨c1,c2⟩:=c
      dsimp only at e;subst e;exact aq ⟨m,g,rfl,rfl,pm⟩
     ·dsimp only
      exact ar (uu (aq ⟨_,_,_,_,_,rfl,rfl,mi,ha,hb,by lia⟩))
 ·rintro c aw ⟨out,ia,ib,mg,g,rfl,rfl,mi,ha,hb,qK⟩
  exfalso
  lia
 ·rintro c aw ⟨m,g,e,rfl,pm,sm⟩
  obtain ⟨c1,c2⟩:=c;dsimp only at e;subst e;exact aq (q m g pm sm)
end
theorem RN(a b:Array Keyed):D5 a b=(do
 rule "list.sort.merge-hi"
 let total:=a.size+b.size
 let done (out:Array Keyed) (na nb:Nat):=a.extract 0 na++b.extract 0 nb++out.reverse
 let AB (out:Array Keyed) (na nb:Nat):=b.extract 0 nb++a.extract 0 na++out.reverse
 let mut na:=a.size-1
 let mut nb:=b.size
 let mut out:Array Keyed:=#[←elem' a na]
 if na == 0 then return done out na nb
 if nb == 1 then return AB out na nb
 let mut minGallop:=gallopOf (←get)
 for _ in [0:total] do
  let mut jv:=0
  let mut jw:=0
  for _ in [0:total] do
   let some RO ←lt' (←elem' b (nb-1)) (←elem' a (na-1)) | return done out na nb
   if RO then
    na:=na-1;out:=out.push (←elem' a na);jv:=jv+1;jw:=0
    if na == 0 then return done out na nb
    if jv≥minGallop then break
   else
    nb:=nb-1;out:=out.push (←elem' b nb);jw:=jw+1;jv:=0
    if nb == 1 then return AB out na nb
    if jw≥minGallop then break
  rule "list.sort.gallop"
  minGallop:=minGallop+1
  for _ in [0:total] do
   if minGallop>1 then minGallop:=minGallop-1
   ya minGallop
   let some at_ ←oU false (←elem' b (nb-1)) a 0 na (na-1) | return done out na nb
   let k:=na-at_
   jv:=k
   if k>0 then
    out:=out++(a.extract at_ na).reverse;na:=at_
    if na == 0 then return done out na nb
   nb:=nb-1;out:=out.push (←elem' b nb)
   if nb == 1 then return AB out na nb
   let some at_ ←oU true (←elem' a (na-1)) b 0 nb (nb-1) | return done out na nb
   let k:=nb-at_
   jw:=k
   if k>0 then
    out:=out++(b.extract at_ nb).reverse;nb:=at_
    if nb == 1 then return AB out na nb
    if nb == 0 then return done out na nb
   na:=na-1;out:=out.push (←elem' a na)
   if na == 0 then return done out na nb
   if jv<7 && jw<7 then break
  minGallop:=minGallop+1
  ya minGallop
 unsupported "internal:list.sort.merge-bound"):=rfl
section
variable {key:Keyed→Int}
theorem uA(h:bt key l):bt (fun x=>-key x) l.reverse:=by unfold bt;rw [List.pairwise_reverse];exact List.Pairwise.imp (fun h=>Int.neg_le_neg h) h
theorem Jy(h:bt (fun x=>-key x) l):bt key l.reverse:=by unfold bt;rw [List.pairwise_reverse];exact List.Pairwise.imp (fun h=>Int.le_of_neg_le_neg h) h
variable {a:Array Keyed} {n:Nat}
theorem kS(h:n≤a.size):a.toList.reverse.drop (a.size-n)=(a.extract 0 n).toList.reverse:=by rw [List.drop_reverse,jZ,List.drop_zero,Nat.sub_zero,gM,show a.size-(a.size-n)=n by lia]
theorem AD{m:Nat}(h:n≤a.size)(hm:m≤n):(a.toList.reverse.drop (a.size-n)).take (n-m)=(a.extract m n).reverse.toList:=by rw [kS h,zI,jZ,jZ,List.drop_zero,Nat.sub_zero,List.take_reverse,oi,gM,show min n a.size-(n-m)=m by lia,List.drop_take]
theorem nE{m:Nat}(h:n≤a.size){x:Keyed}(hx:x∈(a.extract m n).toList):∃j,m≤j∧j<n∧x=a.getD j nn:=by rw [jZ] at hx;obtain ⟨j,h1,h2,rfl⟩:=D7 hx;exact ⟨m+j,by lia,by lia,rfl⟩
theorem Jz(h:n≤a.size)(h1:1≤n):(a.extract (n-1) n).reverse.toList=[a.getD (n-1) nn]:=by
 rw [zI,jZ,show n-(n-1)=1 by lia,yd (by lia)]
 rfl
def MH(key:Keyed→Int)(a b out:Array Keyed)(na nb:Nat):Prop:=MI (fun x=>-key x) a.toList.reverse b.toList.reverse out.toList (a.size-na) (b.size-nb)∧na≤a.size∧nb≤b.size
variable {a b:Array Keyed} (sa:bt key a.toList) (sb:bt key b.toList) {out:Array Keyed} {na nb:Nat}
include sa sb
variable {k:Nat}
theorem Eb(m:MH key a b out na nb)(hk:k≤na)(c:∀i j,k≤i→i<na→j<nb→key (b.getD j nn)≤key (a.getD i nn)):MH key a b (out++(a.extract k na).reverse) k nb:=by
 obtain ⟨m,ha,hb⟩:=m;refine ⟨?_,by lia,hb⟩
 have:=m.Aw (uA sa) (na-k) fun x hx y hy=>by rw [AD ha hk,zI,lH] at hx;rw [kS hb,lH] at hy;obtain ⟨i,i1,i2,rfl⟩:=nE ha hx;obtain ⟨j,j1,j2,rfl⟩:=nE hb hy;have:=c i j i1 i2 j2;lia
 rw [AD ha hk,show a.size-na+(na-k)=a.size-k by lia] at this
 rw [lG];exact this
theorem yf(m:MH key a b out na nb)(hk:k≤nb)(c:∀i j,k≤i→i<nb→j<na→key (a.getD j nn)≤key (b.getD i nn)):MH key a b (out++(b.extract k nb).reverse) na k:=by
 obtain ⟨m,ha,hb⟩:=m;refine ⟨?_,ha,by lia⟩
 have:=m.D6 (uA sb) (nb-k) fun x hx y hy=>by rw [AD hb hk,zI,lH] at hx;rw [kS ha,lH] at hy;obtain ⟨i,i1,i2,rfl⟩:=nE hb hx;obtain ⟨j,j1,j2,rfl⟩:=nE ha hy;have:=c i j i1 i2 j2;lia
 rw [AD hb hk,show b.size-nb+(nb-k)=b.size-k by lia] at this
 rw [lG];exact this
theorem mj(m:MH key a b out na nb)(h1:1≤na)(c:∀j,j<nb→key (b.getD j nn)≤key (a.getD (na-1) nn)):MH key a b (out.push (a.getD (na-1) nn)) (na-1) nb:=by
 have:=Eb sa sb m (k:=na-1) (by lia) fun i j i1 i2 j1=>by
  rw [show i=na-1 by lia]
  exact c j j1
 have e:out++(a.extract (na-1) na).reverse=out.push (a.getD (na-1) nn):=by apply Array.toList_inj.mp;rw [lG,Jz m.2.1 h1,ot]
 rw [e] at this;exact this
theorem yg(m:MH key a b out na nb)(h1:1≤nb)(c:∀j,j<na→key (a.getD j nn)≤key (b.getD (nb-1) nn)):MH key a b (out.push (b.getD (nb-1) nn)) na (nb-1):=by
 have:=yf sa sb m (k:=nb-1) (by lia) fun i j i1 i2 j1=>by
  rw [show i=nb-1 by lia]
  exact c j j1
 have e:out++(b.extract (nb-1) nb).reverse=out.push (b.getD (nb-1) nn):=by apply Array.toList_inj.mp;rw [lG,Jz m.2.2 h1,ot]
 rw [e] at this;exact this
theorem gX(m:MH key a b out na nb)(e:na=0∨nb=0):(a.extract 0 na++b.extract 0 nb++out.reverse).toList.Perm (a.toList++b.toList)∧bt key (a.extract 0 na++b.extract 0 nb++out.reverse).toList:=by
 obtain ⟨m,ha,hb⟩:=m;have:=m.Jw (uA sa) (uA sb) fun x hx y hy=>by rw [kS ha,lH] at hx;rw [kS hb,lH] at hy;obtain ⟨i,i1,i2,_⟩:=nE ha hx;obtain ⟨j,j1,j2,_⟩:=nE hb hy;lia
 rw [kS ha,kS hb] at this;have er:(a.extract 0 na++b.extract 0 nb++out.reverse).toList=(out.toList++(b.extract 0 nb).toList.reverse++(a.extract 0 na).toList.reverse).reverse:=by simp
 rw [er];refine ⟨(mV _).trans (this.1.trans ?_),Jy this.2⟩;exact (mV _).append (mV _)
theorem mq(m:MH key a b out na nb)(h0:∀x∈a.toList,key (b.getD 0 nn)≤key x)(e:nb=1):(b.extract 0 nb++a.extract 0 na++out.reverse).toList.Perm (a.toList++b.toList)∧bt key (b.extract 0 nb++a.extract 0 na++out.reverse).toList:=by
 obtain ⟨m,ha,hb⟩:=m;have:=m.done (uA sa) (uA sb) fun x hx y hy=>by
  rw [kS ha,lH] at hx;rw [kS hb,lH] at hy;obtain ⟨i,i1,i2,rfl⟩:=nE ha hx;obtain ⟨j,j1,j2,rfl⟩:=nE hb hy;have:=h0 (a.getD i nn) (by simp [Array.getD,show i<a.size by lia])
  rw [show j=0 by lia]
  lia
 rw [kS ha,kS hb] at this;have er:(b.extract 0 nb++a.extract 0 na++out.reverse).toList=(out.toList++(a.extract 0 na).toList.reverse++(b.extract 0 nb).toList.reverse).reverse:=by simp
 rw [er];refine ⟨(mV _).trans (this.1.trans ?_),Jy this.2⟩;exact (mV _).append (mV _)
end
section
variable {prog:Program} {w:World} {A:Around} {E:aM} {s:Shared} {κ:SortKind} {key:Keyed→Int} {Ok:Keyed→Prop}
theorem RP(h:jY prog w A s κ key Ok){a b:Array Keyed}(oa:fH Ok a)(ob:fH Ok b)(sa:bt key a.toList)(sb:bt key b.toList)(a1:1≤a.size)(b1:1≤b.size)
  (h0:∀x∈a.toList,key (b.getD 0 nn)≤key x) (hl:∀y∈b.toList,key y≤key (a.getD (a.size-1) nn)) {st:SortSt} (hk:kindOf st=κ) {Q:Array Keyed→SortSt→Prop}
  (q:∀m g,m.toList.Perm (a.toList++b.toList)→bt key m.toList→Q m (setG st g)):wpS (model prog w) A E s (D5 a b) Q st:=by
 rw [RN];refine ar (wpS_lift (pY ⟨rfl,?_⟩));refine ar (bE (by lia) ?_)
 dsimp only;have m0:MH key a b (#[a.getD (a.size-1) nn]:Array Keyed) (a.size-1) b.size:=by
  have:MH key a b (#[]:Array Keyed) a.size b.size:=⟨⟨by simp,List.Pairwise.nil,fun x hx=>by simp at hx,fun x hx=>by simp at hx⟩,ax _,ax _⟩
  exact mj sa sb this a1 fun j hj=>hl _ (by simp [Array.getD,hj])
 have fg:∀g,kindOf (setG st g)=κ:=fun _=>hk;by_cases e1:(a.size-1 == 0)=true
 ·rw [ae e1]
  have:=gX sa sb m0 (.inl (eq_of_beq e1));exact aq (q _ (gallopOf st) this.1 this.2)
 rw [aa e1];by_cases e2:(b.size == 1)=true
 ·rw [ae e2]
  have:=mq sa sb m0 h0 (eq_of_beq e2);exact aq (q _ (gallopOf st) this.1 this.2)
 rw [aa e2];have a2:1≤a.size-1:=by
  have:a.size-1≠0:=fun e=>e1 (by simp [e])
  lia
 have b2:2≤b.size:=by
  have:b.size≠1:=fun e=>e2 (by simp [e])
  lia
 refine ar (jf ?_)
 refine ar (gv (fR (I:=fun x c aw=>∃(out:Array Keyed) (na nb mg g:Nat),c=(none,na,nb,out,mg)∧aw=setG st g∧MH key a b out na nb∧1≤na∧2≤nb∧x+na+nb≤a.size+b.size)
  (Q:=fun c aw=>∃(m:Array Keyed) (g:Nat),c.1=some m∧aw=setG st g∧m.toList.Perm (a.toList++b.toList)∧bt key m.toList) ?_ ?_ ⟨_,a.size-1,b.size,_,gallopOf st,rfl,rfl,m0,a2,b2,show 0+(a.size-1)+b.size≤a.size+b.size by lia⟩) ?_)
 ·rintro x c aw _ hx ⟨out,na,nb,mg,g,rfl,rfl,mi,ha,hb,qK⟩
  dsimp only
  refine ar (gv (fR (I:=fun y c aw=>∃(out:Array Keyed) (bw ck ac bc:Nat),c=(none,bw,ck,out,ac,bc)∧aw=setG st g∧MH key a b out bw ck∧1≤bw∧2≤ck∧y+bw+ck≤na+nb)
   (Q:=fun c aw=>aw=setG st g∧((∃m:Array Keyed,c.1=some m∧m.toList.Perm (a.toList++b.toList)∧bt key m.toList)∨∃(out:Array Keyed) (bw ck ac bc:Nat),c=(none,bw,ck,out,ac,bc)∧MH key a b out bw ck∧1≤bw∧2≤ck∧1+bw+ck≤na+nb)) ?_ ?_ ⟨_,na,nb,_,_,rfl,rfl,mi,ha,hb,show 0+na+nb≤na+nb by lia⟩) ?_)
  ·rintro y c aw _ hy ⟨out,bw,ck,ac,bc,rfl,rfl,mi,ha,hb,iy⟩
   have RQ:=mi.2.1;have qN:=mi.2.2;dsimp only;refine ar (bE (by lia) (ar (bE (by lia) (ar (yc h (ob (ck-1) (by lia)) (oa (bw-1) (by lia)) (fg _) ?_)))))
   dsimp only;by_cases z:key (b.getD (ck-1) nn)<key (a.getD (bw-1) nn)
   ·rw [a_ z,ae rfl]
    refine ar (bE (by lia) ?_)
    have iz:=mj sa sb mi ha fun j hj=>dz (f9 sb (by lia) (by lia)) (dm z)
    by_cases z1:(bw-1 == 0)=true
    ·rw [ae z1]
     exact aq ⟨rfl,.inl ⟨_,rfl,gX sa sb iz (.inl (eq_of_beq z1))⟩⟩
    ·rw [aa z1]
     have ye:bw-1≠0:=fun e=>z1 (by simp [e])
     exact fb (fun _=>aq ⟨rfl,.inr ⟨_,_,_,_,_,rfl,iz,by lia,hb,by lia⟩⟩) (fun _=>aq ⟨_,_,_,_,_,rfl,rfl,iz,by lia,hb,by lia⟩)
   ·rw [bL z,aa (by simp)]
    refine ar (bE (by lia) ?_)
    have iz:=yg sa sb mi (by lia) fun j hj=>dz (f9 sa (by lia) (by lia)) (Int.not_lt.mp z)
    by_cases z1:(ck-1 == 1)=true
    ·rw [ae z1]
     exact aq ⟨rfl,.inl ⟨_,rfl,mq sa sb iz h0 (eq_of_beq z1)⟩⟩
    ·rw [aa z1]
     have ye:ck-1≠1:=fun e=>z1 (by simp [e])
     exact fb (fun _=>aq ⟨rfl,.inr ⟨_,_,_,_,_,rfl,iz,ha,by lia,by lia⟩⟩) (fun _=>aq ⟨_,_,_,_,_,rfl,rfl,iz,ha,by lia,by lia⟩)
  ·rintro c aw ⟨out,bw,ck,ac,bc,rfl,rfl,mi,ha,hb,iy⟩
   exact ⟨rfl,.inr ⟨_,_,_,_,_,rfl,mi,ha,hb,by lia⟩⟩
  ·rintro c aw ⟨rfl,⟨m,e,pm⟩ | ⟨out,bw,ck,ac,bc,rfl,mi,ha,hb,iy⟩⟩
   ·obtain ⟨c1,c2⟩:=c
    dsimp only at e;subst e;exact aq ⟨m,g,rfl,rfl,pm⟩
   ·dsimp only
    refine ar (wpS_lift (pY ⟨rfl,?_⟩))
    refine ar (gv (fR (I:=fun y c aw=>∃(out:Array Keyed) (i j mg ac bc g:Nat),c=(none,i,j,out,mg,ac,bc)∧aw=setG st g∧MH key a b out i j∧1≤i∧2≤j∧x+1+i+j≤a.size+b.size)
     (Q:=fun c aw=>(∃(m:Array Keyed) (g:Nat),c.1=some m∧aw=setG st g∧m.toList.Perm (a.toList++b.toList)∧bt key m.toList)∨∃(out:Array Keyed) (i j mg ac bc g:Nat),c=(none,i,j,out,mg,ac,bc)∧aw=setG st g∧MH key a b out i j∧1≤i∧2≤j∧x+1+i+j≤a.size+b.size) ?_ ?_ ⟨_,bw,ck,_,_,_,g,rfl,rfl,mi,ha,hb,by lia⟩) ?_)
    ·clear mi ha hb iy
     rintro y c aw _ hy ⟨out,na,nb,mg,ac,bc,g,rfl,rfl,mi,ha,hb,iy⟩;have RQ:=mi.2.1;have qN:=mi.2.2;dsimp only;rcases Nat.lt_or_ge 1 mg with zm | zm
     ·rw [ae zm]
      refine ar (uu ?_);refine ar (bE (by lia) (ar (iZ (f:=fun i=>bB false (key (b.getD (nb-1) nn)) (key (a.getD (0+i) nn))) (fun i hi Q q=>iY h (by lia) oa (ob _ (by lia)) (fg _) q) (by lia) (fun i j h1 h2 h3=>Az sa (o:=0) i j h1 (by lia) h3) fun k k1 k2 k3=>?_)))
      dsimp only;by_cases zk:na-k>0
      ·rw [ae zk]
       have iC:=Eb sa sb mi (k:=k) k1 fun i j hi bF hj=>by have:=oW (k3 i hi bF);rw [d_] at this;exact dz (f9 sb (by lia) (by lia)) (dm this)
       by_cases w1:(k == 0)=true
       ·rw [ae w1]
        exact aq (.inl ⟨_,_,rfl,rfl,gX sa sb iC (.inl (eq_of_beq w1))⟩)
       ·rw [aa w1]
        have Ea:k≠0:=fun e=>w1 (by simp [e])
        refine ar (bE (by have:=iC.2.2;lia) ?_)
        have cE:=yg sa sb iC (by lia) fun j h1=>by have:=mh (k2 j h1);rw [d_] at this;exact this
        by_cases x1:(nb-1 == 1)=true
        ·rw [ae x1]
         exact aq (.inl ⟨_,_,rfl,rfl,mq sa sb cE h0 (eq_of_beq x1)⟩)
        ·rw [aa x1]
         have qL:nb-1≠1:=fun e=>x1 (by simp [e])
         have qN:=cE.2.2;refine ar (bE (by lia) (ar (iZ (f:=fun i=>bB true (key (a.getD (k-1) nn)) (key (b.getD (0+i) nn))) (fun i hi Q q=>iY h (by lia) ob (oa _ (by lia)) (fg _) q) (by lia) (fun i j h1 h2 h3=>oX sb (o:=0) i j h1 (by lia) h3) fun k' q1 q2 q3=>?_)))
         dsimp only;by_cases eA:nb-1-k'>0
         ·rw [ae eA]
          have dE:=yf sa sb cE (k:=k') q1 fun i j hi bF hj=>by have:=i3 (q3 i hi bF);rw [d_] at this;exact dz (f9 sa (by lia) (by lia)) this
          by_cases x2:(k' == 1)=true
          ·rw [ae x2]
           exact aq (.inl ⟨_,_,rfl,rfl,mq sa sb dE h0 (eq_of_beq x2)⟩)
          ·rw [aa x2]
           have qM:k'≠1:=fun e=>x2 (by simp [e])
           by_cases x3:(k' == 0)=true
           ·rw [ae x3]
            exact aq (.inl ⟨_,_,rfl,rfl,gX sa sb dE (.inr (eq_of_beq x3))⟩)
           ·rw [aa x3]
            have Ec:k'≠0:=fun e=>x3 (by simp [e])
            refine ar (bE (by lia) ?_)
            have aW:=mj sa sb dE (by lia) fun j h1=>by have:=iu (q2 j h1);rw [d_] at this;exact dm this
            by_cases y1:(k-1 == 0)=true
            ·rw [ae y1]
             exact aq (.inl ⟨_,_,rfl,rfl,gX sa sb aW (.inl (eq_of_beq y1))⟩)
            ·rw [aa y1]
             have iD:k-1≠0:=fun e=>y1 (by simp [e])
             exact fb (fun _=>aq (.inr ⟨_,_,_,_,_,_,_,rfl,rfl,aW,by lia,by lia,by lia⟩)) (fun _=>aq ⟨_,_,_,_,_,_,_,rfl,rfl,aW,by lia,by lia,by lia⟩)
         ·rw [aa eA]
          obtain rfl:k'=nb-1:=by lia
          refine ar (bE (by lia) ?_)
          have aW:=mj sa sb cE (by lia) fun j h1=>by have:=iu (q2 j h1);rw [d_] at this;exact dm this
          by_cases y1:(k-1 == 0)=true
          ·rw [ae y1]
           exact aq (.inl ⟨_,_,rfl,rfl,gX sa sb aW (.inl (eq_of_beq y1))⟩)
          ·rw [aa y1]
           have iD:k-1≠0:=fun e=>y1 (by simp [e])
           exact fb (fun _=>aq (.inr ⟨_,_,_,_,_,_,_,rfl,rfl,aW,by lia,by lia,by lia⟩)) (fun _=>aq ⟨_,_,_,_,_,_,_,rfl,rfl,aW,by lia,by lia,by lia⟩)
      ·rw [aa zk]
       obtain rfl:k=na:=by lia
       refine ar (bE (by have:=mi.2.2;lia) ?_)
       have cE:=yg sa sb mi (by lia) fun j h1=>by have:=mh (k2 j h1);rw [d_] at this;exact this
       by_cases x1:(nb-1 == 1)=true
       ·rw [ae x1]
        exact aq (.inl ⟨_,_,rfl,rfl,mq sa sb cE h0 (eq_of_beq x1)⟩)
       ·rw [aa x1]
        have qL:nb-1≠1:=fun e=>x1 (by simp [e])
        have qN:=cE.2.2;refine ar (bE (by lia) (ar (iZ (f:=fun i=>bB true (key (a.getD (k-1) nn)) (key (b.getD (0+i) nn))) (fun i hi Q q=>iY h (by lia) ob (oa _ (by lia)) (fg _) q) (by lia) (fun i j h1 h2 h3=>oX sb (o:=0) i j h1 (by lia) h3) fun k' q1 q2 q3=>?_)))
        dsimp only;by_cases eA:nb-1-k'>0
        ·rw [ae eA]
         have dE:=yf sa sb cE (k:=k') q1 fun i j hi bF hj=>by have:=i3 (q3 i hi bF);rw [d_] at this;exact dz (f9 sa (by lia) (by lia)) this
         by_cases x2:(k' == 1)=true
         ·rw [ae x2]
          exact aq (.inl ⟨_,_,rfl,rfl,mq sa sb dE h0 (eq_of_beq x2)⟩)
         ·rw [aa x2]
          have qM:k'≠1:=fun e=>x2 (by simp [e])
          by_cases x3:(k' == 0)=true
          ·rw [ae x3]
           exact aq (.inl ⟨_,_,rfl,rfl,gX sa sb dE (.inr (eq_of_beq x3))⟩)
          ·rw [aa x3]
           have Ec:k'≠0:=fun e=>x3 (by simp [e])
           refine ar (bE (by lia) ?_)
           have aW:=mj sa sb dE (by lia) fun j h1=>by have:=iu (q2 j h1);rw [d_] at this;exact dm this
           by_cases y1:(k-1 == 0)=true
           ·rw [ae y1]
            exact aq (.inl ⟨_,_,rfl,rfl,gX sa sb aW (.inl (eq_of_beq y1))⟩)
           ·rw [aa y1]
            have iD:k-1≠0:=fun e=>y1 (by simp [e])
            exact fb (fun _=>aq (.inr ⟨_,_,_,_,_,_,_,rfl,rfl,aW,by lia,by lia,by lia⟩)) (fun _=>aq ⟨_,_,_,_,_,_,_,rfl,rfl,aW,by lia,by lia,by lia⟩)
        ·rw [aa eA]
         obtain rfl:k'=nb-1:=by lia
         refine ar (bE (by lia) ?_)
         have aW:=mj sa sb cE (by lia) fun j h1=>by have:=iu (q2 j h1);rw [d_] at this;exact dm this
         by_cases y1:(k-1 == 0)=true
         ·rw [ae y1]
          exact aq (.inl ⟨_,_,rfl,rfl,gX sa sb aW (.inl (eq_of_beq y1))⟩)
         ·rw [aa y1]
          have iD:k-1≠0:=fun e=>y1 (by simp [e])
          exact fb (fun _=>aq (.inr ⟨_,_,_,_,_,_,_,rfl,rfl,aW,by lia,by lia,by lia⟩)) (fun _=>aq ⟨_,_,_,_,_,_,_,rfl,rfl,aW,by lia,by lia,by lia⟩)
     ·rw [aa (by lia)]
      refine ar (uu ?_);refine ar (bE (by lia) (ar (iZ (f:=fun i=>bB false (key (b.getD (nb-1) nn)) (key (a.getD (0+i) nn))) (fun i hi Q q=>iY h (by lia) oa (ob _ (by lia)) (fg _) q) (by lia) (fun i j h1 h2 h3=>Az sa (o:=0) i j h1 (by lia) h3) fun k k1 k2 k3=>?_)))
      dsimp only;by_cases zk:na-k>0
      ·rw [ae zk]
       have iC:=Eb sa sb mi (k:=k) k1 fun i j hi bF hj=>by have:=oW (k3 i hi bF);rw [d_] at this;exact dz (f9 sb (by lia) (by lia)) (dm this)
       by_cases w1:(k == 0)=true
       ·rw [ae w1]
        exact aq (.inl ⟨_,_,rfl,rfl,gX sa sb iC (.inl (eq_of_beq w1))⟩)
       ·rw [aa w1]
        have Ea:k≠0:=fun e=>w1 (by simp [e])
        refine ar (bE (by have:=iC.2.2;lia) ?_)
        have cE:=yg sa sb iC (by lia) fun j h1=>by have:=mh (k2 j h1);rw [d_] at this;exact this
        by_cases x1:(nb-1 == 1)=true
        ·rw [ae x1]
         exact aq (.inl ⟨_,_,rfl,rfl,mq sa sb cE h0 (eq_of_beq x1)⟩)
        ·rw [aa x1]
         have qL:nb-1≠1:=fun e=>x1 (by simp [e])
         have qN:=cE.2.2;refine ar (bE (by lia) (ar (iZ (f:=fun i=>bB true (key (a.getD (k-1) nn)) (key (b.getD (0+i) nn))) (fun i hi Q q=>iY h (by lia) ob (oa _ (by lia)) (fg _) q) (by lia) (fun i j h1 h2 h3=>oX sb (o:=0) i j h1 (by lia) h3) fun k' q1 q2 q3=>?_)))
         dsimp only;by_cases eA:nb-1-k'>0
         ·rw [ae eA]
          have dE:=yf sa sb cE (k:=k') q1 fun i j hi bF hj=>by have:=i3 (q3 i hi bF);rw [d_] at this;exact dz (f9 sa (by lia) (by lia)) this
          by_cases x2:(k' == 1)=true
          ·rw [ae x2]
           exact aq (.inl ⟨_,_,rfl,rfl,mq sa sb dE h0 (eq_of_beq x2)⟩)
          ·rw [aa x2]
           have qM:k'≠1:=fun e=>x2 (by simp [e])
           by_cases x3:(k' == 0)=true
           ·rw [ae x3]
            exact aq (.inl ⟨_,_,rfl,rfl,gX sa sb dE (.inr (eq_of_beq x3))⟩)
           ·rw [aa x3]
            have Ec:k'≠0:=fun e=>x3 (by simp [e])
            refine ar (bE (by lia) ?_)
            have aW:=mj sa sb dE (by lia) fun j h1=>by have:=iu (q2 j h1);rw [d_] at this;exact dm this
            by_cases y1:(k-1 == 0)=true
            ·rw [ae y1]
             exact aq (.inl ⟨_,_,rfl,rfl,gX sa sb aW (.inl (eq_of_beq y1))⟩)
            ·rw [aa y1]
             have iD:k-1≠0:=fun e=>y1 (by simp [e])
             exact fb (fun _=>aq (.inr ⟨_,_,_,_,_,_,_,rfl,rfl,aW,by lia,by lia,by lia⟩)) (fun _=>aq ⟨_,_,_,_,_,_,_,rfl,rfl,aW,by lia,by lia,by lia⟩)
         ·rw [aa eA]
          obtain rfl:k'=nb-1:=by lia
          refine ar (bE (by lia) ?_)
          have aW:=mj sa sb cE (by lia) fun j h1=>by have:=iu (q2 j h1);rw [d_] at this;exact dm this
          by_cases y1:(k-1 == 0)=true
          ·rw [ae y1]
           exact aq (.inl ⟨_,_,rfl,rfl,gX sa sb aW (.inl (eq_of_beq y1))⟩)
          ·rw [aa y1]
           have iD:k-1≠0:=fun e=>y1 (by simp [e])
           exact fb (fun _=>aq (.inr ⟨_,_,_,_,_,_,_,rfl,rfl,aW,by lia,by lia,by lia⟩)) (fun _=>aq ⟨_,_,_,_,_,_,_,rfl,rfl,aW,by lia,by lia,by lia⟩)
      ·rw [aa zk]
       obtain rfl:k=na:=by lia
       refine ar (bE (by have:=mi.2.2;lia) ?_)
       have cE:=yg sa sb mi (by lia) fun j h1=>by have:=mh (k2 j h1);rw [d_] at this;exact this
       by_cases x1:(nb-1 == 1)=true
       ·rw [ae x1]
        exact aq (.inl ⟨_,_,rfl,rfl,mq sa sb cE h0 (eq_of_beq x1)⟩)
       ·rw [aa x1]
        have qL:nb-1≠1:=fun e=>x1 (by simp [e])
        have qN:=cE.2.2;refine ar (bE (by lia) (ar (iZ (f:=fun i=>bB true (key (a.getD (k-1) nn)) (key (b.getD (0+i) nn))) (fun i hi Q q=>iY h (by lia) ob (oa _ (by lia)) (fg _) q) (by lia) (fun i j h1 h2 h3=>oX sb (o:=0) i j h1 (by lia) h3) fun k' q1 q2 q3=>?_)))
        dsimp only;by_cases eA:nb-1-k'>0
        ·rw [ae eA]
         have dE:=yf sa sb cE (k:=k') q1 fun i j hi bF hj=>by have:=i3 (q3 i hi bF);rw [d_] at this;exact dz (f9 sa (by lia) (by lia)) this
         by_cases x2:(k' == 1)=true
         ·rw [ae x2]
          exact aq (.inl ⟨_,_,rfl,rfl,mq sa sb dE h0 (eq_of_beq x2)⟩)
         ·rw [aa x2]
          have qM:k'≠1:=fun e=>x2 (by simp [e])
          by_cases x3:(k' == 0)=true
          ·rw [ae x3]
           exact aq (.inl ⟨_,_,rfl,rfl,gX sa sb dE (.inr (eq_of_beq x3))⟩)
          ·rw [aa x3]
           have Ec:k'≠0:=fun e=>x3 (by simp [e])
           refine ar (bE (by lia) ?_)
           have aW:=mj sa sb dE (by lia) fun j h1=>by have:=iu (q2 j h1);rw [d_] at this;exact dm this
           by_cases y1:(k-1 == 0)=true
           ·rw [ae y1]
            exact aq (.inl ⟨_,_,rfl,rfl,gX sa sb aW (.inl (eq_of_beq y1))⟩)
           ·rw [aa y1]
            have iD:k-1≠0:=fun e=>y1 (by simp [e])
            exact fb (fun _=>aq (.inr ⟨_,_,_,_,_,_,_,rfl,rfl,aW,by lia,by lia,by lia⟩)) (fun _=>aq ⟨_,_,_,_,_,_,_,rfl,rfl,aW,by lia,by lia,by lia⟩)
        ·rw [aa eA]
         obtain rfl:k'=nb-1:=by lia
         refine ar (bE (by lia) ?_)
         have aW:=mj sa sb cE (by lia) fun j h1=>by have:=iu (q2 j h1);rw [d_] at this;exact dm this
         by_cases y1:(k-1 == 0)=true
         ·rw [ae y1]
          exact aq (.inl ⟨_,_,rfl,rfl,gX sa sb aW (.inl (eq_of_beq y1))⟩)
         ·rw [aa y1]
          have iD:k-1≠0:=fun e=>y1 (by simp [e])
          exact fb (fun _=>aq (.inr ⟨_,_,_,_,_,_,_,rfl,rfl,aW,by lia,by lia,by lia⟩)) (fun _=>aq ⟨_,_,_,_,_,_,_,rfl,rfl,aW,by lia,by lia,by lia⟩)
    ·rintro c aw ⟨out,i,j,mg,ac,bc,g,rfl,rfl,mi,ha,hb,iy⟩
     exact .inr ⟨_,_,_,_,_,_,_,rfl,rfl,mi,ha,hb,iy⟩
    ·rintro c aw (⟨m,g,e,rfl,pm⟩ | ⟨out,i,j,mg,ac,bc,g,rfl,rfl,mi,ha,hb,iy⟩)
     ·obtain ⟨c1,c2⟩:=c
      dsimp only at e;subst e;exact aq ⟨m,g,rfl,rfl,pm⟩
     ·dsimp only
      exact ar (uu (aq ⟨_,_,_,_,_,rfl,rfl,mi,ha,hb,by lia⟩))
 ·rintro c aw ⟨out,ia,ib,mg,g,rfl,rfl,mi,ha,hb,qK⟩
  exfalso
  lia
 ·rintro c aw ⟨m,g,e,rfl,pm,sm⟩
  obtain ⟨c1,c2⟩:=c;dsimp only at e;subst e;exact aq (q m g pm sm)
end
section
variable {prog:Program} {w:World} {A:Around} {E:aM} {s:Shared} {κ:SortKind} {key:Keyed→Int} {Ok:Keyed→Prop}
def vA(key:Keyed→Int)(arr:Array Keyed)(i:Nat):Int:=key (arr.getD i nn)
def dc(key:Keyed→Int)(arr:Array Keyed)(lo hi:Nat):Prop:=∀i j,lo≤i→i≤j→j<hi→vA key arr i≤vA key arr j
def j7(key:Keyed→Int)(arr:Array Keyed)(lo hi:Nat):Prop:=∀i j,lo≤i→i≤j→j<hi→vA key arr j≤vA key arr i
structure Rl (arr aU:Array Keyed) (lo hi:Nat):Prop where
 pm:aU.Perm arr
 out:∀k,k<lo∨hi≤k→aU[k]?=arr[k]?
theorem Rl.refl(arr:Array Keyed)(lo hi:Nat):Rl arr arr lo hi:=⟨Array.Perm.refl _,fun _ _=>rfl⟩
variable {arr aU:Array Keyed} {lo hi:Nat}
theorem Rl.trans{aG:Array Keyed}(h:Rl arr aU lo hi)(h':Rl aU aG lo hi):Rl arr aG lo hi:=⟨h'.pm.trans h.pm,fun k hk=>(h'.out k hk).trans (h.out k hk)⟩
theorem Rl.size(h:Rl arr aU lo hi):aU.size=arr.size:=h.pm.size_eq
theorem Rl.wide{JA bF:Nat}(h:Rl arr aU lo hi)(h1:JA≤lo)(h2:hi≤bF):Rl arr aU JA bF:=⟨h.pm,fun k hk=>h.out k (by lia)⟩
theorem kT(arr:Array Keyed)(i:Nat):arr.getD i nn=arr[i]?.getD nn:=by by_cases z:i<arr.size <;> simp [Array.getD,z]
variable {k:Nat}
theorem Rl.v(h:Rl arr aU lo hi)(hk:k<lo∨hi≤k):vA key aU k=vA key arr k:=by unfold vA;rw [kT,kT,h.out k hk]
theorem uB(h:fH Ok arr)(p:aU.Perm arr):fH Ok aU:=fun i hi=>by
 have e:aU.getD i nn=aU[i]:=by simp [Array.getD,hi]
 rw [e];have m:aU[i]∈arr:=(Array.Perm.mem_iff p).mp (Array.getElem_mem hi);obtain ⟨j,hj,ej⟩:=Array.getElem_of_mem m;rw [←ej];have:=h j hj;simpa [Array.getD,hj] using this
theorem Rl.ok(h:Rl arr aU lo hi)(ok:fH Ok arr):fH Ok aU:=uB ok h.pm
theorem kU(hj:j≤arr.size):Rl arr (mirror arr i j ((j-i) / 2)) i j:=⟨mirror_perm ..,fun k hk=>by rw [getElem?_mirror_all hj,aa (by lia)]⟩
theorem AE(hj:j≤arr.size)(h1:i≤k)(h2:k<j):vA key (mirror arr i j ((j-i) / 2)) k=vA key arr (i+j-1-k):=by unfold vA;rw [kT,kT,getElem?_mirror_all hj,ae ⟨h1,h2⟩]
abbrev ba (κ:SortKind) (arr:Array Keyed) (pend:Array (Nat×Nat×Nat)) (g:Nat):SortSt:=SortSt.mk' κ arr pend g none
variable {arr:Array Keyed} {pend:Array (Nat×Nat×Nat)} {g:Nat}
theorem kW(h:jY prog w A s κ key Ok)(ok:fH Ok arr)(hi:i<arr.size)(hj:j<arr.size){Q:Option Bool→SortSt→Prop}(q:Q (some (decide (vA key arr i<vA key arr j))) (ba κ arr pend g)):wpS (model prog w) A E s (ltAt' i j) Q (ba κ arr pend g):=by rw [ltAt'_eq];refine ar (jf ?_);exact ar (bE hi (ar (bE hj (yc h (ok _ hi) (ok _ hj) rfl q))))
theorem nF{Q:Unit→SortSt→Prop}(q:Q () (ba κ (mirror arr i j ((j-i) / 2)) pend g)):wpS (model prog w) A E s (reverseSlice' i j) Q (ba κ arr pend g):=by rw [reverseSlice'_eq];exact ky q
variable {n:Nat}
theorem dc.more(h:dc key arr lo (lo+n))(n1:1≤n)(c:vA key arr (lo+n-1)≤vA key arr (lo+n)):dc key arr lo (lo+(n+1)):=fun i j h1 h2 h3=>by
 by_cases z:j<lo+n;·exact h i j h1 h2 z
 ·obtain rfl:j=lo+n:=by lia
  by_cases y:i=lo+n;·rw [y];exact mT _
  ·exact dz (h i (lo+n-1) h1 (by lia) (by lia)) c
theorem j7.more(h:j7 key arr lo (lo+n))(n1:1≤n)(c:vA key arr (lo+n)≤vA key arr (lo+n-1)):j7 key arr lo (lo+(n+1)):=fun i j h1 h2 h3=>by
 by_cases z:j<lo+n;·exact h i j h1 h2 z
 ·obtain rfl:j=lo+n:=by lia
  by_cases y:i=lo+n;·rw [y];exact mT _
  ·exact dz c (h i (lo+n-1) h1 (by lia) (by lia))
def yh(key:Keyed→Int)(arr:Array Keyed)(lo n q:Nat):Prop:=q+1≤n∧∀i,lo+n-(q+1)≤i→i<lo+n→vA key arr i=vA key arr (lo+n-1)
theorem AF{q:Nat}(hz:lo+n≤arr.size)(d:j7 key arr lo (lo+n))(e:yh key arr lo n q):j7 key (mirror arr (lo+n-(q+1)) (lo+n) ((lo+n-(lo+n-(q+1))) / 2)) lo (lo+n)∧∀k,vA key (mirror arr (lo+n-(q+1)) (lo+n) ((lo+n-(lo+n-(q+1))) / 2)) k=vA key arr k:=by
 have hv:∀k,vA key (mirror arr (lo+n-(q+1)) (lo+n) ((lo+n-(lo+n-(q+1))) / 2)) k=vA key arr k:=fun k=>by
  by_cases z:lo+n-(q+1)≤k∧k<lo+n;·rw [AE hz z.1 z.2,e.2 _ (by have:=e.1;lia) (by lia),e.2 k z.1 z.2]
  ·exact (kU hz).v (by lia)
 refine ⟨fun i j h1 h2 h3=>?_,hv⟩;rw [hv,hv];exact d i j h1 h2 h3
theorem AG(hz:lo+n≤arr.size)(d:j7 key arr lo (lo+n)):dc key (mirror arr lo (lo+n) ((lo+n-lo) / 2)) lo (lo+n):=fun i j h1 h2 h3=>by
 rw [AE hz h1 (by lia),AE hz (by lia) h3]
 exact d _ _ (by lia) (by lia) (by lia)
end
section
variable {prog:Program} {w:World} {A:Around} {E:aM} {s:Shared} {κ:SortKind} {key:Keyed→Int} {Ok:Keyed→Prop} {arr:Array Keyed} {pend:Array (Nat×Nat×Nat)} {g:Nat}
variable {lo cF:Nat}
theorem yi(h:jY prog w A s κ key Ok)(ok:fH Ok arr){m:Nat}(hz:lo+cF≤arr.size)(m1:1≤m)(mn:m≤cF)(sg:dc key arr lo (lo+m)){body:Nat→Option (Option Nat)×Nat→StateT SortSt Sem (ForInStep (Option (Option Nat)×Nat))}{R:Option (Option Nat)×Nat→SortSt→Prop}
  (hb:∀x n (R:ForInStep (Option (Option Nat)×Nat)→SortSt→Prop),1≤n→n<cF→R (if vA key arr (lo+n)<vA key arr (lo+n-1) then .done (none,n) else .yield (none,n+1)) (ba κ arr pend g)→wpS (model prog w) A E s (body x (none,n)) R (ba κ arr pend g))
  (k:∀n,m≤n→n≤cF→dc key arr lo (lo+n)→(n<cF→vA key arr (lo+n)<vA key arr (lo+n-1))→R (none,n) (ba κ arr pend g)) :
  wpS (model prog w) A E s (forIn [m:cF] (none,m) body) R (ba κ arr pend g):=by
 refine fR (I:=fun x c aw=>aw=ba κ arr pend g∧c=(none,x)∧m≤x∧x≤cF∧dc key arr lo (lo+x)) ?_ ?_ ⟨rfl,rfl,ax _,mn,sg⟩
 ·rintro x c aw _ hx ⟨rfl,rfl,g1,g2,g3⟩
  refine hb x x _ (by lia) hx ?_
  by_cases z:vA key arr (lo+x)<vA key arr (lo+x-1)
  ·rw [ae z]
   exact k x g1 g2 g3 fun _=>z
  ·rw [aa z]
   exact ⟨rfl,rfl,by lia,by lia,g3.more (by lia) (Int.not_lt.mp z)⟩
 ·rintro c aw ⟨rfl,rfl,g1,g2,g3⟩
  have e:max m cF=cF:=by lia
  rw [e] at g3 ⊢;exact k cF mn (ax _) g3 fun z=>absurd z (eE _)
theorem RR(h:jY prog w A s κ key Ok)(ok:fH Ok arr)(hz:lo+cF≤arr.size)(n1:1≤cF){Q:Option Nat→SortSt→Prop}
  (k:∀n aU,1≤n→n≤cF→Rl arr aU lo (lo+cF)→dc key aU lo (lo+n)→Q (some n) (ba κ aU pend g)):wpS (model prog w) A E s (countRun' lo cF) Q (ba κ arr pend g):=by
 rw [countRun'_eq];refine ar (yi h ok hz (ax 1) n1 (fun i j h1 h2 h3=>by rw [show i=j by lia];exact mT _) ?_ fun n m1 mn sg br=>?_)
 ·intro x n R a1 a2 r
  dsimp only;refine ar (kW h ok (by lia) (by lia) ?_)
  dsimp only;by_cases z:vA key arr (lo+n)<vA key arr (lo+n-1)
  ·rw [ae z] at r
   rw [a_ z,ae rfl];exact aq r
  ·rw [aa z] at r
   rw [bL z,aa (by simp)]
   exact aq r
 dsimp only;by_cases e1:(n == cF)=true
 ·rw [ae e1]
  exact aq (k n arr m1 mn (Rl.refl ..) sg)
 rw [aa e1];have aV:n<cF:=by
  have:n≠cF:=fun e=>e1 (by simp [e])
  lia
 have JB:=br aV;by_cases e2:n>1
 ·rw [ae e2]
  refine ar (kW h ok (by lia) (by lia) ?_)
  dsimp only;by_cases z:vA key arr lo<vA key arr (lo+n-1)
  ·rw [a_ z,ae rfl]
   exact aq (k n arr m1 mn (Rl.refl ..) sg)
  ·rw [bL z,aa (by simp)]
   refine ar (nF ?_);have ev:∀i,lo≤i→i<lo+n→vA key arr i=vA key arr (lo+n-1):=fun i h1 h2=>by
    have a1:=sg lo i (ax _) h1 h2;have a2:=sg i (lo+n-1) h1 (by lia) (by lia)
    lia
   have hv:∀i,vA key (mirror arr lo (lo+n) ((lo+n-lo) / 2)) i=vA key arr i:=fun i=>by
    by_cases y:lo≤i∧i<lo+n;·rw [AE (by lia) y.1 y.2,ev _ (by lia) (by lia),ev i y.1 y.2]
    ·exact (kU (by lia)).v (by lia)
   have d1:j7 key (mirror arr lo (lo+n) ((lo+n-lo) / 2)) lo (lo+n):=fun i j h1 h2 h3=>by
    rw [hv,hv,ev i h1 (by lia),ev j (by lia) h3]
    exact mT _
   have AH:Rl arr (mirror arr lo (lo+n) ((lo+n-lo) / 2)) lo (lo+cF):=(kU (by lia)).wide (ax _) (by lia)
   have JD:vA key (mirror arr lo (lo+n) ((lo+n-lo) / 2)) (lo+n)<vA key (mirror arr lo (lo+n) ((lo+n-lo) / 2)) (lo+n-1):=by rw [hv,hv];exact JB
   generalize mirror arr lo (lo+n) ((lo+n-lo) / 2)=RS at d1 AH JD ⊢;refine ar (wpS_lift (pY ⟨rfl,?_⟩))
   refine ar (gv (fR (I:=fun x c aw=>∃(aG:Array Keyed) (q:Nat),aw=ba κ aG pend g∧c=(none,x,q)∧Rl arr aG lo (lo+cF)∧j7 key aG lo (lo+x)∧yh key aG lo x q∧x≤cF∧1≤x)
    (Q:=fun c aw=>∃(aG:Array Keyed) (n q:Nat),aw=ba κ aG pend g∧c=(none,n,q)∧Rl arr aG lo (lo+cF)∧j7 key aG lo (lo+n)∧yh key aG lo n q∧n≤cF∧1≤n) ?_ ?_ ⟨RS,0,rfl,rfl,AH,d1.more (by lia) (dm JD),⟨by lia,fun i h1 h2=>by rw [show i=lo+(n+1)-1 by lia]⟩,by lia,by lia⟩) ?_)
   ·rintro x c aw _ hx ⟨aG,q,rfl,rfl,dS,d2,e2,x1,x2⟩
    have gY:=dS.ok ok;have z2:=dS.size;dsimp only;refine ar (kW h gY (by lia) (by lia) ?_)
    dsimp only;by_cases z:vA key aG (lo+x)<vA key aG (lo+x-1)
    ·rw [a_ z,ae rfl]
     by_cases y:q>0
     ·rw [ae y]
      refine ar (nF (aq ?_));obtain ⟨d3,hv⟩:=AF (by lia) d2 e2
      refine ⟨_,0,rfl,rfl,dS.trans ((kU (by lia)).wide (by have:=e2.1;lia) (by lia)),d3.more (by lia) (by rw [hv,hv];exact dm z),⟨by lia,fun i h1 h2=>by rw [show i=lo+(x+1)-1 by lia]⟩,by lia,by lia⟩
     ·rw [aa y]
      exact aq ⟨_,0,rfl,rfl,dS,d2.more (by lia) (dm z),⟨by lia,fun i h1 h2=>by rw [show i=lo+(x+1)-1 by lia]⟩,by lia,by lia⟩
    ·rw [bL z,aa (by simp)]
     refine ar (kW h gY (by lia) (by lia) ?_)
     dsimp only;by_cases y:vA key aG (lo+x-1)<vA key aG (lo+x)
     ·rw [a_ y,ae rfl]
      exact aq ⟨_,_,_,rfl,rfl,dS,d2,e2,x1,x2⟩
     ·rw [bL y,aa (by simp)]
      have ev:vA key aG (lo+x)=vA key aG (lo+x-1):=by lia
      refine aq ⟨_,_,rfl,rfl,dS,d2.more (by lia) (by lia),⟨by have:=e2.1;lia,fun i h1 h2=>?_⟩,by lia,by lia⟩
      rw [show lo+(x+1)-1=lo+x by lia]
      by_cases w:i=lo+x;·rw [w]
      ·rw [ev]
       exact e2.2 i (by lia) (by lia)
   ·rintro c aw ⟨aG,q,rfl,rfl,dS,d2,e2,x1,x2⟩
    exact ⟨aG,_,q,rfl,rfl,dS,d2,e2,x1,x2⟩
   ·rintro c aw ⟨aG,n2,q2,rfl,rfl,dS,d2,e2,x1,x2⟩
    have z2:=dS.size;dsimp only;by_cases y:q2>0
    ·rw [ae y]
     obtain ⟨d3,hv⟩:=AF (by lia) d2 e2
     refine ar (nF (ar (nF ?_)));have kX:=dS.trans ((kU (arr:=aG) (i:=lo+n2-(q2+1)) (j:=lo+n2) (by lia)).wide (by have:=e2.1;lia) (show lo+n2≤lo+cF by lia))
     generalize mirror aG (lo+n2-(q2+1)) (lo+n2) _=cM at d3 kX ⊢;have z3:=kX.size;have gE:=AG (by lia) d3
     have bU:=kX.trans ((kU (arr:=cM) (i:=lo) (j:=lo+n2) (by lia)).wide (ax lo) (show lo+n2≤lo+cF by lia))
     generalize mirror cM lo (lo+n2) _=aX at gE bU ⊢;have kY:=Rl.ok bU ok;have z4:=Rl.size bU;refine ar (yi h kY (by lia) (by lia) (by lia) gE ?_ fun m m1 mn qO _=>aq (k m aX (by lia) mn bU qO))
     intro x n R a1 a2 r;dsimp only;refine ar (kW h kY (by lia) (by lia) ?_)
     dsimp only;by_cases z:vA key aX (lo+n)<vA key aX (lo+n-1)
     ·rw [ae z] at r
      rw [a_ z,ae rfl];exact aq r
     ·rw [aa z] at r
      rw [bL z,aa (by simp)]
      exact aq r
    ·rw [aa y]
     refine ar (nF ?_);have gE:=AG (by lia) d2
     have bU:=dS.trans ((kU (arr:=aG) (i:=lo) (j:=lo+n2) (by lia)).wide (ax lo) (show lo+n2≤lo+cF by lia))
     generalize mirror aG lo (lo+n2) _=aX at gE bU ⊢;have kY:=Rl.ok bU ok;have z4:=Rl.size bU;refine ar (yi h kY (by lia) (by lia) (by lia) gE ?_ fun m m1 mn qO _=>aq (k m aX (by lia) mn bU qO))
     intro x n R a1 a2 r;dsimp only;refine ar (kW h kY (by lia) (by lia) ?_)
     dsimp only;by_cases z:vA key aX (lo+n)<vA key aX (lo+n-1)
     ·rw [ae z] at r
      rw [a_ z,ae rfl];exact aq r
     ·rw [aa z] at r
      rw [bL z,aa (by simp)]
      exact aq r
 ·rw [aa e2]
  have d1:j7 key arr lo (lo+n):=fun i j h1 h2 h3=>by
   rw [show i=j by lia]
   exact mT _
  have AH:Rl arr arr lo (lo+cF):=Rl.refl ..;refine ar (wpS_lift (pY ⟨rfl,?_⟩))
  refine ar (gv (fR (I:=fun x c aw=>∃(aG:Array Keyed) (q:Nat),aw=ba κ aG pend g∧c=(none,x,q)∧Rl arr aG lo (lo+cF)∧j7 key aG lo (lo+x)∧yh key aG lo x q∧x≤cF∧1≤x)
   (Q:=fun c aw=>∃(aG:Array Keyed) (n q:Nat),aw=ba κ aG pend g∧c=(none,n,q)∧Rl arr aG lo (lo+cF)∧j7 key aG lo (lo+n)∧yh key aG lo n q∧n≤cF∧1≤n) ?_ ?_ ⟨arr,0,rfl,rfl,AH,d1.more (by lia) (dm JB),⟨by lia,fun i h1 h2=>by rw [show i=lo+(n+1)-1 by lia]⟩,by lia,by lia⟩) ?_)
  ·rintro x c aw _ hx ⟨aG,q,rfl,rfl,dS,d2,e2,x1,x2⟩
   have gY:=dS.ok ok;have z2:=dS.size;dsimp only;refine ar (kW h gY (by lia) (by lia) ?_)
   dsimp only;by_cases z:vA key aG (lo+x)<vA key aG (lo+x-1)
   ·rw [a_ z,ae rfl]
    by_cases y:q>0
    ·rw [ae y]
     refine ar (nF (aq ?_));obtain ⟨d3,hv⟩:=AF (by lia) d2 e2
     refine ⟨_,0,rfl,rfl,dS.trans ((kU (by lia)).wide (by have:=e2.1;lia) (by lia)),d3.more (by lia) (by rw [hv,hv];exact dm z),⟨by lia,fun i h1 h2=>by rw [show i=lo+(x+1)-1 by lia]⟩,by lia,by lia⟩
    ·rw [aa y]
     exact aq ⟨_,0,rfl,rfl,dS,d2.more (by lia) (dm z),⟨by lia,fun i h1 h2=>by rw [show i=lo+(x+1)-1 by lia]⟩,by lia,by lia⟩
   ·rw [bL z,aa (by simp)]
    refine ar (kW h gY (by lia) (by lia) ?_)
    dsimp only;by_cases y:vA key aG (lo+x-1)<vA key aG (lo+x)
    ·rw [a_ y,ae rfl]
     exact aq ⟨_,_,_,rfl,rfl,dS,d2,e2,x1,x2⟩
    ·rw [bL y,aa (by simp)]
     have ev:vA key aG (lo+x)=vA key aG (lo+x-1):=by lia
     refine aq ⟨_,_,rfl,rfl,dS,d2.more (by lia) (by lia),⟨by have:=e2.1;lia,fun i h1 h2=>?_⟩,by lia,by lia⟩
     rw [show lo+(x+1)-1=lo+x by lia]
     by_cases w:i=lo+x;·rw [w]
     ·rw [ev]
      exact e2.2 i (by lia) (by lia)
  ·rintro c aw ⟨aG,q,rfl,rfl,dS,d2,e2,x1,x2⟩
   exact ⟨aG,_,q,rfl,rfl,dS,d2,e2,x1,x2⟩
  ·rintro c aw ⟨aG,n2,q2,rfl,rfl,dS,d2,e2,x1,x2⟩
   have z2:=dS.size;dsimp only;by_cases y:q2>0
   ·rw [ae y]
    obtain ⟨d3,hv⟩:=AF (by lia) d2 e2
    refine ar (nF (ar (nF ?_)));have kX:=dS.trans ((kU (arr:=aG) (i:=lo+n2-(q2+1)) (j:=lo+n2) (by lia)).wide (by have:=e2.1;lia) (show lo+n2≤lo+cF by lia))
    generalize mirror aG (lo+n2-(q2+1)) (lo+n2) _=cM at d3 kX ⊢;have z3:=kX.size;have gE:=AG (by lia) d3
    have bU:=kX.trans ((kU (arr:=cM) (i:=lo) (j:=lo+n2) (by lia)).wide (ax lo) (show lo+n2≤lo+cF by lia))
    generalize mirror cM lo (lo+n2) _=aX at gE bU ⊢;have kY:=Rl.ok bU ok;have z4:=Rl.size bU;refine ar (yi h kY (by lia) (by lia) (by lia) gE ?_ fun m m1 mn qO _=>aq (k m aX (by lia) mn bU qO))
    intro x n R a1 a2 r;dsimp only;refine ar (kW h kY (by lia) (by lia) ?_)
    dsimp only;by_cases z:vA key aX (lo+n)<vA key aX (lo+n-1)
    ·rw [ae z] at r
     rw [a_ z,ae rfl];exact aq r
    ·rw [aa z] at r
     rw [bL z,aa (by simp)]
     exact aq r
   ·rw [aa y]
    refine ar (nF ?_);have gE:=AG (by lia) d2
    have bU:=dS.trans ((kU (arr:=aG) (i:=lo) (j:=lo+n2) (by lia)).wide (ax lo) (show lo+n2≤lo+cF by lia))
    generalize mirror aG lo (lo+n2) _=aX at gE bU ⊢;have kY:=Rl.ok bU ok;have z4:=Rl.size bU;refine ar (yi h kY (by lia) (by lia) (by lia) gE ?_ fun m m1 mn qO _=>aq (k m aX (by lia) mn bU qO))
    intro x n R a1 a2 r;dsimp only;refine ar (kW h kY (by lia) (by lia) ?_)
    dsimp only;by_cases z:vA key aX (lo+n)<vA key aX (lo+n-1)
    ·rw [ae z] at r
     rw [a_ z,ae rfl];exact aq r
    ·rw [aa z] at r
     rw [bL z,aa (by simp)]
     exact aq r
end
section
variable {prog:Program} {w:World} {A:Around} {E:aM} {s:Shared} {κ:SortKind} {key:Keyed→Int} {Ok:Keyed→Prop} {arr:Array Keyed} {pend:Array (Nat×Nat×Nat)} {g:Nat}
theorem RT{Q:Unit→SortSt→Prop}(q:Q () (ba κ (bubble arr i (i-j)) pend g)):wpS (model prog w) A E s (moveDown' i j) Q (ba κ arr pend g):=by rw [moveDown'_eq];exact ky q
variable {d:Nat}
theorem JE{k:Nat}(hi:i<arr.size)(hd:d≤i):vA key (bubble arr i d) k=if k=i-d then vA key arr i else if i-d<k∧k≤i then vA key arr (k-1) else vA key arr k:=by
 unfold vA;rw [kT,getElem?_bubble hi d hd,kT arr i,kT arr (k-1),kT arr k];by_cases a:k=i-d;·rw [ae a,ae a]
 ·rw [aa a,aa a]
  by_cases b:i-d<k∧k≤i;·rw [ae b,ae b]
  ·rw [aa b,aa b]
variable {lo:Nat}
theorem RU{hi:Nat}(h:i<arr.size)(hd:d≤i)(h1:lo≤i-d)(h2:i<hi):Rl arr (bubble arr i d) lo hi:=⟨bubble_perm ..,fun k hk=>by rw [getElem?_bubble h d hd,aa (by lia),aa (by lia)]⟩
theorem RV(h:jY prog w A s κ key Ok)(ok:fH Ok arr){n m:Nat}(hz:lo+n≤arr.size)(m1:1≤m)(mn:m≤n)(sg:dc key arr lo (lo+m)){Q:Bool→SortSt→Prop}
  (k:∀aU,Rl arr aU lo (lo+n)→dc key aU lo (lo+n)→Q true (ba κ aU pend g)):wpS (model prog w) A E s (binarySort' lo n m) Q (ba κ arr pend g):=by
 rw [binarySort'_eq];have em:max m 1=m:=by lia
 rw [em]
 refine ar (gv (fR (I:=fun x c aw=>∃aG:Array Keyed,aw=ba κ aG pend g∧c=(none,())∧Rl arr aG lo (lo+n)∧dc key aG lo (lo+x)∧m≤x∧x≤n)
  (Q:=fun c aw=>∃aG:Array Keyed,aw=ba κ aG pend g∧c=(none,())∧Rl arr aG lo (lo+n)∧dc key aG lo (lo+n)) ?_ ?_ ⟨arr,rfl,rfl,Rl.refl ..,sg,ax _,mn⟩) ?_)
 ·rintro x c aw _ hx ⟨aG,rfl,rfl,rl,sg,x1,x2⟩
  have gY:=rl.ok ok;have z2:=rl.size;dsimp only
  refine ar (gv (fR (I:=fun y c aw=>∃l r:Nat,aw=ba κ aG pend g∧c=(none,l,r)∧l≤r∧r≤x∧r-l+y≤x∧(∀i,i<l→vA key aG (lo+i)≤vA key aG (lo+x))∧(∀i,r≤i→i<x→vA key aG (lo+x)≤vA key aG (lo+i)))
   (Q:=fun c aw=>∃l:Nat,aw=ba κ aG pend g∧c=(none,l,l)∧l≤x∧(∀i,i<l→vA key aG (lo+i)≤vA key aG (lo+x))∧(∀i,l≤i→i<x→vA key aG (lo+x)≤vA key aG (lo+i))) ?_ ?_ ⟨0,x,rfl,rfl,by lia,ax _,show x-0+0≤x by lia,fun i hi=>absurd hi (je _),fun i h1 h2=>by lia⟩) ?_)
  ·rintro y c aw _ hy ⟨l,r,rfl,rfl,g1,g2,g3,g4,g5⟩
   dsimp only;by_cases z:l≥r
   ·rw [ae z]
    obtain rfl:l=r:=by lia
    exact aq ⟨l,rfl,rfl,g2,g4,g5⟩
   ·rw [aa z]
    refine ar (kW h gY (by lia) (by lia) ?_)
    dsimp only;by_cases w:vA key aG (lo+x)<vA key aG (lo+(l+r) / 2)
    ·rw [a_ w,ae rfl]
     exact aq ⟨l,_,rfl,rfl,by lia,by lia,by lia,g4,fun i h1 h2=>dz (dm w) (sg _ _ (by lia) (by lia) (by lia))⟩
    ·rw [bL w,aa (by simp)]
     exact aq ⟨_,r,rfl,rfl,by lia,g2,by lia,fun i h1=>dz (sg _ _ (by lia) (by lia) (by lia)) (Int.not_lt.mp w),g5⟩
  ·rintro c aw ⟨l,r,rfl,rfl,g1,g2,g3,g4,g5⟩
   have:max 0 x=x:=by lia
   obtain rfl:l=r:=by lia
   exact ⟨l,rfl,rfl,g2,g4,g5⟩
  ·rintro c aw ⟨l,rfl,rfl,g2,g4,g5⟩
   dsimp only;refine ar (RT (aq ?_));have ed:lo+x-(lo+l)=x-l:=by lia
   rw [ed];refine ⟨_,rfl,rfl,rl.trans (RU (by lia) (by lia) (by lia) (by lia)),fun i j h1 h2 h3=>?_,by lia,by lia⟩
   have e0:lo+x-(x-l)=lo+l:=by lia
   rw [JE (by lia) (by lia),JE (by lia) (by lia),e0]
   have f4:∀i,lo≤i→i<lo+l→vA key aG i≤vA key aG (lo+x):=fun i a b=>by have:=g4 (i-lo) (by lia);rwa [show lo+(i-lo)=i by lia] at this
   have f5:∀i,lo+l≤i→i<lo+x→vA key aG (lo+x)≤vA key aG i:=fun i a b=>by have:=g5 (i-lo) (by lia) (by lia);rwa [show lo+(i-lo)=i by lia] at this
   by_cases a1:i=lo+l
   ·rw [ae a1]
    by_cases b1:j=lo+l;·rw [ae b1];exact mT _
    ·rw [aa b1,ae (by lia)]
     exact f5 _ (by lia) (by lia)
   ·rw [aa a1]
    by_cases a2:lo+l<i∧i≤lo+x
    ·rw [ae a2,aa (by lia),ae (by lia)]
     exact sg _ _ (by lia) (by lia) (by lia)
    ·rw [aa a2]
     by_cases b1:j=lo+l
     ·rw [ae b1]
      exact f4 i h1 (by lia)
     ·rw [aa b1]
      by_cases b2:lo+l<j∧j≤lo+x
      ·rw [ae b2]
       exact dz (f4 i h1 (by lia)) (f5 _ (by lia) (by lia))
      ·rw [aa b2]
       exact sg _ _ (by lia) (by lia) (by lia)
 ·rintro c aw ⟨aG,rfl,rfl,rl,sg,x1,x2⟩
  have:max m n=n:=by lia
  rw [this] at sg;exact ⟨aG,rfl,rfl,rl,sg⟩
 ·rintro c aw ⟨aG,rfl,rfl,rl,sg⟩
  exact aq (k aG rl sg)
end
theorem RW(i:Nat):mergeAt' i=(do
 let s ←get
 let (some (sa,na,power),some (sb,nb,_)):=((pendingOf s)[i]?,(pendingOf s)[i+1]?) | unsupported "internal:list.sort.pending"
 set (setPending s (((pendingOf s).setIfInBounds i (sa,na+nb,power)).eraseIdxIfInBounds (i+1)))
 let some k ←oU false (←elem' (arrOf s) sb) (arrOf s) sa na 0 | return false
 let (sa,na):=(sa+k,na-k)
 if na == 0 then return true
 let some nb ←oU true (←elem' (arrOf s) (sa+na-1)) (arrOf s) sb nb (nb-1) | return false
 if nb == 0 then return true
 let x:=(arrOf s).extract sa sb
 let y:=(arrOf s).extract sb (sb+nb)
 let merged ←if na≤nb then D4 x y else D5 x y
 modify fun s=>setArr s (merged.toList.zipIdx.foldl (fun a (p,j)=>a.setIfInBounds (sa+j) p) (arrOf s))
 return (failedOf (←get)).isNone):=rfl
def putL(m:List Keyed)(o:Nat)(arr:Array Keyed)(n:Nat):Array Keyed:=(m.zipIdx n).foldl (fun a (p,j)=>a.setIfInBounds (o+j) p) arr
theorem JF(m:List Keyed)(o:Nat):∀(arr:Array Keyed) (n k:Nat),o+n+m.length≤arr.size→(putL m o arr n)[k]?=if o+n≤k∧k<o+n+m.length then m[k-(o+n)]? else arr[k]?:=by
 induction m with
 | nil=>
  intro arr n k _;rw [aa (by simp)]
  rfl
 | cons x m ih=>
  intro arr n k hz;rw [dY] at hz ⊢;show (putL m o (arr.setIfInBounds (o+n) x) (n+1))[k]?=_;rw [ih _ _ _ (by simp;lia)]
  by_cases a:o+(n+1)≤k∧k<o+(n+1)+m.length
  ·rw [ae a,ae (by lia),show k-(o+n)=(k-(o+(n+1)))+1 by lia]
   rfl
  ·rw [aa a]
   by_cases b:k=o+n
   ·subst b
    rw [ae (by lia),wY]
    simp [show o+n<arr.size by lia]
   ·rw [aa (by lia)]
    rw [Array.getElem?_setIfInBounds_ne (by lia)]
theorem RX{o:Nat}{arr:Array Keyed}(hz:o+m.length≤arr.size):(putL m o arr 0).toList=arr.toList.take o++m++arr.toList.drop (o+m.length):=by
 refine w5 fun k=>?_;have e:(putL m o arr 0).toList[k]?=(putL m o arr 0)[k]?:=by simp
 rw [e,JF m o arr 0 k (by lia),w6]
 by_cases a:k<o
 ·rw [aa (by lia),gr,iO (by simp;lia),List.getElem?_take_of_lt a]
  simp
 ·by_cases b:k<o+m.length
  ·rw [ae (by lia),gr,iM (by simp;lia),iO (by simp;lia)]
   congr 1
   simp;lia
  ·rw [aa (by lia),iM (by simp;lia),List.getElem?_drop]
   have:o+m.length+(k-(arr.toList.take o++m).length)=k:=by simp;lia
   rw [this];simp
section
variable {prog:Program} {w:World} {A:Around} {E:aM} {s:Shared} {κ:SortKind} {key:Keyed→Int} {Ok:Keyed→Prop} {arr:Array Keyed} {pend:Array (Nat×Nat×Nat)} {g:Nat}
variable {lo hi:Nat}
theorem JG(h:dc key arr lo hi)(hz:hi≤arr.size):bt key (arr.extract lo hi).toList:=by
 unfold bt;rw [oq];intro i j bF hj D_;have h1:i<hi-lo∧j<hi-lo:=by simp at bF hj;lia
 have:=h (lo+i) (lo+j) (by lia) (by lia) (by lia)
 unfold vA at this;simpa [Array.getD,show lo+i<arr.size by lia,show lo+j<arr.size by lia] using this
theorem Ed(hz:hi≤arr.size)(bF:lo+i<hi):(arr.extract lo hi).getD i nn=arr.getD (lo+i) nn:=by simp [Array.getD,show lo+i<arr.size by lia,show i<min hi arr.size-lo by lia]
theorem JH(ok:fH Ok arr)(hz:hi≤arr.size):fH Ok (arr.extract lo hi):=fun i bF=>by
 have:lo+i<hi:=by simp at bF;lia
 rw [Ed hz this];exact ok _ (by lia)
theorem ext_mem(hz:hi≤arr.size){x:Keyed}(hx:x∈(arr.extract lo hi).toList):∃j,lo≤j∧j<hi∧x=arr.getD j nn:=nE hz hx
theorem RY{σ:Type}{st aw:σ}{Q:PUnit→σ→Prop}{M:Model}(q:Q ⟨⟩ aw):wpS M A E s (set aw:StateT σ Sem PUnit) Q st:=by unfold wpS;rw [StateT.run_set];exact dB ⟨rfl,q⟩
variable {sa na nb:Nat}
theorem RZ{sb bw ck:Nat}{m:Array Keyed}(hz:sb+nb≤arr.size)(h0:sa+na=sb)(hk:bw≤na)(hb:ck≤nb)(pm:m.toList.Perm ((arr.extract (sa+bw) sb).toList++(arr.extract sb (sb+ck)).toList))(sm:bt key m.toList)
  (s1:dc key arr sa sb) (s2:dc key arr sb (sb+nb)) (R0:bw<na) (JI:1≤nb)
  (c1:∀i,i<bw→vA key arr (sa+i)≤vA key arr sb) (c2:∀i,ck≤i→i<nb→vA key arr (sb-1)≤vA key arr (sb+i)) :
  Rl arr (putL m.toList (sa+bw) arr 0) sa (sb+nb)∧dc key (putL m.toList (sa+bw) arr 0) sa (sb+nb):=by
 have lm:m.toList.length=(na-bw)+ck:=by rw [pm.length_eq,di,jZ,jZ];simp;lia
 have hsz:sa+bw+m.toList.length≤arr.size:=by lia
 have at':=JF m.toList (sa+bw) arr 0;have rl:Rl arr (putL m.toList (sa+bw) arr 0) sa (sb+nb):=by
  refine ⟨pZ.mpr ?_,fun k fg=>?_⟩
  ·rw [RX hsz]
   have e:arr.toList=arr.toList.take (sa+bw)++((arr.extract (sa+bw) sb).toList++(arr.extract sb (sb+ck)).toList)++arr.toList.drop (sa+bw+m.toList.length):=by
    rw [jZ,jZ,show sa+bw+m.toList.length=sb+ck by lia,show sb+ck-sb=ck by lia]
    have t1:arr.toList.drop (sa+bw)=(arr.toList.drop (sa+bw)).take (sb-(sa+bw))++arr.toList.drop sb:=by
     have:=(oo (sb-(sa+bw)) (arr.toList.drop (sa+bw))).symm;rw [List.drop_drop,show sa+bw+(sb-(sa+bw))=sb by lia] at this
     exact this
    have t2:arr.toList.drop sb=(arr.toList.drop sb).take ck++arr.toList.drop (sb+ck):=by have:=(oo ck (arr.toList.drop sb)).symm;rw [List.drop_drop] at this;exact this
    have t0:=(oo (sa+bw) arr.toList).symm;rw [t1,t2] at t0;rw [gr,gr];exact t0
   refine List.Perm.trans ?_ (List.Perm.of_eq e.symm);exact List.Perm.append_right _ (C1 _ pm)
  ·rw [at' k (by lia),aa (by lia)]
 have vo:∀k,k<sa+bw∨sb+ck≤k→vA key (putL m.toList (sa+bw) arr 0) k=vA key arr k:=fun k fg=>by unfold vA;rw [kT,at' k (by lia),aa (by lia),kT]
 have vm:∀k,sa+bw≤k→k<sb+ck→∃hj:k-(sa+bw)<m.toList.length,vA key (putL m.toList (sa+bw) arr 0) k=key (m.toList[k-(sa+bw)]'hj):=fun k h1 h2=>by
  have hj:k-(sa+bw)<m.toList.length:=by lia
  refine ⟨hj,?_⟩;unfold vA;rw [kT,at' k (by lia),ae (by lia),w6,bu hj]
  rfl
 have vq:∀k,sa+bw≤k→k<sb+ck→∃q,sa+bw≤q∧q<sb+ck∧vA key (putL m.toList (sa+bw) arr 0) k=vA key arr q:=fun k h1 h2=>by
  obtain ⟨hj,e⟩:=vm k h1 h2;have mm:=pm.mem_iff.mp (bT hj);rcases cZ.mp mm with mm | mm
  ·obtain ⟨q,q1,q2,eq⟩:=ext_mem (by lia) mm
   exact ⟨q,q1,by lia,by rw [e,eq];rfl⟩
  ·obtain ⟨q,q1,q2,eq⟩:=ext_mem (by lia) mm
   exact ⟨q,by lia,q2,by rw [e,eq];rfl⟩
 have d1:∀i,sa≤i→i<sa+bw→vA key arr i≤vA key arr sb:=fun i a b=>by
  have:=c1 (i-sa) (by lia)
  rwa [show sa+(i-sa)=i by lia] at this
 have d2:∀j,sb+ck≤j→j<sb+nb→vA key arr (sb-1)≤vA key arr j:=fun j a b=>by
  have:=c2 (j-sb) (by lia) (by lia)
  rwa [show sb+(j-sb)=j by lia] at this
 refine ⟨rl,fun i j h1 h2 h3=>?_⟩;by_cases i1:i<sa+bw
 ·rw [vo i (.inl i1)]
  by_cases j1:j<sa+bw
  ·rw [vo j (.inl j1)]
   exact s1 i j h1 h2 (by lia)
  ·by_cases j2:j<sb+ck
   ·obtain ⟨q,q1,q2,e⟩:=vq j (by lia) j2
    rw [e];by_cases q3:q<sb;·exact s1 i q h1 (by lia) q3
    ·exact dz (d1 i h1 i1) (s2 sb q (ax _) (by lia) (by lia))
   ·rw [vo j (.inr (by lia))]
    exact dz (d1 i h1 i1) (s2 sb j (ax _) (by lia) h3)
 ·by_cases i2:i<sb+ck
  ·by_cases j2:j<sb+ck
   ·obtain ⟨x1,e1⟩:=vm i (by lia) i2
    obtain ⟨x2,e2⟩:=vm j (by lia) j2
    rw [e1,e2];by_cases z:i=j;·subst z;exact mT _
    ·exact oq.mp sm _ _ x1 x2 (by lia)
   ·obtain ⟨q,q1,q2,e⟩:=vq i (by lia) i2
    rw [e,vo j (.inr (by lia))]
    by_cases q3:q<sb;·exact dz (s1 q (sb-1) (by lia) (by lia) (by lia)) (d2 j (by lia) h3)
    ·exact s2 q j (by lia) (by lia) h3
  ·rw [vo i (.inr (by lia)),vo j (.inr (by lia))]
   exact s2 i j (by lia) h2 h3
theorem R1(h:jY prog w A s κ key Ok)(ok:fH Ok arr){pw nG:Nat}(e1:pend[i]?=some (sa,na,pw))(e2:pend[i+1]?=some (sa+na,nb,nG))(R0:1≤na)(JI:1≤nb)(hz:sa+na+nb≤arr.size)
  (s1:dc key arr sa (sa+na)) (s2:dc key arr (sa+na) (sa+na+nb)) {Q:Bool→SortSt→Prop}
  (k:∀aU g',Rl arr aU sa (sa+na+nb)→dc key aU sa (sa+na+nb)→Q true (ba κ aU ((pend.setIfInBounds i (sa,na+nb,pw)).eraseIdxIfInBounds (i+1)) g')):wpS (model prog w) A E s (mergeAt' i) Q (ba κ arr pend g):=by
 rw [RW];refine ar (jf ?_);have oO:(pendingOf (ba κ arr pend g))[i]?=some (sa,na,pw):=e1;have qP:(pendingOf (ba κ arr pend g))[i+1]?=some (sa+na,nb,nG):=e2;rw [oO,qP];dsimp only;refine ar (RY ?_);refine ar (bE (by show sa+na<arr.size;lia) ?_)
 refine ar (iZ (f:=fun j=>bB false (vA key arr (sa+na)) (vA key arr (sa+j))) (fun j hj Q q=>iY (κ:=κ) h (by show sa+j<arr.size;lia) ok (ok _ (by lia)) rfl q) (by lia) ?_ fun t t1 t2 t3=>?_)
 ·intro i j h1 h2 h3
  have:vA key arr (sa+i)≤vA key arr (sa+na):=dz (s1 _ _ (by lia) (by lia) (by lia)) (mh h3)
  show (!decide (vA key arr (sa+na)<vA key arr (sa+i)))=true;simpa using this
 dsimp only;by_cases z1:(na-t == 0)=true
 ·rw [ae z1]
  have tz:t=na:=by have:=eq_of_beq z1;lia
  subst tz;refine aq (k arr g (Rl.refl ..) fun i j h1 h2 h3=>?_);by_cases i1:i<sa+t
  ·by_cases j1:j<sa+t
   ·exact s1 i j h1 h2 j1
   ·have:=mh (t2 (i-sa) (by lia))
    rw [show sa+(i-sa)=i by lia] at this
    exact dz this (s2 _ _ (ax _) (by lia) (by lia))
  ·exact s2 i j (by lia) h2 (by lia)
 rw [aa z1];have tn:t<na:=by
  have:na-t≠0:=fun e=>z1 (by simp [e])
  lia
 refine ar (bE (by show sa+t+(na-t)-1<arr.size;lia) ?_)
 have el:sa+t+(na-t)-1=sa+na-1:=by lia
 rw [el];refine ar (iZ (f:=fun j=>bB true (vA key arr (sa+na-1)) (vA key arr (sa+na+j))) (fun j hj Q q=>iY (κ:=κ) h (by show sa+na+j<arr.size;lia) ok (ok _ (by lia)) rfl q) (by lia) ?_ fun u u1 u2 u3=>?_)
 ·intro i j h1 h2 h3
  exact a_ (Int.lt_of_le_of_lt (s2 _ _ (by lia) (by lia) (by lia)) (iu h3))
 dsimp only;have JJ:=oW (t3 (na-1) (by lia) (by lia))
 rw [show sa+(na-1)=sa+na-1 by lia] at JJ
 by_cases z2:(u == 0)=true
 ·exfalso
  have:=i3 (u3 0 (by have:=eq_of_beq z2;lia) (by lia))
  rw [w6] at this;lia
 rw [aa z2];have un:1≤u:=by
  have:u≠0:=fun e=>z2 (by simp [e])
  lia
 have ox:=JH ok (lo:=sa+t) (hi:=sa+na) (by lia)
 have oy:=JH ok (lo:=sa+na) (hi:=sa+na+u) (by lia)
 have sx:bt key (arr.extract (sa+t) (sa+na)).toList:=JG (fun i j h1 h2 h3=>s1 i j (by lia) h2 h3) (by lia)
 have sy:bt key (arr.extract (sa+na) (sa+na+u)).toList:=JG (fun i j h1 h2 h3=>s2 i j h1 h2 (by lia)) (by lia)
 have zx:(arr.extract (sa+t) (sa+na)).size=na-t:=by simp;lia
 have zy:(arr.extract (sa+na) (sa+na+u)).size=u:=by simp;lia
 have h0:∀x∈(arr.extract (sa+t) (sa+na)).toList,key ((arr.extract (sa+na) (sa+na+u)).getD 0 nn)≤key x:=fun x hx=>by
  obtain ⟨j,j1,j2,rfl⟩:=ext_mem (by lia) hx
  rw [Ed (by lia) (by lia),w6]
  have:=oW (t3 (j-sa) (by lia) (by lia))
  rw [show sa+(j-sa)=j by lia] at this
  exact dm this
 have hl:∀y∈(arr.extract (sa+na) (sa+na+u)).toList,key y≤key ((arr.extract (sa+t) (sa+na)).getD ((arr.extract (sa+t) (sa+na)).size-1) nn):=fun y hy=>by
  obtain ⟨j,j1,j2,rfl⟩:=ext_mem (by lia) hy
  rw [zx,Ed (by lia) (by lia),show sa+t+(na-t-1)=sa+na-1 by lia]
  have:=iu (u2 (j-(sa+na)) (by lia))
  rw [show sa+na+(j-(sa+na))=j by lia] at this
  exact dm this
 have fin:∀(m:Array Keyed) (g':Nat),m.toList.Perm ((arr.extract (sa+t) (sa+na)).toList++(arr.extract (sa+na) (sa+na+u)).toList)→bt key m.toList→Q true (ba κ (putL m.toList (sa+t) arr 0) ((pend.setIfInBounds i (sa,na+nb,pw)).eraseIdxIfInBounds (i+1)) g'):=fun m g' pm sm=>by obtain ⟨rl,sg⟩:=RZ (sb:=sa+na) hz rfl (mP tn) u1 pm sm s1 s2 tn JI (fun i hi=>mh (t2 i hi)) (fun i h1 h2=>i3 (u3 i h1 h2));exact k _ g' rl sg
 refine fb (fun _=>?_) (fun _=>?_)
 ·refine ar (RL (κ:=κ) h ox oy sx sy (by lia) (by lia) h0 hl rfl fun m g' pm sm=>?_)
  exact ar (ky (ar (jf (aq (fin m g' pm sm)))))
 ·refine ar (RP (κ:=κ) h ox oy sx sy (by lia) (by lia) h0 hl rfl fun m g' pm sm=>?_)
  exact ar (ky (ar (jf (aq (fin m g' pm sm)))))
end
def cX(key:Keyed→Int)(arr:Array Keyed):List (Nat×Nat×Nat)→Nat→Nat→Prop
 | [],lo,hi=>lo=hi
 | p::r,lo,hi=>p.1=lo∧1≤p.2.1∧dc key arr lo (lo+p.2.1)∧cX key arr r (lo+p.2.1) hi
section
variable {key:Keyed→Int} {arr aU:Array Keyed}
theorem cX.le:∀{l:List (Nat×Nat×Nat)} {lo hi:Nat},cX key arr l lo hi→lo+l.length≤hi
 | [],lo,hi,h=>by have:lo=hi:=h;simp;lia
 | p::r,lo,hi,h=>by have:=cX.le h.2.2.2;have:=h.2.1;simp only [dY];lia
variable {hi:Nat}
theorem dc.cf{lo a b:Nat}(h:dc key arr lo hi)(rl:Rl arr aU a b)(d:hi≤a∨b≤lo):dc key aU lo hi:=fun i j h1 h2 h3=>by
 rw [rl.v (by lia),rl.v (by lia)]
 exact h i j h1 h2 h3
theorem cX.cf:∀{l:List (Nat×Nat×Nat)} {lo hi a b:Nat},cX key arr l lo hi→Rl arr aU a b→hi≤a∨b≤lo→cX key aU l lo hi
 | [],lo,hi,a,b,h,_,_=>h
 | p::r,lo,hi,a,b,h,rl,d=>by have:=h.2.2.2.le;refine ⟨h.1,h.2.1,h.2.2.1.cf rl (by lia),h.2.2.2.cf rl (by lia)⟩
theorem cX.snoc:∀{l:List (Nat×Nat×Nat)} {lo hi n pw:Nat},cX key arr l lo hi→1≤n→dc key arr hi (hi+n)→cX key arr (l++[(hi,n,pw)]) lo (hi+n)
 | [],lo,hi,n,pw,h,n1,s=>by obtain rfl:lo=hi:=h;exact ⟨rfl,n1,s,rfl⟩
 | p::r,lo,hi,n,pw,h,n1,s=>⟨h.1,h.2.1,h.2.2.1,h.2.2.2.snoc n1 s⟩
theorem cX.two:∀{l:List (Nat×Nat×Nat)} {lo hi i:Nat},cX key arr l lo hi→i+1<l.length→∃sa na pw nb nG,l[i]?=some (sa,na,pw)∧l[i+1]?=some (sa+na,nb,nG)∧1≤na∧1≤nb∧lo≤sa∧sa+na+nb≤hi∧dc key arr sa (sa+na)∧dc key arr (sa+na) (sa+na+nb) ∧
  ∀aU,Rl arr aU sa (sa+na+nb)→dc key aU sa (sa+na+nb)→cX key aU ((l.set i (sa,na+nb,pw)).eraseIdx (i+1)) lo hi
 | [],lo,hi,i,h,bF=>by simp at bF
 | [p],lo,hi,i,h,bF=>by simp at bF
 | p::q::r,lo,hi,0,h,_=>by
  obtain ⟨p1,p2,pw⟩:=p;obtain ⟨q1,q2,nG⟩:=q;obtain ⟨e1,n1,s1,e2,n2,s2,c⟩:=h;dsimp only at e1 n1 s1 e2 n2 s2 c;subst e1;subst e2;have:=c.le;refine ⟨p1,p2,pw,q2,nG,rfl,rfl,n1,n2,ax _,by lia,s1,s2,fun aU rl sg=>?_⟩
  show cX key aU ((p1,p2+q2,pw)::r) p1 hi;refine ⟨rfl,by show 1≤p2+q2;lia,by show dc key aU p1 (p1+(p2+q2));rw [←Nat.add_assoc];exact sg,?_⟩
  show cX key aU r (p1+(p2+q2)) hi;rw [←Nat.add_assoc];exact c.cf rl (.inr (ax _))
 | p::q::r,lo,hi,i+1,h,bF=>by
  obtain ⟨sa,na,pw,nb,nG,e1,e2,n1,n2,l1,l2,s1,s2,k⟩:=h.2.2.2.two (i:=i) (by simpa using bF)
  refine ⟨sa,na,pw,nb,nG,e1,e2,n1,n2,by lia,l2,s1,s2,fun aU rl sg=>?_⟩
  exact ⟨h.1,h.2.1,h.2.2.1.cf rl (.inl l1),k aU rl sg⟩
theorem cX.last:∀{l:List (Nat×Nat×Nat)} {lo hi pw:Nat},cX key arr l lo hi→cX key arr (l.modify (l.length-1) fun x=>(x.1,x.2.1,pw)) lo hi
 | [],lo,hi,pw,h=>h
 | [p],lo,hi,pw,h=>h
 | p::q::r,lo,hi,pw,h=>⟨h.1,h.2.1,h.2.2.1,h.2.2.2.last⟩
theorem cX.one{l:List (Nat×Nat×Nat)}(h:cX key arr l 0 hi)(hl:l.length≤1):dc key arr 0 hi:=by
 match l,h,hl with
 | [],h,_=>have:0=hi:=h;exact fun i j h1 h2 h3=>by lia
 | [p],h,_=>have:=h.2.2.1;have e:0+p.2.1=hi:=h.2.2.2;rw [←e];exact this
 | p::q::r,_,hl=>simp at hl
end
section
variable {prog:Program} {w:World} {A:Around} {E:aM} {s:Shared} {κ:SortKind} {key:Keyed→Int} {Ok:Keyed→Prop} {arr:Array Keyed} {pend:Array (Nat×Nat×Nat)} {g:Nat}
theorem Ee(h:jY prog w A s κ key Ok)(ok:fH Ok arr){hi:Nat}(c:cX key arr pend.toList 0 hi)(hz:hi≤arr.size)(bF:i+1<pend.size){Q:Bool→SortSt→Prop}
  (k:∀aU uC g',Rl arr aU 0 hi→cX key aU uC.toList 0 hi→uC.size+1=pend.size→Q true (ba κ aU uC g')):wpS (model prog w) A E s (mergeAt' i) Q (ba κ arr pend g):=by
 obtain ⟨sa,na,pw,nb,nG,e1,e2,n1,n2,l1,l2,s1,s2,kk⟩:=c.two (i:=i) (by simpa using bF)
 refine R1 h ok (by simpa using e1) (by simpa using e2) n1 n2 (by lia) s1 s2 fun aU g' rl sg=>?_
 refine k _ _ _ (rl.wide (bY _) l2) ?_ ?_
 ·have:=kk aU rl sg
  simpa using this
 ·rw [←gM,Array.toList_eraseIdxIfInBounds,List.length_eraseIdx,ae (by simpa using bF)]
  simp;lia
theorem R3(h:jY prog w A s κ key Ok)(ok:fH Ok arr){Q:Unit→SortSt→Prop}
  (k:∀aU aw,aU.Perm arr→dc key aU 0 arr.size→arrOf aw=aU→failedOf aw=none→Q () aw):wpS (model prog w) A E s sortRuns' Q (ba κ arr #[] g):=by
 rw [sortRuns'_eq];refine ar (jf ?_);dsimp only;have es:(arrOf (ba κ arr #[] g)).size=arr.size:=rfl;rw [es]
 refine ar (gv (fR (I:=fun x c aw=>∃(aG:Array Keyed) (eQ:Array (Nat×Nat×Nat)) (g2 lo:Nat),aw=ba κ aG eQ g2∧c=(none,lo)∧aG.Perm arr∧cX key aG eQ.toList 0 lo∧lo≤arr.size∧x≤lo)
  (Q:=fun c aw=>∃(aG:Array Keyed) (eQ:Array (Nat×Nat×Nat)) (g2:Nat),aw=ba κ aG eQ g2∧c=(none,arr.size)∧aG.Perm arr∧cX key aG eQ.toList 0 arr.size) ?_ ?_ ⟨arr,#[],g,0,rfl,rfl,Array.Perm.refl _,rfl,bY _,ax _⟩) ?_)
 ·rintro x c aw _ hx ⟨aG,eQ,g2,lo,rfl,rfl,mw,qQ,l1,l2⟩
  have gY:=uB ok mw;have z2:=mw.size_eq;dsimp only;by_cases z:lo≥arr.size
  ·rw [ae z]
   obtain rfl:lo=arr.size:=by lia
   exact aq ⟨aG,eQ,g2,rfl,rfl,mw,qQ⟩
  rw [aa z];refine ar (RR h gY (by lia) (by lia) fun n cM n1 nn kX sg=>?_)
  have eR:=kX.pm.trans mw;have Ef:=uB ok eR;have z3:=eR.size_eq;have i4:=qQ.cf kX (.inl (ax _));dsimp only;by_cases y:n<minRun' arr.size arr.size 0
  ·rw [ae y]
   refine ar (wpS_lift (pY ⟨rfl,?_⟩));refine ar (RV h Ef (n:=min (arr.size-lo) (minRun' arr.size arr.size 0)) (by lia) n1 (by lia) sg fun aX bU gE=>?_)
   rw [aa (by simp)]
   have gF:=i4.cf bU (.inl (ax _));have Eg:=bU.pm.trans eR;clear i4 eR Ef z3 sg kX bU;have f1:1≤min (arr.size-lo) (minRun' arr.size arr.size 0):=by lia
   have f2:lo+min (arr.size-lo) (minRun' arr.size arr.size 0)≤arr.size:=by lia
   generalize min (arr.size-lo) (minRun' arr.size arr.size 0)=fo at gE f1 f2 ⊢
   revert gF Eg gE
   generalize aX=cM;intro i4 eR gE;refine ar (jf ?_);have eb:(pendingOf (ba κ cM eQ g2)).back?=eQ.back?:=rfl;rw [eb];cases eQ.back? with
   | none=>dsimp only;exact ar (ky (aq ⟨cM,eQ.push (lo,fo,0),g2,lo+fo,rfl,rfl,eR,by rw [ot];exact i4.snoc f1 gE,f2,by have:=f1;lia⟩))
   | some p=>
    obtain ⟨R4,AI,R5⟩:=p;dsimp only;have z3:=eR.size_eq
    refine ar (gv (fR (I:=fun y c aw=>∃(aX:Array Keyed) (bJ:Array (Nat×Nat×Nat)) (g4:Nat),aw=ba κ aX bJ g4∧c=(none,())∧Rl cM aX 0 lo∧cX key aX bJ.toList 0 lo)
     (Q:=fun c aw=>∃(aX:Array Keyed) (bJ:Array (Nat×Nat×Nat)) (g4:Nat),aw=ba κ aX bJ g4∧c=(none,())∧Rl cM aX 0 lo∧cX key aX bJ.toList 0 lo) ?_ (fun c aw hh=>hh) ⟨cM,eQ,g2,rfl,rfl,Rl.refl ..,i4⟩) ?_)
    ·rintro y c aw _ hy ⟨aX,bJ,g4,rfl,rfl,bU,gF⟩
     have z4:=bU.size;refine ar (jf ?_);have hx:∀o,o=(if (pendingOf (ba κ aX bJ g4)).size>1 then (pendingOf (ba κ aX bJ g4))[(pendingOf (ba κ aX bJ g4)).size-2]? else none)→o.isSome=true→bJ.size>1:=fun o ho hs=>by
      by_cases z:bJ.size>1;·exact z
      ·rw [aa z] at ho
       rw [ho] at hs;cases hs
     generalize eo:(if (pendingOf (ba κ aX bJ g4)).size>1 then (pendingOf (ba κ aX bJ g4))[(pendingOf (ba κ aX bJ g4)).size-2]? else none)=o
     cases o with
     | none=>exact aq ⟨aX,bJ,g4,rfl,rfl,bU,gF⟩
     | some p=>
      have gt:=hx _ eo.symm rfl;obtain ⟨q1,q2,R6⟩:=p;dsimp only;refine fb (fun _=>aq ⟨aX,bJ,g4,rfl,rfl,bU,gF⟩) (fun _=>?_);refine ar (Ee h (uB ok (bU.pm.trans eR)) gF (by lia) (show bJ.size-2+1<bJ.size by lia) fun Eh Ei g5 Ej Ek _=>?_)
      rw [aa (by simp)]
      exact aq ⟨Eh,Ei,g5,rfl,rfl,bU.trans Ej,Ek⟩
    ·rintro c aw ⟨aX,bJ,g4,rfl,rfl,bU,gF⟩
     dsimp only;refine ar (ky (ar (ky (aq ⟨aX,_,g4,lo+fo,rfl,rfl,bU.pm.trans eR,?_,f2,by have:=f1;lia⟩))))
     rw [ot];refine cX.snoc ?_ f1 (dc.cf gE bU (.inr (ax _)));rw [Array.toList_modify];exact gF.last
  ·rw [aa y]
   have f2:lo+n≤arr.size:=by lia
   refine ar (jf ?_);have eb:(pendingOf (ba κ cM eQ g2)).back?=eQ.back?:=rfl;rw [eb];cases eQ.back? with
   | none=>dsimp only;exact ar (ky (aq ⟨cM,eQ.push (lo,n,0),g2,lo+n,rfl,rfl,eR,by rw [ot];exact i4.snoc n1 sg,f2,by have:=n1;lia⟩))
   | some p=>
    obtain ⟨R4,AI,R5⟩:=p;dsimp only;have z3:=eR.size_eq
    refine ar (gv (fR (I:=fun y c aw=>∃(aX:Array Keyed) (bJ:Array (Nat×Nat×Nat)) (g4:Nat),aw=ba κ aX bJ g4∧c=(none,())∧Rl cM aX 0 lo∧cX key aX bJ.toList 0 lo)
     (Q:=fun c aw=>∃(aX:Array Keyed) (bJ:Array (Nat×Nat×Nat)) (g4:Nat),aw=ba κ aX bJ g4∧c=(none,())∧Rl cM aX 0 lo∧cX key aX bJ.toList 0 lo) ?_ (fun c aw hh=>hh) ⟨cM,eQ,g2,rfl,rfl,Rl.refl ..,i4⟩) ?_)
    ·rintro y c aw _ hy ⟨aX,bJ,g4,rfl,rfl,bU,gF⟩
     have z4:=bU.size;refine ar (jf ?_);have hx:∀o,o=(if (pendingOf (ba κ aX bJ g4)).size>1 then (pendingOf (ba κ aX bJ g4))[(pendingOf (ba κ aX bJ g4)).size-2]? else none)→o.isSome=true→bJ.size>1:=fun o ho hs=>by
      by_cases z:bJ.size>1;·exact z
      ·rw [aa z] at ho
       rw [ho] at hs;cases hs
     generalize eo:(if (pendingOf (ba κ aX bJ g4)).size>1 then (pendingOf (ba κ aX bJ g4))[(pendingOf (ba κ aX bJ g4)).size-2]? else none)=o
     cases o with
     | none=>exact aq ⟨aX,bJ,g4,rfl,rfl,bU,gF⟩
     | some p=>
      have gt:=hx _ eo.symm rfl;obtain ⟨q1,q2,R6⟩:=p;dsimp only;refine fb (fun _=>aq ⟨aX,bJ,g4,rfl,rfl,bU,gF⟩) (fun _=>?_);refine ar (Ee h (uB ok (bU.pm.trans eR)) gF (by lia) (show bJ.size-2+1<bJ.size by lia) fun Eh Ei g5 Ej Ek _=>?_)
      rw [aa (by simp)]
      exact aq ⟨Eh,Ei,g5,rfl,rfl,bU.trans Ej,Ek⟩
    ·rintro c aw ⟨aX,bJ,g4,rfl,rfl,bU,gF⟩
     dsimp only;refine ar (ky (ar (ky (aq ⟨aX,_,g4,lo+n,rfl,rfl,bU.pm.trans eR,?_,f2,by have:=n1;lia⟩))))
     rw [ot];refine cX.snoc ?_ n1 (dc.cf sg bU (.inr (ax _)));rw [Array.toList_modify];exact gF.last
 ·rintro c aw ⟨aG,eQ,g2,lo,rfl,rfl,mw,qQ,l1,l2⟩
  obtain rfl:lo=arr.size:=by lia
  exact ⟨aG,eQ,g2,rfl,rfl,mw,qQ⟩
 ·rintro c aw ⟨aG,eQ,g2,rfl,rfl,mw,qQ⟩
  dsimp only;have pz:=qQ.le
  refine ar (gv (fR (I:=fun x c aw=>∃(cM:Array Keyed) (eS:Array (Nat×Nat×Nat)) (g3:Nat),aw=ba κ cM eS g3∧c=(none,())∧cM.Perm arr∧cX key cM eS.toList 0 arr.size∧eS.size+x≤arr.size)
   (Q:=fun c aw=>∃(cM:Array Keyed) (eS:Array (Nat×Nat×Nat)) (g3:Nat),aw=ba κ cM eS g3∧c=(none,())∧cM.Perm arr∧cX key cM eS.toList 0 arr.size∧eS.size≤1) ?_ ?_ ⟨aG,eQ,g2,rfl,rfl,mw,qQ,show eQ.size+0≤arr.size by simpa using pz⟩) ?_)
  ·rintro x c aw _ hx ⟨cM,eS,g3,rfl,rfl,eR,i4,l3⟩
   have z3:=eR.size_eq;refine ar (jf ?_);by_cases z:(pendingOf (ba κ cM eS g3)).size≤1
   ·rw [ae z]
    exact aq ⟨cM,eS,g3,rfl,rfl,eR,i4,z⟩
   ·rw [aa z]
    have z':1<eS.size:=Nat.lt_of_not_le z;have go:∀i,i+1<eS.size→wpS (model prog w) A E s (mergeAt' i) (fun b aw=>b=true∧∃(aX:Array Keyed) (bJ:Array (Nat×Nat×Nat)) (g4:Nat),aw=ba κ aX bJ g4∧aX.Perm arr∧cX key aX bJ.toList 0 arr.size∧bJ.size+(x+1)≤arr.size) (ba κ cM eS g3):=fun i hi=>by refine Ee h (uB ok eR) i4 (by lia) hi fun aX bJ g4 bU gF sz=>⟨rfl,aX,bJ,g4,rfl,bU.pm.trans eR,gF,by lia⟩
    refine ar (gv (go _ ?_) ?_)
    ·show (if _ then _ else _)+1<eS.size
     have e:(pendingOf (ba κ cM eS g3)).size=eS.size:=rfl;rw [e];have:∀c:Bool,(if c=true then eS.size-2-1 else eS.size-2)+1<eS.size:=fun c=>by cases c <;> simp <;> lia
     exact this _
    ·rintro b aw ⟨rfl,aX,bJ,g4,rfl,Eg,gF,l4⟩
     rw [aa (by simp)]
     exact aq ⟨aX,bJ,g4,rfl,rfl,Eg,gF,l4⟩
  ·rintro c aw ⟨cM,eS,g3,rfl,rfl,eR,i4,l3⟩
   exact ⟨cM,eS,g3,rfl,rfl,eR,i4,by lia⟩
  ·rintro c aw ⟨cM,eS,g3,rfl,rfl,eR,i4,l3⟩
   exact aq (k cM _ eR (i4.one (by simpa using l3)) rfl rfl)
end
end Tm
namespace My
open PySem PySem.W PyProof.Rows Tm
section
variable {prog:Program} {w:World} {A:Around} {E:aM} {s:Shared}
def fw(h:Heap)(v:Value)(x y:Int):Prop:=∃a o t u e,v=.ref a∧h.get? a=some o∧o.cls=.type "tuple"∧o.data=.seq #[.int x t,.int y u] e
variable {x y x' y':Int}
theorem R8{v v':Value}(h1:fw s.heap v x y)(h2:fw s.heap v' x' y'){Q:Bool→Shared→Prop}(h:Q (decide (x<x'∨x=x'∧y<y')) s):wpAny (model prog w) A (keyLt' (tuples' true) v v') Q E s:=by
 obtain ⟨a,o,t,u,e,rfl,g,_,d⟩:=h1;obtain ⟨a',o',t',u',e',rfl,g',_,d'⟩:=h2;refine kat_lt g d g' d' ?_;show KatLex prog w A true (decide (2<2)) Q [(.int x t,.int x' t'),(.int y u,.int y' u')] 0 s;refine kat_cons (wpAny_eqBool_int ?_);by_cases z:x=x'
 ·subst z
  rw [show (x == x)=true by simp]
  refine kat_yes (kat_cons (wpAny_eqBool_int ?_));by_cases z2:y=y'
  ·subst z2
   rw [show (y == y)=true by simp]
   refine kat_yes (kat_nil ?_);rw [bL (by lia)] at h
   exact h
  ·rw [show (y == y')=false by simp [z2]]
   refine kat_no ?_;show wpAny (model prog w) A (oneLt' false (.int y u) (.int y' u')) Q _ s;refine kat_one _ _ (lt_int ?_);show Q (decide (y<y')) s;rw [show decide (y<y')=decide (x<x∨x=x∧y<y') from mW.mpr (by lia)]
   exact h
 ·rw [show (x == x')=false by simp [z]]
  refine kat_no ?_;show wpAny (model prog w) A (oneLt' true (.int x t) (.int x' t')) Q _ s;refine oneLt_int ?_;rw [show decide (x<x')=decide (x<x'∨x=x'∧y<y') from mW.mpr (by lia)]
  exact h
theorem JK{h:Heap}:∀{vs:List Value},(∀v∈vs,∃x y,fw h v x y)→∃fs:List Value,KatTups h vs fs∧fs.length=vs.length∧∀f∈fs,∃n t,f=.int n t
 | [],_=>⟨[],.nil,rfl,fun f hf=>by cases hf⟩
 | v::vs,hv=>by
  obtain ⟨fs,k,l,i⟩:=JK (vs:=vs) fun v h=>hv v (bX _ h);obtain ⟨x,y,a,o,t,u,e,rfl,g,c,d⟩:=hv v bV;refine ⟨.int x t::fs,.cons g c d rfl k,by rw [dY,dY,l],fun f hf=>?_⟩
  rcases bh.mp hf with rfl | hf;·exact ⟨x,t,rfl⟩
  ·exact i f hf
theorem perm_back{α β:Type}{f:α→β}{l m:List β}(h:l.Perm m):∀q:List α,m=q.map f→∃p:List α,p.Perm q∧l=p.map f:=by
 induction h with
 | nil=>intro q e;exact ⟨q,List.Perm.refl _,e⟩
 | cons x _ ih=>
  intro q e
  match q,e with
  | a::q,e=>obtain ⟨rfl,e'⟩:=List.cons.inj e;obtain ⟨p,hp,rfl⟩:=ih q e';exact ⟨a::p,hp.cons a,rfl⟩
 | swap x y _=>
  intro q e
  match q,e with
  | a::b::q,e=>obtain ⟨rfl,e'⟩:=List.cons.inj e;obtain ⟨rfl,rfl⟩:=List.cons.inj e';exact ⟨b::a::q,List.Perm.swap ..,rfl⟩
 | trans _ _ R9 R_=>intro q e;obtain ⟨p,hp,e1⟩:=R_ q e;obtain ⟨p',oY,e2⟩:=R9 p e1;exact ⟨p',oY.trans hp,e2⟩
variable {h:Heap}
theorem fw.uniq{v:Value}(h1:fw h v x y)(h2:fw h v x' y'):x=x'∧y=y':=by obtain ⟨a,o,t,u,e,rfl,g,_,d⟩:=h1;obtain ⟨a',o',t',u',e',ev,g',_,d'⟩:=h2;cases ev;rw [g] at g';cases g';rw [d] at d';simp at d';exact ⟨d'.1.1.1,d'.1.2.1⟩
open Classical in
noncomputable def El (h:Heap) (k:Keyed):Int:=if e:∃z:Int×Int,fw h k.1 z.1 z.2 then (choose e).1*1000+(choose e).2 else 0
theorem AJ{v u:Value}(p:fw h v x y):El h (v,u)=x*1000+y:=by have e:∃z:Int×Int,fw h (v,u).1 z.1 z.2:=⟨(x,y),p⟩;unfold El;rw [dif_pos e];obtain ⟨a,b⟩:=(Classical.choose_spec e).uniq p;rw [a,b]
variable {vs:List Value}
theorem Sa{x y:Nat→Int}(h2:2≤vs.length)(hv:∀i v,vs[i]?=some v→fw s.heap v (x i) (y i)∧0≤y i∧y i<1000){Q:SortSt→Shared→Prop}
  (hQ:∀(p:Array Nat) (st:SortSt),mf vs.length p→oT (fun i=>x i*1000+y i) p vs.length→(arrOf st).map (·.2)=List.toArray (p.toList.map fun i=>vs.getD i Value.none)→failedOf st=none→Q st s) :
  wpAny (model prog w) A (sortRuns'.run (SortSt.mk' (tuples' true) (vs.toArray.zip vs.toArray) #[] 7 none)) (fun r s'=>Q r.2 s') E s:=by
 have az:(vs.toArray.zip vs.toArray).size=vs.length:=by simp
 have ag:∀i,i<vs.length→(vs.toArray.zip vs.toArray).getD i nn=(vs.getD i Value.none,vs.getD i Value.none):=fun i hi=>by simp [Array.getD,hi]
 have ga:∀i (hi:i<vs.length),fw s.heap (vs.getD i Value.none) (x i) (y i)∧0≤y i∧y i<1000:=fun i hi=>by refine hv i _ ?_;simp [hi]
 have lt:jY prog w A s (tuples' true) (El s.heap) (fun k=>∃a b,fw s.heap k.1 a b∧0≤b∧b<1000):=by
  rintro ⟨u,u'⟩ ⟨v,v'⟩ ⟨a,b,p1,b0,b1⟩ ⟨c,d,p2,d0,d1⟩ C hC;refine R8 p1 p2 ?_;rw [AJ p1,AJ p2] at hC;rw [show decide (a<c∨a=c∧b<d)=decide (a*1000+b<c*1000+d) from mW.mpr (by lia)]
  exact hC
 have ok:fH (fun k=>∃a b,fw s.heap k.1 a b∧0≤b∧b<1000) (vs.toArray.zip vs.toArray):=fun i hi=>by rw [az] at hi;rw [ag i hi];exact ⟨_,_,ga i hi⟩
 refine c_ (R3 (E:=E) (Q:=fun _ st=>Q st s) (g:=7) lt ok fun aU st pm sg ha hf=>?_) (fun r s' h'=>by obtain ⟨rfl,h'⟩:=h';exact h') fun _ _ e=>e
 have el:(vs.toArray.zip vs.toArray).toList=(List.range vs.length).map fun i=>(vs.getD i Value.none,vs.getD i Value.none):=by
  refine hG (by simp) fun i h1 h2=>?_
  have hi:i<vs.length:=by simpa using h2
  simp [hi]
 obtain ⟨p,hp,ep⟩:=perm_back (pZ.mp pm) _ el;have pl:p.length=vs.length:=by rw [hp.length_eq,dI]
 have Sb:∀i∈p,i<vs.length:=fun i hi=>bb.mp (hp.mem_iff.mp hi);have hsz:aU.size=vs.length:=by rw [pm.size_eq,az]
 have gd:∀i,i<vs.length→aU.getD i nn=(vs.getD (p.toArray.getD i 0) Value.none,vs.getD (p.toArray.getD i 0) Value.none)∧p.toArray.getD i 0<vs.length:=fun i hi=>by
  have e1:aU.getD i nn=aU.toList[i]'(by simp;lia):=by simp [Array.getD,show i<aU.size by lia]
  have e2:p.toArray.getD i 0=p[i]'(by lia):=by simp [Array.getD,show i<p.length by lia]
  rw [e1,e2];refine ⟨?_,Sb _ (bT _)⟩;simp [ep]
 refine hQ p.toArray st (pZ.mpr (by simpa using hp)) (fun i j h1 h3=>?_) ?_ hf
 ·have:=sg i j (bY _) h1 (by rw [az];exact h3)
  unfold vA at this;obtain ⟨e1,l1⟩:=gd i (by lia)
  obtain ⟨e2,l2⟩:=gd j h3;rw [e1,e2,AJ (ga _ l1).1,AJ (ga _ l2).1] at this;exact this
 ·rw [ha]
  apply Array.toList_inj.mp;rw [Array.toList_map,ep,cI];rfl
theorem Sd{Q:SortKind→Shared→Prop}(h1:1≤vs.length)(hv:∀v∈vs,∃x y,fw s.heap v x y)(h:Q (tuples' true) s):wpAny (model prog w) A (keyKind' vs.toArray) Q E s:=by
 obtain ⟨fs,k,l,i⟩:=JK hv;refine kat_kind (T:=Value.type "int") k (by lia) (fun v hv=>?_) rfl h
 obtain ⟨n,t,rfl⟩:=i v hv;exact .now
theorem fw.mono{h':Heap}{v:Value}(k:∀b o,h.get? b=some o→h'.get? b=some o)(p:fw h v x y):fw h' v x y:=by obtain ⟨a,o,t,u,e,rfl,g,c,d⟩:=p;exact ⟨a,o,t,u,e,rfl,k _ _ g,c,d⟩
theorem Se{a:Addr}{n:Nat}{x y:Nat→Int}{P:PySem.Fin→Shared→Prop}(ho:s.heap.get? a=some (seqObj "list" vs.toArray n))(AK:vs.length<2000)(hv:∀i v,vs[i]?=some v→fw s.heap v (x i) (y i)∧0≤y i∧y i<1000)
  (h:∀(p:Array Nat),mf vs.length p→oT (fun i=>x i*1000+y i) p vs.length→P (.done (.ret .none)) {s with heap:=sortedHeap s.heap a vs (List.toArray (p.toList.map fun i=>vs.getD i Value.none))}) :
  wpAny (model prog w) A (Builtin.«list.sort» ⟨[.ref a],[]⟩) P E s:=by
 have sl:vs.length≤sizeLine:=by rw [n_];lia
 have lt:=aZ ho
 obtain ⟨e1,g1⟩:∃e,(s.heap.update a (Obj.mapSeq fun _=>#[])).get? a=some (seqObj "list" #[] e):=⟨_,get?_update_seq ho fun _=>#[]⟩
 have z1:(s.heap.update a (Obj.mapSeq fun _=>#[])).objs.size=s.heap.objs.size:=Heap.size_update _ _ _
 have up:∀b u,b<s.heap.objs.size→(s.heap.update a (Obj.mapSeq fun _=>#[])).get? b=some u→(((s.heap.update a (Obj.mapSeq fun _=>#[])).push (seqObj "tuple" vs.toArray 0)).push (seqObj "list" #[] 0)).get? b=some u:=fun b u hb hu=>by
  rw [tD _ _ _ (cq (by rw [size_push',z1];exact wZ hb)),tD _ _ _ (cq (by rw [z1];exact hb))]
  exact hu
 have g3:=up a _ lt g1
 have JL:∀i v,vs[i]?=some v→fw (((s.heap.update a (Obj.mapSeq fun _=>#[])).push (seqObj "tuple" vs.toArray 0)).push (seqObj "list" #[] 0)) v (x i) (y i)∧0≤y i∧y i<1000:=fun i v hi=>by
  obtain ⟨⟨b,o,t,u,e,rfl,g,cc,d⟩,y0⟩:=hv i v hi
  have nb:b≠a:=fun q=>by
   rw [q,ho] at g
   cases g
   exact absurd (Value.type.inj cc) (by decide)
  refine ⟨⟨b,o,t,u,e,rfl,up b o (aZ g) ?_,cc,d⟩,y0⟩
  rw [zJ _ _ _ _ nb]
  exact g
 rw [list_sort_plain]
 refine bo (listItems_at ho rfl (bo (listUpdate_at ho rfl ?_ (by rw [bZ];lia) (bY _))))
 refine bo (seqEpoch_at g1 rfl (bo (wpAny_newTuple ?_ (by show vs.length≤_;lia))))
 refine bo (wpAny_newList (sX ?_) (bY _))
 show wpAny (model prog w) A _ P E {s with heap:=((s.heap.update a (Obj.mapSeq fun _=>#[])).push (seqObj "tuple" vs.toArray 0)).push (seqObj "list" #[] 0)}
 dsimp only
 have fin:∀(st:SortSt) (p:Array Nat),mf vs.length p→oT (fun i=>x i*1000+y i) p vs.length→(arrOf st).map (·.2)=List.toArray (p.toList.map fun i=>vs.getD i Value.none)→failedOf st=none→
   wpAny (model prog w) A (do
    let touched:=(←seqEpoch a) != e1
    Builtin.List.listUpdate (.ref a) fun _=>(arrOf st).map (·.2)
    if let some e:=failedOf st then rule "list.sort.comparison-raised";throw e
    if touched then rule "list.sort.modified";raiseError "ValueError" "list modified during sort"
    ret .none) P E {s with heap:=((s.heap.update a (Obj.mapSeq fun _=>#[])).push (seqObj "tuple" vs.toArray 0)).push (seqObj "list" #[] 0)}:=fun st p hp hu ha hf=>by
  refine bo (seqEpoch_at g3 rfl (bo (listUpdate_at g3 rfl ?_ (bY _) ?_)))
  ·rw [hf,ha]
   simp only [bne_self_eq_false,Bool.false_eq_true,if_false]
   exact dB (h p hp hu)
  ·rw [ha,bZ,aC,gM,hp.size]
   lia
 by_cases z:vs.toArray.size<2
 ·rw [ae z,ae z]
  refine bo (dB ?_)
  rw [StateT.run_pure]
  refine bo (dB ?_)
  have len:vs.length<2:=by simpa using z
  refine fin _ (List.toArray (List.range vs.length)) (Array.Perm.refl _) (fun a b h1 h2=>by
   obtain rfl:a=b:=by lia
   exact mT _) ?_ rfl
  match vs,len with
  | [],_=>
   show Array.map (·.2) ((#[]:Array Value).zip #[])=_
   simp
  | [v],_=>
   show Array.map (·.2) (#[v].zip #[v])=_
   simp
 ·rw [aa z,aa z]
  have len:2≤vs.length:=by simpa using z
  refine bo (Sd (by lia) (fun v hm=>?_) ?_)
  ·obtain ⟨i,hi,rfl⟩:=tu hm
   exact ⟨_,_,(JL i _ (by simp [hi])).1⟩
  ·refine bo (c_ (Sa (Q:=fun st s'=>s'={s with heap:=((s.heap.update a (Obj.mapSeq fun _=>#[])).push (seqObj "tuple" vs.toArray 0)).push (seqObj "list" #[] 0)}∧∃p,mf vs.length p∧oT (fun i=>x i*1000+y i) p vs.length∧(arrOf st).map (·.2)=List.toArray (p.toList.map fun i=>vs.getD i Value.none)∧failedOf st=none) len JL fun p st a1 a2 a3 a4=>⟨rfl,p,a1,a2,a3,a4⟩) ?_ fun _ _ e=>e)
   rintro ⟨⟨⟩,st⟩ s' ⟨rfl,p,a1,a2,a3,a4⟩
   exact fin st p a1 a2 a3 a4
end
open PySem PySem.W PyProof.Rows
section
variable {prog:Program} {w:World} {A:Around} {E:aM} {s:Shared}
theorem Sf{l:Addr}{vs:List Value}{x y:Nat→Int}{Q:aM}(hl:s.heap.IsList l vs.toArray)(AK:vs.length<2000)(hv:∀i v,vs[i]?=some v→fw s.heap v (x i) (y i)∧0≤y i∧y i<1000)
  (h:∀(p:Array Nat) (h':Heap) (c:Nat),mf vs.length p→oT (fun i=>x i*1000+y i) p vs.length→(∀b o,s.heap.get? b=some o→h'.get? b=some o)→h'.get? (s.heap.objs.size+1)=some (seqObj "list" (List.toArray (p.toList.map fun i=>vs.getD i Value.none)) c)→Q (.ref (s.heap.objs.size+1)) {s with heap:=h'}) :
  wpAny (model prog w) A (call (.builtin "sorted") [.ref l]) Q E s:=by
 have sl:vs.length≤sizeLine:=by rw [n_];lia
 refine Calls.call_function_entry kind_sorted plain_sorted entry_sorted (args_sorted1 _) ?_;unfold Builtin.«sorted»;refine bo (m:=checkCount "sorted" 1 1 _) (dB (bo (collect_list hl (bo (wpAny_newList ?_ sl)) sl)));have zz:((s.heap.push (seqObj "list" #[] 0)).update s.heap.objs.size (Obj.mapSeq (·++vs.toArray))).objs.size=s.heap.objs.size+1:=by rw [Heap.size_update,size_push']
 have kp:∀b o,s.heap.get? b=some o→(((s.heap.push (seqObj "list" #[] 0)).update s.heap.objs.size (Obj.mapSeq (·++vs.toArray))).push (seqObj "list" vs.toArray 0)).get? b=some o:=fun b o g=>by
  have lt:=aZ g;rw [tD _ _ _ (cq (by rw [zz];exact wZ lt)),zJ _ _ _ _ (cq lt),tD _ _ _ (cq lt)]
  exact g
 have gL:(((s.heap.push (seqObj "list" #[] 0)).update s.heap.objs.size (Obj.mapSeq (·++vs.toArray))).push (seqObj "list" vs.toArray 0)).get? (s.heap.objs.size+1)=some (seqObj "list" vs.toArray 0):=by rw [←zz];exact eX _ rfl
 show wpAny _ _ _ _ _ {s with heap:=((s.heap.push (seqObj "list" #[] 0)).update s.heap.objs.size (Obj.mapSeq (·++vs.toArray))).push (seqObj "list" vs.toArray 0)};rw [zz];generalize ((s.heap.push (seqObj "list" #[] 0)).update s.heap.objs.size (Obj.mapSeq (·++vs.toArray))).push (seqObj "list" vs.toArray 0)=h1 at kp gL;refine bo (sX (wpAny_call_entry slot_list_sort ⟨_,gL,rfl⟩ entry_list_sort (Se (s:={s with heap:=h1}) gL AK (fun i v hi=>⟨(hv i v hi).1.mono kp,(hv i v hi).2⟩) fun p hp hu=>⟨_,rfl,?_⟩) (args_list_sort _)));have JM:=aZ gL;have z1:(h1.update (s.heap.objs.size+1) (Obj.mapSeq fun _=>#[])).objs.size=h1.objs.size:=Heap.size_update _ _ _;obtain ⟨e1,g1⟩:∃e,(h1.update (s.heap.objs.size+1) (Obj.mapSeq fun _=>#[])).get? (s.heap.objs.size+1)=some (seqObj "list" #[] e):=⟨_,get?_update_seq gL fun _=>#[]⟩;have up:∀b u,b<h1.objs.size→(h1.update (s.heap.objs.size+1) (Obj.mapSeq fun _=>#[])).get? b=some u→(((h1.update (s.heap.objs.size+1) (Obj.mapSeq fun _=>#[])).push (seqObj "tuple" vs.toArray 0)).push (seqObj "list" #[] 0)).get? b=some u:=fun b u hb hu=>by
  rw [tD _ _ _ (cq (by rw [size_push',z1];exact wZ hb)),tD _ _ _ (cq (by rw [z1];exact hb))]
  exact hu
 have g3:=up _ _ JM g1;refine dB ⟨_,rfl,h p _ _ hp hu (fun b o g=>?_) (get?_update_seq g3 fun _=>List.toArray (p.toList.map fun i=>vs.getD i Value.none))⟩;have g':=kp b o g;have ne:b≠s.heap.objs.size+1:=cq (wZ (aZ g));show (Heap.update _ _ _).get? b=some o;rw [zJ _ _ _ _ ne];refine up b o (aZ g') ?_;rw [zJ _ _ _ _ ne];exact g'
end
end My
namespace L2
open PySem PySem.W PyProof.Rows My
def JN:List V→Hp→VK→Prop:=fun xs H Q=>∃(a:Addr) (vs:List V) (x y:Nat→Int),xs=[.ref a]∧H a=some (.lst vs)∧vs.length<2000∧(∀(i:Nat) (v:V),vs[i]?=some v→(∃b,v=.ref b∧H b=some (.tup [.int (x i),.int (y i)]))∧0≤y i∧y i<1000) ∧
 ∀(p:Array Nat) (l:Addr),mf vs.length p→oT (fun i=>x i*1000+y i) p vs.length→H l=none→Q (.ref l) (upd H l (.lst (p.toList.map fun i=>vs.getD i .aN)))
theorem JO{xs:List V}{us:List Value}(r:Vals xs us):∀(ns:List Nat),(∀i∈ns,i<xs.length)→Vals (ns.map fun i=>xs.getD i .aN) (ns.map fun i=>us.getD i Value.none)
 | [],_=>.nil
 | i::ns,h=>by
  have hi:=h i bV;obtain ⟨u,e,ru⟩:=r.get (i:=i) (x:=xs[i]) (by simp [hi])
  refine .cons ?_ (JO r ns fun j hj=>h j (bX _ hj));dsimp only;rw [show xs.getD i .aN=xs[i] by simp [hi],show us.getD i Value.none=u by rw [du,e];rfl]
  exact ru
theorem Em{X:Cx}:gR X (.builtin "sorted") JN:=by
 intro pins s σ H xs us Q I r h;obtain ⟨a,vs,x,y,rfl,ha,AK,hv,k⟩:=h;obtain ⟨u,rfl,ru⟩:=vals1 r;cases ru;obtain ⟨its,rv,pl,hz⟩:=I.list (.of ha);have hl:=rv.length;refine Sf (x:=x) (y:=y) pl.isList (by lia) (fun i v hi=>?_) fun p h' c hp hu kp g=>?_
 ·have bF:i<vs.length:=by have:=(cu.mp hi).1;lia
  have gi:vs[i]?=some vs[i]:=by simp [bF]
  obtain ⟨⟨b,eb,hb⟩,Sg⟩:=hv i _ gi;obtain ⟨u,eu,ru⟩:=rv.get gi;rw [hi] at eu;cases eu;rw [eb] at ru;cases ru;obtain ⟨_,oJ,r2,o,g,cl,e,d⟩:=(show cw X.prog X.w H s.heap b (.tup [.int (x i),.int (y i)]) from I.ay b _ hb);obtain ⟨u1,u2,rfl,q1,q2⟩:=vals2 r2;obtain ⟨t1,rfl⟩:=q1;obtain ⟨t2,rfl⟩:=q2;exact ⟨⟨b,o,t1,t2,e,rfl,g,cl,d⟩,Sg⟩
 ·rw [←hl] at hp hu
  have sz:=hp.size;refine ⟨.ref (s.heap.objs.size+1),_,I.laid (t':=s.toks) (o:=.lst (p.toList.map fun i=>vs.getD i .aN)) kp (jJ _) ⟨?_,p.toList.map fun i=>its.getD i Value.none,c,?_,g⟩,rfl,k p _ hp hu (I.ay.fresh (jJ _))⟩
  ·rw [aC,gM,sz]
   exact hz
  ·refine JO rv _ fun i hi=>?_
   have m:i∈List.toArray (List.range vs.length):=(Array.Perm.mem_iff hp).mp (Array.mem_toList_iff.mp hi);simpa using m
end L2
namespace My
open PySem L2
def Sh(K:aE):R2:=fun x y H Q=>∃a b xs,x=.ref a∧y=.ref b∧a7 K H a xs∧H b=some (.lst [])∧Q (.bl (!xs.isEmpty)) H
theorem En{X:Cx}(hu:X.A.units+64<cLine):da X (compareOp .NotEq) (Sh X.K):=by
 intro pins s σ H x y v u Q I rx ry h;obtain ⟨a,b,xs,rfl,rfl,h1,h2,q⟩:=h;cases rx;cases ry;obtain ⟨us,r1,t1,_⟩:=I.list h1;obtain ⟨vs,r2,t2,_⟩:=I.list (a7.of h2);have l1:=r1.length;have l2:=r2.length;cases xs with
 | nil=>
  refine SeqAt.RcNeAt.lists (e:=fun _=>true) t1.isList t2.isList (by simp at l1 l2 ⊢;lia) (by lia) (fun j z1 z2=>?_) _ _ _ _ ?_
  ·simp at l1
   have:us=[]:=List.length_eq_zero_iff.mp l1.symm;subst this;simp at z1
  ·rw [all_range]
   exact ⟨.bl false,H,I,rfl,q⟩
 | cons w ws=>
  refine SeqAt.RcNeAt.lists_lengths t1.isList t2.isList ?_ (by lia) _ _ _ _ ⟨.bl true,H,I,rfl,q⟩
  simp at l1 l2 ⊢;lia
variable {σ:St} {H:Hp}
theorem JP{c:TT}{t u:TS}{D:Ends}(M:St→Hp→Prop)(hM:∀σ H,M σ H→D.nx σ H)(k:∀R:St→Hp→Prop,(∀σ H,M σ H→R σ H)→zY c t u {D with nx:=R} σ H):zY c t u D σ H:=k D.nx hM
def Si(K:aE):Sp:=fun vs H Q _=>∃(P a l:Addr) (ns:List Int) (xs:List V),vs=[.ref P,.ref l]∧bG H P a∧a7 K (er P H) a (ns.map V.int)∧l≠P∧H l=some (.lst xs)∧xs.length≤100 ∧
 ∀(r:Addr) (ys:List V) (H':Hp),aI P H H'→bG H' P a→er P H r=none→r≠P→H' r=some (.lst ys)→ys.Perm xs→Q (.ref r) H'
def Sj(K:aE):Sp:=fun vs H Q _=>∃(P a:Addr) (ns:List Int) (way size wide i j:Int),vs=[.ref P,.int way,.int size,.int wide,.int i,.int j]∧bG H P a∧a7 K (er P H) a (ns.map V.int) ∧
 ∀(b:Bool) (H':Hp),aI P H H'→bG H' P a→Q (.bl b) H'
theorem JQ{α:Type}:∀(zs:List α) (k:Nat) (h:k<zs.length),(zs[k]::zs.eraseIdx k).Perm zs
 | _::_,0,_=>.refl _
 | z::zs,k+1,h=>(List.Perm.swap _ _ _).trans ((JQ zs k (by simpa using h)).cons z)
def aY(H:Hp)(vs:List V)(L:au):Prop:=vs.length=L.length∧∀(k:Nat) (v:V) (p:Int×Int),vs[k]?=some v→L[k]?=some p→∃b,v=.ref b∧H b=some (.tup [.int p.1,.int p.2])
theorem aY.nil(H:Hp):aY H [] []:=⟨rfl,fun k v p h=>by simp at h⟩
variable {H':Hp} {vs:List V} {L:au}
theorem aY.mono(h:aY H vs L)(s:aj H H'):aY H' vs L:=⟨h.1,fun k v p h1 h2=>by obtain ⟨b,e,g⟩:=h.2 k v p h1 h2;exact ⟨b,e,s _ _ g⟩⟩
variable {r:Addr} {xs:List V}
theorem aY.cf(h:aY H vs L)(e:H r=some (.lst xs))(k:∀b o,b≠r→H b=some o→H' b=some o):aY H' vs L:=⟨h.1,fun i v p h1 h2=>by obtain ⟨b,eb,g⟩:=h.2 i v p h1 h2;refine ⟨b,eb,k b _ (fun z=>?_) g⟩;rw [z,e] at g;cases g⟩
variable {b:Addr} {p:Int×Int}
theorem aY.push(h:aY H vs L)(e:H b=some (.tup [.int p.1,.int p.2])):aY H (vs++[.ref b]) (L++[p]):=⟨by simp [h.1],fun k v q h1 h2=>by
 have hl:=h.1;by_cases z:k<vs.length
 ·rw [iO z] at h1
  rw [iO (by lia)] at h2
  exact h.2 k v q h1 h2
 ·have hk:=(cu.mp h1).1
  rw [di,kr] at hk;obtain rfl:k=vs.length:=by lia
  rw [iM (ax _),wY] at h1;rw [iM (by lia),show vs.length-L.length=0 by lia] at h2
  cases h1;cases h2;exact ⟨b,rfl,e⟩⟩
structure jx (n:Nat) (L:au):Prop where
 nd:L.Nodup
 lt:∀p∈L,0≤p.1∧p.1<p.2∧p.2<n
 dF:L.length≤n*n / 2
def lexLt(p q:Int×Int):Prop:=p.1<q.1∨p.1=q.1∧p.2<q.2
variable {M:au}
theorem Sk{p:Array Nat}(P:mf M.length p)(U:oT (fun i=>(M.getD i (0,0)).1*1000+(M.getD i (0,0)).2) p M.length)(nd:M.Nodup)(b:∀q∈M,0≤q.2∧q.2<1000) :
  (p.toList.map fun i=>M.getD i (0,0)).Perm M∧(p.toList.map fun i=>M.getD i (0,0)).Pairwise lexLt:=by
 have pm:p.toList.Perm (List.range M.length):=pZ.mp P;have pn:p.toList.Nodup:=pm.nodup_iff.mpr hI;have lt:∀i∈p.toList,i<M.length:=fun i hi=>bb.mp (pm.mem_iff.mp hi);refine ⟨?_,?_⟩
 ·have e:((List.range M.length).map fun i=>M.getD i (0,0))=M:=by
   refine hG (by simp) fun i h1 h2=>?_
   rw [fD,mX,getD_at h2]
  have:=pm.map fun i=>M.getD i (0,0);rw [e] at this;exact this
 ·rw [oq]
  intro i j hi hj D_;rw [aC] at hi hj;rw [fD,fD];have sz:=P.size;have li:p.toList[i]<M.length:=lt _ (bT _);have lj:p.toList[j]<M.length:=lt _ (bT _);have u:=U i j (by lia) (by rw [←sz,←gM];exact hj)
  unfold vN at u;have gi:p.getD i 0=p.toList[i]:=by
   have:i<p.size:=by rw [←gM];exact hi
   simp [Array.getD,this]
  have gj:p.getD j 0=p.toList[j]:=by
   have:j<p.size:=by rw [←gM];exact hj
   simp [Array.getD,this]
  rw [gi,gj] at u;dsimp only at u;rw [getD_at li,getD_at lj] at u;rw [getD_at li,getD_at lj];have ne:M[p.toList[i]]≠M[p.toList[j]]:=fun e=>by have e1:=(lC nd).mp e;have e2:=(lC pn).mp e1;lia
  have b1:=b _ (bT li);have b2:=b _ (bT lj);generalize M[p.toList[i]]=x at u ne b1;generalize M[p.toList[j]]=y at u ne b2;obtain ⟨x1,x2⟩:=x;obtain ⟨y1,y2⟩:=y;unfold lexLt;dsimp only at u b1 b2 ⊢;by_cases z:x1<y1;·exact .inl z
  ·right
   have e1:x1=y1:=by lia
   subst e1;refine ⟨rfl,?_⟩;by_cases y:x2=y2
   ·subst y
    exact absurd rfl ne
   ·lia
theorem uD{α β:Type}{f:α→β}:∀{L:List α},L.Nodup→(∀p q,p∈L→q∈L→f p=f q→p=q)→(L.map f).Nodup
 | [],_,_=>tE
 | x::L,h,k=>by obtain ⟨h1,h2⟩:=gq.mp h;refine gq.mpr ⟨fun m=>?_,uD h2 fun p q hp hq=>k p q (bX _ hp) (bX _ hq)⟩;obtain ⟨y,hy,e⟩:=bD.mp m;have:=k y x (bX _ hy) bV e;rw [this] at hy;exact h1 hy
def iE(nm:Nat→Int)(p:Int×Int):Int×Int:=(min (nm p.1.toNat) (nm p.2.toNat),max (nm p.1.toNat) (nm p.2.toNat))
structure Eo (n:Nat) (nm:Nat→Int):Prop where
 lt:∀i,i<n→0≤nm i∧nm i<n
 inj:∀i j,i<n→j<n→nm i=nm j→i=j
variable {n:Nat}
theorem Sl{nm:Nat→Int}(h:jx n L)(N:Eo n nm):jx n (L.map (iE nm)) where
 nd:=by
  refine uD h.nd fun p q hp hq e=>?_;have a:=h.lt p hp;have b:=h.lt q hq;obtain ⟨p1,p2⟩:=p;obtain ⟨q1,q2⟩:=q;obtain ⟨i,rfl⟩:=gA (show 0≤p1 by dsimp only at a;lia)
  obtain ⟨j,rfl⟩:=gA (show 0≤p2 by dsimp only at a;lia)
  obtain ⟨k,rfl⟩:=gA (show 0≤q1 by dsimp only at b;lia)
  obtain ⟨l,rfl⟩:=gA (show 0≤q2 by dsimp only at b;lia)
  dsimp only at a b;have e1:=dP Prod.fst e;have e2:=dP Prod.snd e;unfold iE at e1 e2;simp only [cQ] at e1 e2;have ij:nm i≠nm j:=fun z=>by have:=N.inj i j (by lia) (by lia) z;lia
  have kl:nm k≠nm l:=fun z=>by have:=N.inj k l (by lia) (by lia) z;lia
  by_cases z:nm i=nm k
  ·have e3:nm j=nm l:=by lia
   have i1:=N.inj i k (by lia) (by lia) z
   have i2:=N.inj j l (by lia) (by lia) e3
   rw [i1,i2]
  ·have e3:nm i=nm l:=by lia
   have e4:nm j=nm k:=by lia
   have i1:=N.inj i l (by lia) (by lia) e3
   have i2:=N.inj j k (by lia) (by lia) e4
   lia
 lt:=fun p hp=>by
  obtain ⟨q,hq,rfl⟩:=bD.mp hp;have a:=h.lt q hq;have n1:=N.lt q.1.toNat (by lia)
  have n2:=N.lt q.2.toNat (by lia)
  have ne:nm q.1.toNat≠nm q.2.toNat:=fun z=>by have:=N.inj _ _ (by lia) (by lia) z;lia
  unfold iE;dsimp only;lia
 dF:=by rw [aC];exact h.dF
theorem jx.perm{L':au}(h:jx n L)(p:L'.Perm L):jx n L':=⟨p.nodup_iff.mpr h.nd,fun q hq=>h.lt q (p.mem_iff.mp hq),by rw [p.length_eq];exact h.dF⟩
def cY(H:Hp)(t:Addr)(n:Nat)(L:au):Prop:=∃(lt:Addr) (us:List V),H t=some (.tup [.int (n:Int),.ref lt])∧H lt=some (.tup us)∧aY H us L
def Sm:Sp:=fun vs H Q _=>∃(l r:Addr) (n:Nat) (us ws:List V) (L:au) (nm:Nat→Int),vs=[.int (n:Int),.ref l,.ref r]∧H l=some (.lst us)∧aY H us L∧jx n L∧n≤30∧H r=some (.lst ws)∧ws.length=n∧(∀i,i<n→ws[i]?=some (.int (nm i)))∧Eo n nm ∧
 ∀(t:Addr) (L':au) (H':Hp),aj H H'→H t=none→cY H' t n L'→jx n L'→L'.Pairwise lexLt→L'.Perm (L.map (iE nm))→Q (.ref t) H'
variable {us:List V}
theorem aY.pick(h:aY H us M)(ns:List Nat)(hn:∀i∈ns,i<M.length):aY H (ns.map fun i=>us.getD i .aN) (ns.map fun i=>M.getD i (0,0)):=⟨by simp,fun k v p h1 h2=>by
 have hl:=h.1;have hk:k<ns.length:=by have:=(cu.mp h1).1;simpa using this
 have hi:=hn ns[k] (bT hk);rw [bq,bu hk] at h1 h2;cases h1;cases h2;dsimp only;have bF:ns[k]<us.length:=by lia
 rw [getD_at hi];have e:us.getD ns[k] .aN=us[ns[k]]:=by simp [bF]
 rw [e];exact h.2 ns[k] _ _ (by simp [bF]) (by simp [hi])⟩
variable {wi:TI} {ρ:St→St} {tt:TT} {te:TE} {Q:VK} {P a:Addr}
theorem Sn{K:aE}{l:Addr}(hn:xs.length<sizeLine)(nl:l≠P)(el:H l=some (.lst xs))(pc:bG H P a)
  (dR:∀R:It→Hp→Prop,R (qr K l) H→wi σ H R)
  (test:∀(i:Nat) (x:V),xs[i]?=some x→∀(Hc:Hp) (R:Bool→Hp→Prop),aI P H Hc→bG Hc P a→(∀b H3,aI P Hc H3→bG H3 P a→R b H3)→tt (some x::ρ σ) Hc R)
  (elem:∀(x:V) (Hc:Hp) (R:VK),R x Hc→te (some x::ρ σ) Hc R)
  (fin:∀(D:Addr) (ys:List V) (Hc:Hp),D≠P→er P H D=none→aI P H Hc→bG Hc P a→ys.Sublist xs→Hc D=some (.lst ys)→Q (.ref D) Hc):e_ wi ρ tt te σ H Q:=by
 refine dR _ fun D nD=>?_;have nP:=pc.ne nD;have lD:l≠D:=fun e=>by rw [e,nD] at el;cases el
 refine ⟨fun i m ys Hc=>m=xs.length-i∧i≤xs.length∧Hc D=some (.lst ys)∧aI P H Hc∧bG Hc P a∧ys.Sublist (xs.take i),⟨_,rfl,bY _,av,(aI.refl H).but nD,pc.upd nP,by simp⟩,?_⟩
 rintro i m ys Hc ⟨rfl,hi,eD,sH,oZ,sub⟩;refine ⟨eD,?_⟩;have qR:=sH.at nl el;by_cases aV:i<xs.length
 ·refine .inr ⟨⟨xs,xs[i],.of qR,by simp [aV]⟩,fun x H' hy=>?_⟩
  obtain ⟨rfl,hx⟩:=hy;have ex:=hx xs (.of qR);refine test i x ex _ _ sH oZ fun b H3 s3 p3=>?_;have tk:xs.take (i+1)=xs.take i++[x]:=by rw [kA,ex];rfl
  have e3:=s3.at nP eD;cases b with
  | true=>
   rw [ae rfl];refine elem x H3 _ ⟨e3,?_,xs.length-(i+1),by lia,rfl,aV,av,(sH.trans s3).but nD,p3.upd nP,?_⟩
   ·have:=sub.length_le
    rw [oi] at this;lia
   ·rw [tk]
    exact sub.append (List.Sublist.refl _)
  | false=>
   rw [aa (by simp)]
   refine ⟨xs.length-(i+1),by lia,rfl,aV,e3,sH.trans s3,p3,?_⟩
   rw [tk];exact sub.trans (List.sublist_append_left _ _)
 ·have e:i=xs.length:=by lia
  subst e;rw [gu] at sub;exact .inl ⟨⟨xs,.of qR,by lia⟩,fin D ys Hc nP (by rw [eO nP];exact nD) sH oZ sub eD⟩
def f_(k:Nat)(d:List Nat):Prop:=d.Pairwise (fun a b=>b<a)∧∀x∈d,x<k
theorem f_.len:∀{d:List Nat} {k:Nat},f_ k d→d.length≤k
 | [],_,_=>bY _
 | x::d,k,h=>by obtain ⟨h1,h2⟩:=p9.mp h.1;have:=f_.len (k:=x) ⟨h2,fun y hy=>h1 y hy⟩;have:=h.2 x bV;rw [dY];lia
theorem f_.nil(k:Nat):f_ k []:=⟨List.Pairwise.nil,fun x hx=>by cases hx⟩
variable {k:Nat} {d:List Nat}
theorem f_.sub{e:List Nat}(h:f_ k d)(s:e.Sublist d):f_ k e:=⟨h.1.sublist s,fun x hx=>h.2 x (s.subset hx)⟩
variable {j:Nat}
theorem f_.put(h:f_ k d)(hk:k<j):f_ j (k::d):=⟨p9.mpr ⟨h.2,h.1⟩,fun x hx=>by
 rcases bh.mp hx with rfl | hx;·exact hk
 ·have:=h.2 x hx
  lia⟩
theorem f_.nd(h:f_ k d):d.Nodup:=h.1.imp fun h=>by lia
def fA(d:List Nat):List V:=d.map fun(x:Nat)=>V.int (x:Int)
theorem Ep:∀{d:List Nat} {ys:List V},ys.Sublist (fA d)→∃e:List Nat,e.Sublist d∧ys=fA e
 | [],ys,h=>⟨[],List.Sublist.refl _,by have h:ys.Sublist []:=h;rw [List.sublist_nil.mp h];rfl⟩
 | x::d,ys,h=>by
  have h:ys.Sublist (V.int (x:Int)::fA d):=h;cases h with
  | cons _ h=>obtain ⟨e,h1,h2⟩:=Ep h;exact ⟨e,h1.cons _,h2⟩
  | cons_cons _ h=>obtain ⟨e,h1,h2⟩:=Ep h;exact ⟨x::e,.cons_cons _ h1,by rw [h2];rfl⟩
structure nH (j:Nat) (L:au):Prop where
 nd:L.Nodup
 lt:∀p∈L,0≤p.1∧p.1<p.2∧p.2<j
 dF:2*L.length≤j*(j-1)
theorem nH.nil:nH 1 []:=⟨tE,(fun p hp=>by cases hp),by simp⟩
theorem nH.ok(h:nH n L):jx n L:=⟨h.nd,h.lt,by
 have:=h.dF;have:n*(n-1)≤n*n:=Nat.mul_le_mul_left _ (by lia)
 lia⟩
theorem nH.more(h:nH j L)(hd:f_ j d):nH (j+1) (L++d.map fun(x:Nat)=>((x:Int),(j:Int))) where
 nd:=by
  refine jL.mpr ⟨h.nd,uD hd.nd fun p q _ _ e=>by have:=dP Prod.fst e;dsimp only at this;lia,fun p hp q hq e=>?_⟩
  obtain ⟨x,_,rfl⟩:=bD.mp hq;have:=h.lt p hp;rw [e] at this;dsimp only at this;lia
 lt:=fun p hp=>by
  rcases cZ.mp hp with hp | hp
  ·have:=h.lt p hp
   lia
  ·obtain ⟨x,hx,rfl⟩:=bD.mp hp
   have:=hd.2 x hx;dsimp only;lia
 dF:=by
  have a:=h.dF;have b:=hd.len;rw [di,aC,zK];cases j with
  | zero=>rw [Nat.zero_mul] at a;rw [Nat.mul_zero];lia
  | succ j=>
   rw [zK] at a;have e:(j+1+1)*(j+1)=(j+1)*j+2*(j+1):=by grind
   rw [e];lia
def So(K:aE):Sp:=fun vs H Q _=>∃(P a:Addr) (ns:List Int) (n:Nat),vs=[.ref P,.int (n:Int)]∧bG H P a∧a7 K (er P H) a (ns.map V.int)∧1≤n∧n≤30 ∧
 ∀(r:Addr) (us:List V) (L:au) (H':Hp),aI P H H'→bG H' P a→er P H r=none→r≠P→H' r=some (.lst us)→aY (er P H') us L→jx n L→Q (.ref r) H'
def Sq(H:Hp)(vs:List V)(j:Nat)(D:Nat→List Nat):Prop:=vs.length=j∧∀k,k<j→f_ k (D k)∧∃b,vs[k]?=some (.ref b)∧H b=some (.lst (fA (D k)))
theorem Er{o:HO}:∀b o',b≠r→er P H b=some o'→er P (upd H r o) b=some o':=fun b o' nb e=>by
 by_cases z:b=P
 ·subst z
  unfold er at e;rw [ae rfl] at e;cases e
 ·rw [eO z] at e ⊢
  rw [aH nb];exact e
theorem aY.cat{zs:List V}(h:aY H us L)(g:aY H zs M):aY H (us++zs) (L++M):=⟨by simp [h.1,g.1],fun k v p h1 h2=>by
 have hl:=h.1;by_cases z:k<us.length
 ·rw [iO z] at h1
  rw [iO (by lia)] at h2
  exact h.2 k v p h1 h2
 ·rw [iM (by lia)] at h1
  rw [iM (by lia),show k-L.length=k-us.length by lia] at h2
  exact g.2 _ v p h1 h2⟩
variable {i:Nat}
theorem Sr{x:V}(h:(fA d)[i]?=some x):∃y,d[i]?=some y∧x=.int (y:Int):=by
 unfold fA at h;rw [bq] at h;cases e:d[i]? with
 | none=>rw [e] at h;cases h
 | some y=>rw [e] at h;cases h;exact ⟨y,rfl,rfl⟩
theorem yj(p:bG H P a)(e:H b=some (.tup xs)):er P H b=some (.tup xs):=by refine x8 (fun z=>?_) e;obtain ⟨x,y,eP,_⟩:=p;rw [z,eP] at e;cases e
structure gZ (j i:Nat) (L:au):Prop where
 nd:L.Nodup
 lt:∀p∈L,0≤p.1∧p.1<p.2∧(p.2<j∨p.2=j∧p.1<i)
 dF:2*L.length≤j*(j-1)+2*i
theorem gZ.start:gZ 0 0 []:=⟨tE,(fun p hp=>by cases hp),by simp⟩
theorem gZ.skip(h:gZ j i L):gZ j (i+1) L:=⟨h.nd,fun p hp=>by
 have:=h.lt p hp;lia,by
 have:=h.dF;lia⟩
theorem gZ.push(h:gZ j i L)(hi:i<j):gZ j (i+1) (L++[((i:Int),(j:Int))]) where
 nd:=by
  refine jL.mpr ⟨h.nd,by simp,fun p hp q hq e=>?_⟩
  rw [bS.mp hq] at e;have:=h.lt p hp;rw [e] at this;dsimp only at this;lia
 lt:=fun p hp=>by
  rcases cZ.mp hp with hp | hp
  ·have:=h.lt p hp
   lia
  ·rw [bS.mp hp]
   dsimp only;lia
 dF:=by have:=h.dF;rw [di,kr];lia
theorem gZ.next(h:gZ j j L):gZ (j+1) 0 L:=⟨h.nd,fun p hp=>by
 have:=h.lt p hp;lia,by
 have a:=h.dF;rw [zK];cases j with
 | zero=>lia
 | succ j=>
  rw [zK] at a;have e:(j+1+1)*(j+1)=(j+1)*j+2*(j+1):=by grind
  rw [e];lia⟩
theorem gZ.ok(h:gZ n 0 L):jx n L:=⟨h.nd,fun p hp=>by
 have:=h.lt p hp;lia,by
 have:=h.dF;have:n*(n-1)≤n*n:=Nat.mul_le_mul_left _ (by lia)
 lia⟩
theorem Ss(n:Nat):(dw n).Nodup:=uD hI fun p q _ _ e=>by have:=V.int.inj e;lia
theorem Su{ys:List V}(h:ys.Perm (dw n)):∃nm:Nat→Int,ys.length=n∧(∀i,i<n→ys[i]?=some (.int (nm i)))∧Eo n nm:=by
 have ln:ys.length=n:=by rw [h.length_eq];unfold dw;simp
 have nd:ys.Nodup:=h.nodup_iff.mpr (Ss n);have each:∀i,∃x:Int,i<n→ys[i]?=some (.int x)∧0≤x∧x<n:=fun i=>by
  by_cases hi:i<n
  ·have bF:i<ys.length:=by lia
   have m:ys[i]∈dw n:=h.mem_iff.mp (bT bF);obtain ⟨k,hk,e⟩:=bD.mp m;have:=bb.mp hk;exact ⟨(k:Int),fun _=>⟨by rw [e];simp [bF],by lia,by lia⟩⟩
  ·exact ⟨0,fun z=>absurd z hi⟩
 obtain ⟨nm,hn⟩:=Classical.axiomOfChoice each;refine ⟨nm,ln,fun i hi=>(hn i hi).1,fun i hi=>(hn i hi).2,fun i j hi hj e=>?_⟩;have a:=(hn i hi).1;have b:=(hn j hj).1;rw [e] at a;have bF:i<ys.length:=by lia
 have d6:j<ys.length:=by lia
 rw [bu bF] at a;rw [bu d6] at b;exact (lC nd).mp ((Option.some.inj a).trans (Option.some.inj b).symm)
def Sv(K:aE):Sp:=fun vs H Q _=>∃(P a:Addr) (ns:List Int) (most:Nat),vs=[.ref P,.int (most:Int)]∧bG H P a∧a7 K (er P H) a (ns.map V.int)∧1≤most∧most≤30 ∧
 ∀(t:Addr) (n:Nat) (L:au) (H':Hp),aI P H H'→bG H' P a→er P H t=none→t≠P→cY (er P H') t n L→jx n L→L.Pairwise lexLt→1≤n→n≤most→Q (.ref t) H'
theorem aY.er(h:aY H us L)(p:bG H P a):aY (er P H) us L:=⟨h.1,fun k v q h1 h2=>by obtain ⟨b,e,g⟩:=h.2 k v q h1 h2;exact ⟨b,e,yj p g⟩⟩
variable {t:Addr}
theorem cY.er(h:cY H t n L)(p:bG H P a):cY (er P H) t n L:=by obtain ⟨lt,us,h1,h2,h3⟩:=h;exact ⟨lt,us,yj p h1,yj p h2,h3.er p⟩
theorem cY.mono(h:cY H t n L)(s:aj H H'):cY H' t n L:=by obtain ⟨lt,us,h1,h2,h3⟩:=h;exact ⟨lt,us,s _ _ h1,s _ _ h2,h3.mono s⟩
theorem Sw(pr:Nat→Bool)(dR:∀R:It→Hp→Prop,(∀J,iX J xs H→R J H)→wi σ H R)(hn:xs.length<sizeLine)
  (P:Addr→Nat→V→Hp→Prop) (mono:∀D i y H H' ys,P D i y H→H D=some (.lst ys)→(∀b o,b≠D→H b=some o→H' b=some o)→P D i y H')
  (test:∀(i:Nat) (x:V),xs[i]?=some x→∀(Hc:Hp) (R:Bool→Hp→Prop),aj H Hc→R (pr i) Hc→tt (some x::ρ σ) Hc R)
  (step:∀D (i:Nat) (x:V),xs[i]?=some x→∀(Hc:Hp) (R:VK),aj H Hc→(∃ys,Hc D=some (.lst ys))→(∀y H3,aj Hc H3→P D i y H3→R y H3)→te (some x::ρ σ) Hc R)
  (fin:∀D ys Hc,H D=none→aj H Hc→ys.length=((List.range xs.length).filter pr).length→(∀(k i:Nat) (y:V),ys[k]?=some y→((List.range xs.length).filter pr)[k]?=some i→P D i y Hc)→Hc D=some (.lst ys)→Q (.ref D) Hc):e_ wi ρ tt te σ H Q:=by
 refine dR _ fun J js=>?_;intro D nD;refine ⟨fun i m ys Hc=>m=xs.length-i∧i≤xs.length∧Hc D=some (.lst ys)∧aj H Hc∧ys.length=((List.range i).filter pr).length∧∀(k i':Nat) (y:V),ys[k]?=some y→((List.range i).filter pr)[k]?=some i'→P D i' y Hc,⟨_,rfl,bY _,av,eN (aj.refl H) nD,rfl,fun k i y h=>by simp at h⟩,?_⟩
 rintro i m ys Hc ⟨rfl,hi,eD,sH,ly,hP⟩;refine ⟨eD,?_⟩;by_cases aV:i<xs.length
 ·refine .inr ⟨js.go i Hc sH aV,fun x H' hy=>?_⟩
  obtain ⟨rfl,hx⟩:=js.eY i Hc x H' sH hy;refine test i x (hx aV) _ _ sH ?_;have fs:(List.range (i+1)).filter pr=(List.range i).filter pr++(if pr i=true then [i] else []):=by
   rw [s_,mY]
   congr 1
   cases e:pr i <;> simp [e]
  have fl:((List.range i).filter pr).length≤i:=bR (tF _ _) (by simp)
  cases e:pr i with
  | true=>
   rw [ae rfl];refine step D i x (hx aV) _ _ sH ⟨_,eD⟩ fun y H3 s3 hp=>?_;have e3:=s3 _ _ eD;have cf:∀b o,b≠D→H3 b=some o→upd H3 D (.lst (ys++[y])) b=some o:=fun b o nb e=>by rw [aH nb];exact e
   refine ⟨e3,by lia,xs.length-(i+1),by lia,rfl,aV,av,eN (sH.trans s3) nD,?_,fun k i' y' h1 h2=>?_⟩
   ·rw [fs,e,ae rfl,di,di,ly]
    rfl
   ·rw [fs,e,ae rfl] at h2
    by_cases z:k<ys.length
    ·rw [iO z] at h1
     rw [iO (by lia)] at h2
     refine mono D i' y' H' _ ys (hP k i' y' h1 h2) eD fun b o nb e=>cf b o nb (s3 _ _ e)
    ·have hk:=(cu.mp h1).1
     rw [di,kr] at hk;obtain rfl:k=ys.length:=by lia
     rw [iM (ax _),wY] at h1;rw [iM (by lia),show ys.length-((List.range i).filter pr).length=0 by lia] at h2
     cases h1;cases h2;exact mono D _ _ H3 _ ys hp e3 cf
  | false=>
   rw [aa (by simp)]
   refine ⟨xs.length-(i+1),by lia,rfl,aV,eD,sH,?_,fun k i' y' h1 h2=>?_⟩
   ·rw [fs,e,aa (by simp),ko]
    exact ly
   ·rw [fs,e,aa (by simp),ko] at h2
    exact hP k i' y' h1 h2
 ·have e:i=xs.length:=by lia
  subst e;exact .inl ⟨js.stop _ Hc sH (ax _),fin D ys Hc nD sH ly hP eD⟩
def Es(n:Nat)(f:Nat→Nat→Bool)(i:Nat):List (Int×Int):=((List.range (n-(i+1))).filter fun k=>f i (i+1+k)).map fun k=>((i:Int),((i+1+k:Nat):Int))
def yk(n:Nat)(f:Nat→Nat→Bool):Nat→List (Int×Int)
 | 0=>[]
 | i+1=>yk n f i++Es n f i
variable {f:Nat→Nat→Bool}
theorem JR(h:p∈Es n f i):∃j,i<j∧j<n∧f i j=true∧p=((i:Int),(j:Int)):=by obtain ⟨k,hk,rfl⟩:=bD.mp h;obtain ⟨h1,h2⟩:=bI.mp hk;have:=bb.mp h1;exact ⟨i+1+k,by lia,by lia,h2,rfl⟩
theorem Sx(h1:i<j)(h2:j<n)(h3:f i j=true):((i:Int),(j:Int))∈Es n f i:=by
 refine bD.mpr ⟨j-(i+1),bI.mpr ⟨bb.mpr (by lia),?_⟩,?_⟩
 ·show f i (i+1+(j-(i+1)))=true
  rw [show i+1+(j-(i+1))=j by lia]
  exact h3
 ·rw [show i+1+(j-(i+1))=j by lia]
theorem mem_of{n:Nat}{f:Nat→Nat→Bool}{p:Int×Int}:∀{k:Nat},p∈yk n f k→∃i j,i<k∧i<j∧j<n∧f i j=true∧p=((i:Int),(j:Int))
 | 0,h=>by cases h
 | k+1,h=>by
  rcases cZ.mp h with h | h
  ·obtain ⟨i,j,h1,h2⟩:=mem_of h
   exact ⟨i,j,by lia,h2⟩
  ·obtain ⟨j,h1⟩:=JR h
   exact ⟨k,j,by lia,h1⟩
theorem JS{n:Nat}{f:Nat→Nat→Bool}{i j:Nat}(h1:i<j)(h2:j<n)(h3:f i j=true):∀{k:Nat},i<k→((i:Int),(j:Int))∈yk n f k
 | k+1,h=>by
  by_cases z:i=k
  ·subst z
   exact d9 _ (Sx h1 h2 h3)
  ·exact kj _ (JS h1 h2 h3 (by lia))
theorem JT{n:Nat}{f:Nat→Nat→Bool}:∀k,(yk n f k).Pairwise lexLt
 | 0=>List.Pairwise.nil
 | k+1=>by
  refine tj.mpr ⟨JT k,?_,fun p hp q hq=>?_⟩
  ·refine mZ.mpr ((w_.sublist List.filter_sublist).imp fun h=>?_)
   right;dsimp only;lia
  ·obtain ⟨i,j,h1,_,_,_,rfl⟩:=mem_of hp
   obtain ⟨j',_,_,_,rfl⟩:=JR hq;left;dsimp only;lia
theorem JU:¬lexLt p p:=fun h=>by unfold lexLt at h;lia
theorem Sy{q:Int×Int}(h1:lexLt p q)(h2:lexLt q p):False:=by unfold lexLt at h1 h2;lia
theorem Et:∀{A B:au},A.Pairwise lexLt→B.Pairwise lexLt→(∀p,p∈A↔p∈B)→A=B
 | [],[],_,_,_=>rfl
 | [],b::B,_,_,h=>absurd ((h b).mpr bV) (by simp)
 | a::A,[],_,_,h=>absurd ((h a).mp bV) (by simp)
 | a::A,b::B,ha,hb,h=>by
  obtain ⟨a1,a2⟩:=p9.mp ha;obtain ⟨b1,b2⟩:=p9.mp hb;have e:a=b:=by
   rcases bh.mp ((h a).mp bV) with z | z;·exact z
   ·rcases bh.mp ((h b).mpr bV) with y | y
    ·exact y.symm
    ·exact (Sy (b1 a z) (a1 b y)).elim
  subst e;rw [Et a2 b2 fun p=>⟨fun m=>?_,fun m=>?_⟩]
  ·rcases bh.mp ((h p).mp (bX _ m)) with z | z
   ·subst z
    exact (JU (a1 _ m)).elim
   ·exact z
  ·rcases bh.mp ((h p).mpr (bX _ m)) with z | z
   ·subst z
    exact (JU (b1 _ m)).elim
   ·exact z
end My
namespace L2
open PySem PySem.Spec PyProof.Rows
end L2
namespace My
open PySem L2
end My
namespace L2
open PySem PySem.Spec PyProof.Rows
section
variable (P:Program) (w:World)
end
section
variable {P:Program} {w:World} {H H':Hp} {h h':Heap} {a:Addr} {o:HO}
end
section
variable {P:Program} {w:World} {H:Hp} {h h':Heap} {x e:Addr} {o':HO}
end
section
variable {fs C_ ex xh:List Addr} {H H1 H2:Hp} {h h1 h2 h':Heap} {a x e:Addr} {o:HO}
end
section
variable {X:Cx} {pins:aK} {σ:List (Option V)} {H H':Hp} {s:Shared} {h':Heap}
end
section
variable {X:Cx}
variable {a b:Expr} {ta tb:TE} {pos:Pos}
variable {tA xr:TT} {rest:List Expr}
end
section
variable {X:Cx} {pins:aK} {σ:St} {H:Hp} {s:Shared} {a:Addr} {xs ys:List V}
end
section
variable {X:Cx} {pins:aK} {σ:St} {H:Hp} {s:Shared} {E:aM}
end
section
variable {X:Cx} {st:Stmt} {rest:List Stmt} {t u:TS} {e:Expr} {te:TE} {pos:Pos}
end
section
variable {X:Cx} {pos:Pos}
end
section
variable {X:Cx} {pos:Pos}
end
section
variable {X:Cx} {tg:Expr}
end
section
variable {X:Cx} {a b c:Expr} {ta tb tc:TE} {pos:Pos}
end
section
variable {X:Cx} {a b c:Expr} {ta tb tc:TE} {pos:Pos}
end
section
variable {prog:Program} {w:World} {A:Around} {E:aM} {s:Shared} {K:aE} {x dx C f:Addr} {mA:cJ} {name:Str} {v:Value}
end
section
variable {P:Program} {w:World} {H H':Hp} {h h':Heap} {a C dx:Addr} {fs C_:List (Str×V)}
end
section
variable {X:Cx} {pins:aK} {σ:St} {H:Hp} {s:Shared} {a C dx:Addr} {fs:List (Str×V)} {f:Str} {v:V} {A:Around} {E:aM}
end
section
variable {X:Cx} {o e value:Expr} {f:Str} {pos pos' tR:Pos} {ta tv:TE}
end
section
variable {X:Cx} {pins:aK} {σ:St} {H:Hp} {s:Shared} {A:Around} {E:aM} {Q:aM} {c:Value} {b:Bool}
end
section
variable {X:Cx} {e:Expr} {es:List Expr} {te:TE} {t:TA} {pos:Pos}
end
section
variable {X:Cx} {pins:aK} {σ:St} {H:Hp} {s s':Shared}
end
section
variable {X:Cx} {CX:iS} {k:Nat} {f C:Addr} {fd:FuncData} {ps:List Str} {sp:Sp} {lT:List V} {ds:List Value} {E:XK} {x m:Str} {p pos apos:Pos} {e o:Expr} {es:List Expr} {ta:TE} {t:TA}
end
section
variable {X:Cx} {CX:iS} {k:Nat} {f C:Addr} {fd:FuncData} {ps ks:List Str} {sp:Sp} {E:XK} {x m:Str} {p pos apos Ir:Pos} {e o:Expr} {es:List Expr} {P2:List Keyword} {te ta:TE} {t tk:TA} {nm:Option Str}
variable {g:List Value→List Value→List Value} {gV:List V→List V→List V}
end
section
variable {X:Cx} {x:Str} {p pos:Pos} {e:Expr} {es:List Expr} {t:TA} {id T:String} {r:List V→Hp→VK→Prop}
end
section
variable {κ:Type} [DecidableEq κ]
def gb(kvs:List (κ×V))(k:κ):Option V:=(kvs.find? fun kv=>decide (kv.1=k)).map (·.2)
def putK(kvs:List (κ×V))(k:κ)(v:V):List (κ×V):=
 if (kvs.any fun kv=>decide (kv.1=k))=true then kvs.map (fun kv=>if kv.1=k then (kv.1,v) else kv) else kvs++[(k,v)]
variable {p:κ×V} {r:List (κ×V)} {k:κ}
theorem AL(e:p.1=k):gb (p::r) k=some p.2:=by simp [gb,p_,e]
theorem AM(e:¬p.1=k):gb (p::r) k=gb r k:=by simp [gb,p_,e]
theorem JV(k:κ):∀kvs:List (κ×V),(kvs.any fun kv=>decide (kv.1=k))=(gb kvs k).isSome
 | []=>rfl
 | p::r=>by
  rw [oj];by_cases e:p.1=k;·simp only [AL e,a_ e,Bool.true_or,Option.isSome_some]
  ·rw [AM e,bL e,Bool.false_or];exact JV k r
theorem Eu(kvs:List (κ×V))(k:κ)(v:V):(putK kvs k v).length≤kvs.length+1:=by
 unfold putK
 split
 ·rw [aC];lia
 ·rw [di,dY,List.length_nil];lia
theorem kD.Ew{o:Option V}{u:Option Value}(r:kD o u):o.isSome=u.isSome:=by
 cases o with
 | none=>cases u with
  | none=>rfl
  | some _=>exact (show False from r).elim
 | some _=>cases u with
  | none=>exact (show False from r).elim
  | some _=>rfl
variable {kvs:List (κ×V)} {vs:List (κ×Value)}
theorem KV.val(r:KV kvs vs)(k:κ):kD (gb kvs k) (valueAt vs k):=by
 unfold KV at r
 induction r with
 | nil=>exact True.intro
 | @cons p q ps qs h t ih=>
  obtain ⟨h1,h2⟩:=h;by_cases e:p.1=k
  ·have e':q.1=k:=h1.symm.trans e
   have b:valueAt (q::qs) k=some q.2:=by simp [valueAt,p_,e']
   rw [AL e,b];exact h2
  ·have e':¬q.1=k:=fun z=>e (h1.trans z)
   have b:valueAt (q::qs) k=valueAt qs k:=by simp [valueAt,p_,e']
   rw [AM e,b];exact ih
theorem KV.any(r:KV kvs vs)(k:κ):(kvs.any fun kv=>decide (kv.1=k))=vs.any fun kv=>decide (kv.1=k):=by
 unfold KV at r
 induction r with
 | nil=>rfl
 | cons h t ih=>rw [oj,oj,ih,h.1]
variable {y:V} {u:Value}
theorem KV.Ex(r:KV kvs vs)(k:κ)(ry:RelV y u) :
  KV (kvs.map fun kv=>if kv.1=k then (kv.1,y) else kv) (vs.map fun kv=>if kv.1=k then (kv.1,u) else kv):=by
 unfold KV at r ⊢
 induction r with
 | nil=>exact .nil
 | @cons p q ps qs h t ih=>
  rw [cR,cR];refine .cons ?_ ih;obtain ⟨h1,h2⟩:=h;by_cases e:p.1=k;·rw [ae e,ae (h1.symm.trans e)];exact ⟨h1,ry⟩
  ·rw [aa e,aa (fun z=>e (h1.trans z))];exact ⟨h1,h2⟩
theorem KV.put(r:KV kvs vs)(k:κ)(ry:RelV y u):KV (putK kvs k y) (stored vs k u):=by
 unfold putK stored;rw [r.any k];by_cases e:(vs.any fun kv=>decide (kv.1=k))=true;·rw [ae e,ae e];exact r.Ex k ry
 ·rw [aa e,aa e];exact Paired.snoc r ⟨rfl,ry⟩
theorem KV.length(r:KV kvs vs):kvs.length=vs.length:=Paired.length r
end
variable {P:Program} {w:World} {u:Value}
theorem yl{k:Key}(r:RelV (kV k) u):(gN P w).is k u=true:=by
 cases k with
 | inl i=>obtain ⟨t,e⟩:=(show ∃t,u=Value.int i t from r);subst e;exact OJ P w i t
 | inr x=>obtain ⟨t,e⟩:=(show ∃t,u=Value.str x t from r);subst e;exact OK P w x t
theorem JW{P:Program}{w:World}:∀{ks:List Key} {us:List Value},Vals (ks.map kV) us→ItemsAre (gN P w) ks us
 | [],_,r=>by rw [sY] at r;cases r;exact .nil
 | k::ks,_,r=>by
  rw [cR] at r;cases r with
  | cons h t=>exact .cons (yl h) (JW t)
abbrev KT (H:Hp):List (List Key×V)→List (List Key×Addr×Value)→Prop:=Paired fun p q=>p.1=q.1∧H q.2.1=some (.tup (p.1.map kV))∧RelV p.2 q.2.2
variable {H:Hp} {kvs:List (List Key×V)} {xs:List (List Key×Addr×Value)}
theorem KT.val(r:KT H kvs xs)(k:List Key):kD (gb kvs k) ((atKey xs k).map (·.2)):=by
 induction r with
 | nil=>exact True.intro
 | @cons p q ps qs h t ih=>
  obtain ⟨h1,_,h2⟩:=h;by_cases e:p.1=k
  ·have e':q.1=k:=h1.symm.trans e
   have b:atKey (q::qs) k=some q.2:=by simp [atKey,p_,e']
   rw [AL e,b];exact h2
  ·have e':¬q.1=k:=fun z=>e (h1.trans z)
   have b:atKey (q::qs) k=atKey qs k:=by simp [atKey,p_,e']
   rw [AM e,b];exact ih
variable {y:V}
theorem KT.Ex(r:KT H kvs xs)(k:List Key)(ry:RelV y u) :
  KT H (kvs.map fun kv=>if kv.1=k then (kv.1,y) else kv) (xs.map (putAt k u)):=by
 induction r with
 | nil=>exact .nil
 | @cons p q ps qs h t ih=>
  rw [cR,cR];refine .cons ?_ ih;obtain ⟨h1,h2,h3⟩:=h;unfold putAt;by_cases e:p.1=k;·rw [ae e,ae (h1.symm.trans e)];exact ⟨h1,h2,ry⟩
  ·rw [aa e,aa (fun z=>e (h1.trans z))];exact ⟨h1,h2,h3⟩
theorem KT.put(r:KT H kvs xs)(k:List Key){b:Addr}(hb:H b=some (.tup (k.map kV)))(ry:RelV y u) :
  KT H (putK kvs k y) (storedH xs k b u):=by
 have e:(kvs.any fun kv=>decide (kv.1=k))=(atKey xs k).isSome:=by rw [JV,(r.val k).Ew,zL]
 unfold putK storedH;rw [e];by_cases q:(atKey xs k).isSome=true;·rw [ae q,ae q];exact r.Ex k ry
 ·rw [aa q,aa q];exact Paired.snoc r ⟨rfl,hb,ry⟩
theorem KT.keeps{H':Hp}(r:KT H kvs xs)(ht:∀b ys,H b=some (.tup ys)→H' b=some (.tup ys)):KT H' kvs xs:=
 Paired.C9 r fun _ _ z=>⟨z.1,ht _ _ z.2.1,z.2.2⟩
section
variable {P:Program} {w:World} {H:Hp} {h:Heap} {a:Addr}
theorem JX{u:HO}(ok:cy P w H h)(e:Rd H a u):cw P w H h a u:=e.ok ok
theorem AN{kvs:List (Key×V)}(ok:cy P w H h)(e:Rd H a (.dK kvs)):kvs.length≤sizeLine∧(a == sysModules)=false∧∃vs,KV kvs vs∧h.DictOf (gN P w) a vs:=
 show cw P w H h a (.dK kvs) from JX ok e
theorem JY{kvs:List (Key×V)}(ok:cy P w H h)(e:H a=some (.dK kvs)):kvs.length≤sizeLine∧(a == sysModules)=false∧∃vs,KV kvs vs∧h.DictOf (gN P w) a vs:=AN ok (.inl e)
theorem AO{ks:List Key}(ok:cy P w H h)(e:H a=some (.tup (ks.map kV))):(tupleKind (gN P w)).is h ks a:=by obtain ⟨_,its,r,o,h1,h2,n,h3⟩:=(show cw P w H h a (.tup (ks.map kV)) from ok a _ e);exact ⟨o,its.toArray,n,h1,h2,h3,by simpa using JW r⟩
theorem AQ(ok:cy P w H h)(e:Rd H a (.dT kvs)):kvs.length≤sizeLine∧(a == sysModules)=false ∧
  ∃xs,KT H kvs xs∧h.DictOfH (tupleKind (gN P w)) a xs:=by
 obtain ⟨z,y,xs,r,o,es,ep,h1,h2,h3,h4,h5⟩:=(show cw P w H h a (.dT kvs) from JX ok e);refine ⟨z,y,xs,r,o,es,ep,h1,h2,h3,h4,fun x hx=>?_,h5⟩;have all:∀{l:List (List Key×V)} {m:List (List Key×Addr×Value)},KT H l m→∀x∈m,(tupleKind (gN P w)).is h x.1 x.2.1:=by
  intro l m q
  induction q with
  | nil=>intro x hx;exact nomatch hx
  | @cons p q ps qs hq t ih=>
   intro x hx;rcases bh.mp hx with e | hx
   ·subst e
    exact AO ok (by rw [←hq.1];exact hq.2.1)
   ·exact ih x hx
 exact all r x hx
theorem Sz(ok:cy P w H h)(e:H a=some (.dT kvs)):kvs.length≤sizeLine∧(a == sysModules)=false ∧
  ∃xs,KT H kvs xs∧h.DictOfH (tupleKind (gN P w)) a xs:=AQ ok (.inl e)
end
def ym(H:Hp)(a:Addr)(y:V)(r:Option V):Prop:=
 (∃kvs k,Rd H a (.dK kvs)∧y=kV k∧r=gb kvs k)∨∃kvs k b,Rd H a (.dT kvs)∧y=.ref b∧H b=some (.tup (k.map kV))∧r=gb kvs k
def Ey(H:Hp)(a:Addr)(y v:V)(H':Hp):Prop:=
 (∃kvs k,H a=some (.dK kvs)∧y=kV k∧kvs.length<sizeLine∧H'=upd H a (.dK (putK kvs k v))) ∨
 ∃kvs k b,H a=some (.dT kvs)∧y=.ref b∧H b=some (.tup (k.map kV))∧kvs.length<sizeLine∧H'=upd H a (.dT (putK kvs k v))
section
variable {X:Cx} {pins:aK} {σ:St} {H:Hp} {s:Shared} {a:Addr} {y v:V} {u r:Value} {o:Option V} {A:Around} {E:aM}
theorem Inv.big(I:Inv X pins σ H s):sysModules<s.heap.objs.size:=by have h:mainGlobals<s.heap.objs.size:=(I.mod.glob.keeps I.bk).lt;exact Nat.lt_trans (by decide) h
variable {Q:aM}
theorem SA(hu:A.units+1<cLine)(I:Inv X pins σ H s)(g:ym H a y (some v))(ry:RelV y u)(h:∀w' s',Inv X pins σ H s'→RelV v w'→Q w' s') :
  wpAny (model X.prog X.w) A (getItem (.ref a) u) Q E s:=by
 rcases g with ⟨kvs,k,e,ey,l⟩ | ⟨kvs,k,b,e,ey,eb,l⟩
 ·subst ey
  obtain ⟨z,hd,vs,rel,dd⟩:=AN I.ay e;obtain ⟨w',hw,eI⟩:=kD.some_of (v:=v) (o:=valueAt vs k) (by rw [l];exact rel.val k)
  exact wpAny_getItem_of (yl ry) dd.mapOf hw (h w' _ (I.tok _) eI)
 ·subst ey
  cases (show u=Value.ref b from ry);obtain ⟨z,hd,xs,rel,dd⟩:=AQ I.ay e;obtain ⟨w',hw,eI⟩:=kD.some_of (v:=v) (o:=(atKey xs k).map (·.2)) (by rw [l];exact rel.val k)
  obtain ⟨p,hp,SD⟩:=Option.map_eq_some_iff.mp hw;refine wpAny_getItem_heap (tupleKind_room_in1 hu) (AO I.ay eb) dd hp ?_;rw [SD];exact h w' _ (I.tok _) eI
theorem SE(hu:A.units+1<cLine)(I:Inv X pins σ H s)(g:ym H a y o)(ry:RelV y u)(h:∀s',Inv X pins σ H s'→Q (.bool (!o.isSome)) s') :
  wpAny (model X.prog X.w) A (compareOp .NotIn u (.ref a)) Q E s:=by
 rcases g with ⟨kvs,k,e,ey,l⟩ | ⟨kvs,k,b,e,ey,eb,l⟩
 ·subst ey
  obtain ⟨z,hd,vs,rel,dd⟩:=AN I.ay e;refine wpAny_notIn_of (yl ry) hd dd.mapOf ?_;rw [←(rel.val k).Ew,←l];exact h _ (I.tok _)
 ·subst ey
  cases (show u=Value.ref b from ry);obtain ⟨z,hd,xs,rel,dd⟩:=AQ I.ay e;refine wpAny_notIn_heap (tupleKind_room_in1 hu) (AO I.ay eb) hd dd ?_;have q:=(rel.val k).Ew;rw [zL] at q;rw [←q,←l];exact h _ (I.tok _)
variable {h':Heap}
theorem Ez{t':Nat}{ob:HO}(I:Inv X pins σ H s)(mu:xg (H a))(hs:Heap.SameBut a s.heap h')(he:∃q,h'.get? a=some q)(new:cw X.prog X.w (upd H a ob) h' a ob) :
  Inv X pins σ (upd H a ob) {s with heap:=h',toks:=t'}:=
 I.write (x:=a) (e:=a) mu (.inl rfl) (fun b q hb z=>(hs.2 b hb).trans z) he new
variable {H':Hp}
theorem JZ{kvs:List (Key×V)}{vs:List (Key×Value)}(z:kvs.length≤sizeLine)(hd:(a == sysModules)=false)(rel:KV kvs vs)(dd:h'.DictOf (gN P w) a vs) :
  cw P w H' h' a (.dK kvs):=⟨z,hd,vs,rel,dd⟩
theorem SF{Q:Unit→Shared→Prop}(hu:A.units+1<cLine)(I:Inv X pins σ H s)(g:Ey H a y v H')(ry:RelV y u)(rv:RelV v r)(h:∀s',Inv X pins σ H' s'→Q () s') :
  wpAny (model X.prog X.w) A (setItem (.ref a) u r) Q E s:=by
 rcases g with ⟨kvs,k,e,ey,l,eH⟩ | ⟨kvs,k,b,e,ey,eb,l,eH⟩
 ·subst ey eH
  obtain ⟨z,hd,vs,rel,dd⟩:=JY I.ay e;have hz:vs.length≤sizeLine:=by rw [←rel.length];exact z
  have hl:(putK kvs k v).length≤sizeLine:=by have:=Eu kvs k v;lia
  refine wpAny_setItem_pairs (hsz:=hz) (yl ry) dd fun h' oK hs=>h _ ?_;have he:∃q,h'.get? a=some q:=let ⟨q,_,_,hq,_⟩:=oK;⟨q,hq⟩
  exact Ez I (by rw [e];exact True.intro) hs he (JZ hl hd (rel.put k rv) oK)
 ·subst ey eH
  cases (show u=Value.ref b from ry);obtain ⟨z,hd,xs,rel,dd⟩:=Sz I.ay e;have hz:xs.length≤sizeLine:=by rw [←Paired.length rel];exact z
  have hl:(putK kvs k v).length≤sizeLine:=by have:=Eu kvs k v;lia
  refine wpAny_setItem_heap (hsz:=hz) (tupleKind_room_in1 hu) (AO I.ay eb) dd fun h' oK hs=>h _ ?_;obtain ⟨q,es,ep,hq,h2,h3,h4,_,h5⟩:=oK;refine Ez I (by rw [e];exact True.intro) hs ⟨q,hq⟩ ⟨hl,hd,_,(rel.put k eb rv).keeps fun c ys ec=>?_,q,es,ep,hq,h2,h3,h4,h5⟩
  rw [aH (OL ec e (fun z=>nomatch z))];exact ec
end
section
variable {X:Cx} {pins:aK} {σ:St} {H:Hp} {s:Shared} {a:Addr} {kvs:List (Key×V)} {k:Key} {u:Value} {A:Around} {E:aM}
end
def J0(i:Expr):Prop:=∀ov iv,subscripted i false ov iv=operate [ov,iv] (getItem ov iv)
variable {s:Shared} {pos:Pos}
theorem SG{prog:Program}{A:Around}{E:aM}{env:Env}{value slice:Expr}{T id:String}{Q:aM}
  (hl:typeLookup (.type T) "__getitem__"=pure (some (.builtin id))) (hs:J0 slice)
  (h:wpAny (model prog w) A (eval value env) (fun o s₁=>wpAny (model prog w) A (eval slice env) (fun i s₂=>s₂.TypeIs o T∧wpAny (model prog w) A (getItem o i) Q E s₂) E s₁) E s) :
  wpAny (model prog w) A (eval (.Subscript value slice pos) env) Q E s:=by
 refine Subscript_ (c_ h (fun o s₁ h₁=>c_ h₁ (fun i s₂ h₂=>?_) fun _ _ x=>x) fun _ _ x=>x);obtain ⟨hT,h₂⟩:=h₂;unfold subscriptTail;refine bo ?_;rw [getitemInPython_of_ne hT.not_modules];refine bo (wpAny_specialOf hT hl ?_);have fin:wpAny (model prog w) A (subscripted slice false o i) (fun r s₃=>wpAny (model prog w) A (letTemporaryGo value o r >>= fun _=>pure r) Q E s₃) E s₂:=by rw [hs o i];exact wpAny_operating (c_ h₂ (fun r s₃ h₃=>bo (wpAny_letTemporaryGo (dB h₃))) fun _ _ x=>x)
 first
  | exact dB (bo fin)
  | exact bo (dB (bo fin))
  | exact bo fin
variable {X:Cx}
theorem SH{pins:aK}{σ:St}{a:Addr}{o:Option V}(I:Inv X pins σ H s)(g:ym H a y o):s.TypeIs (.ref a) "dict":=by
 rcases g with ⟨kvs,k,e,_,_⟩ | ⟨kvs,k,b,e,_,_,_⟩
 ·obtain ⟨_,_,vs,_,dd⟩:=AN I.ay e
  exact dd.typeIs
 ·obtain ⟨_,_,xs,_,dd⟩:=AQ I.ay e
  exact dd.typeIs
def SI(td ty:TE):TE:=fun σ H Q=>td σ H fun x H1=>ty σ H1 fun y H2=>∃a v,x=.ref a∧ym H2 a y (some v)∧Q v H2
def SJ(ty td:TE):TE:=fun σ H Q=>ty σ H fun y H1=>td σ H1 fun x H2=>∃a o,x=.ref a∧ym H2 a y o∧Q (.bl (!o.isSome)) H2
def SK(td ty tv:TE):TS:=fun D σ H=>tv σ H fun v H1=>td σ H1 fun x H2=>ty σ H2 fun y H3=>∃a H4,x=.ref a∧Ey H3 a y v H4∧D.nx σ H4
section
variable {X:Cx} {o i e value:Expr} {pos pos' tR:Pos} {td ty tv:TE}
theorem SM(hu:X.A.units+1<cLine)(ho:PE X o td)(hi:PE X i ty)(hs:J0 i):PE X (.Subscript o i pos) (SI td ty):=by intro pins s σ H Q I h;refine SG PySem.F.slot_dict_getitem.lookup hs (aJ (ho pins s σ H _ I h) fun u s1 ⟨x,H1,I1,rx,q1⟩=>aJ (hi pins s1 σ H1 _ I1 q1) fun iv s2 ⟨y,H2,I2,ry,a,v,ex,g,q2⟩=>?_);subst ex;obtain rfl:u=Value.ref a:=rx;exact ⟨SH I2 g,SA hu I2 g ry fun w' s3 I3 eI=>⟨v,H2,I3,eI,q2⟩⟩
theorem AR(hu:X.A.units+1<cLine)(hi:PE X i ty)(ho:PE X o td):PC X .NotIn i o (SJ ty td):=by intro pins s σ H Q I h;refine aJ (hi pins s σ H _ I h) fun iv s1 ⟨y,H1,I1,ry,q1⟩=>aJ (ho pins s1 σ H1 _ I1 q1) fun u s2 ⟨x,H2,I2,rx,a,ov,ex,g,q2⟩=>?_;subst ex;obtain rfl:u=Value.ref a:=rx;exact SE hu I2 g ry fun s3 I3=>⟨.bl (!ov.isSome),H2,I3,rfl,q2⟩
theorem yn(hu:X.A.units+1<cLine)(ho:PE X o td)(hi:PE X i ty)(hv:PE X value tv)(hs:swapsWith value (some (.Subscript o i pos')) pos.line X.env=pure false) :
  PS X (.Assign [.Subscript o i pos'] value pos) (SK td ty tv):=by
 intro pins s σ H D I h;refine wpAny_Assign_Subscript (aJ (hv pins s σ H _ I h) fun r s1 ⟨v,H1,I1,rv,q1⟩=>aJ (ho pins s1 σ H1 _ I1 q1) fun u s2 ⟨x,H2,I2,rx,q2⟩=>aJ (hi pins s2 σ H2 _ I2 q2) fun iv s3 ⟨y,H3,I3,ry,a,H4,ex,g,q3⟩=>?_) hs;subst ex;obtain rfl:u=Value.ref a:=rx;exact SF hu I3 g ry rv fun s4 I4=>⟨σ,H4,I4,q3⟩
end
theorem J1(h:Heap)(hb:sysModules<h.objs.size):cw P w H (h.push {cls:=.type "dict",data:=.dict #[]}) h.objs.size (.dK []):=
 ⟨bY _,n5.mpr (Ne.symm (cq hb)),[],.nil,Heap.DictOf.new h⟩
def SN:TE:=fun _ H Q=>∀p,H p=none→Q (.ref p) (upd H p (.dK []))
section
variable {X:Cx} {pos:Pos}
theorem SO:PE X (.Dict [] [] pos) SN:=fun pins s σ H Q I h=>wpAny_Dict_empty ⟨.ref s.heap.objs.size,_,I.laid (a:=s.heap.objs.size) (o:=.dK []) (t':=s.toks) (fun _ _ q=>cg _ q) (ax _) (J1 s.heap I.big),rfl,h _ (I.ay.fresh (ax _))⟩
end
def EA:List (TE×TE)→St→Hp→(List (V×V)→Hp→Prop)→Prop
 | [],_,H,Q=>Q [] H
 | (tk,tv)::r,σ,H,Q=>tk σ H fun x H1=>tv σ H1 fun y H2=>EA r σ H2 fun ps H3=>Q ((x,y)::ps) H3
abbrev VV:List (V×V)→List (Value×Value)→Prop:=Paired fun p q=>RelV p.1 q.1∧RelV p.2 q.2
def AS(X:Cx)(pos:Pos)(keys:List (Option Expr))(values:List Expr)(nI:List (TE×TE)):Prop:=
 ∀(pins:aK) (s:Shared) (σ:St) (H:Hp) (Q:List (V×V)→Hp→Prop),Inv X pins σ H s→EA nI σ H Q→
  wpAny (model X.prog X.w) X.A (evalPairs (pairTrees keys values X.env pos)) (fun vs s'=>∃ps H',Inv X pins σ H' s'∧VV ps vs∧Q ps H') X.xe s
theorem J2:AS X pos [] [] []:=fun pins s σ H Q I h=>pairTrees_nil_walk ⟨[],H,I,.nil,h⟩
variable {nI:List (TE×TE)}
theorem EB{k v:Expr}{ks:List (Option Expr)}{vs:List Expr}{tk tv:TE}(hk:PE X k tk)(hv:PE X v tv)(hr:AS X pos ks vs nI) :
  AS X pos (some k::ks) (v::vs) ((tk,tv)::nI):=fun pins s σ H Q I h=>
 pairTrees_cons_walk (aJ (hk pins s σ H _ I h) fun u s1 ⟨x,H1,I1,rx,q1⟩=>aJ (hv pins s1 σ H1 _ I1 q1) fun w2 s2 ⟨y,H2,I2,ry,q2⟩=>aJ (hr pins s2 σ H2 _ I2 q2) fun ws s3 ⟨ps,H3,I3,rel,q3⟩=>⟨(x,y)::ps,H3,I3,.cons ⟨rx,ry⟩ rel,q3⟩)
def kZ(kvs more:List (Key×V)):List (Key×V):=more.foldl (fun acc kv=>putK acc kv.1 kv.2) kvs
theorem KV.merge:∀{more:List (Key×V)} {rs:List (Key×Value)} {kvs:List (Key×V)} {vs:List (Key×Value)},KV more rs→KV kvs vs→KV (kZ kvs more) (merged vs rs):=by
 intro more rs kvs vs r;unfold KV at r
 induction r generalizing kvs vs with
 | nil=>intro q;exact q
 | @cons p q ps qs h t ih=>
  intro r0;have e:KV (putK kvs p.1 p.2) (stored vs q.1 q.2):=by have:=r0.put p.1 h.2;rw [←h.1];exact this
  exact ih e
theorem J3:∀(more kvs:List (Key×V)),(kZ kvs more).length≤kvs.length+more.length
 | [],kvs=>by show kvs.length≤kvs.length+0;lia
 | p::r,kvs=>by have h1:=J3 r (putK kvs p.1 p.2);have h2:=Eu kvs p.1 p.2;show (kZ (putK kvs p.1 p.2) r).length≤_;rw [dY];lia
theorem J4{P:Program}{w:World}:∀{kvs:List (Key×V)} {ws:List (Value×Value)},VV (kvs.map fun kv=>(kV kv.1,kv.2)) ws→∃rs,Carries (gN P w) ws rs∧KV kvs rs
 | [],_,r=>by rw [sY] at r;cases r;exact ⟨[],True.intro,.nil⟩
 | p::kvs,_,r=>by
  rw [cR] at r;cases r with
  | @cons a b as bs h t=>obtain ⟨rs,c,q⟩:=J4 (P:=P) (w:=w) t;obtain ⟨b1,b2⟩:=b;exact ⟨(p.1,b2)::rs,⟨yl h.1,rfl,c⟩,.cons ⟨rfl,h.2⟩ q⟩
def SQ(nI:List (TE×TE)):TE:=fun σ H Q=>∀p,H p=none→EA nI σ (upd H p (.dK [])) fun ps H2=>H2 p=some (.dK [])∧∃kvs:List (Key×V),ps=kvs.map (fun kv=>(kV kv.1,kv.2))∧kvs.length≤15∧Q (.ref p) (upd H2 p (.dK (kZ [] kvs)))
theorem J5{keys:List (Option Expr)}{values:List Expr}(h:AS X pos keys values nI)(DO:keys.all (·.isSome)=true)(hl:keys.length=values.length)(h0:keys≠[])
  (SR:keys.length≤15):PE X (.Dict keys values pos) (SQ nI):=by
 intro pins s σ H Q I q;have hn:=I.ay.fresh (ax s.heap.objs.size);have I1:=I.laid (a:=s.heap.objs.size) (o:=.dK []) (h':=s.heap.push {cls:=.type "dict",data:=.dict #[]}) (t':=s.toks) (fun _ _ q=>cg _ q) (ax _) (J1 s.heap I.big);refine wpAny_Dict_walk (knd:=gN X.prog X.w) DO hl h0 SR (aJ (h pins _ σ _ _ I1 (q _ hn)) fun ws s2 ⟨ps,H2,I2,rel,e,kvs,ep,lk,q2⟩=>?_);subst ep;obtain ⟨rs,c,rk⟩:=J4 (P:=X.prog) (w:=X.w) rel;obtain ⟨z,hd,vs0,r0,dd⟩:=JY I2.ay e;cases r0;refine ⟨rs,c,dd,fun h' oK hs=>⟨.ref s.heap.objs.size,_,?_,rfl,q2⟩⟩;have hz:(kZ [] kvs).length≤sizeLine:=by have h1:=J3 kvs [];rw [List.length_nil] at h1;rw [n_];lia
 have he:∃q,h'.get? s.heap.objs.size=some q:=let ⟨q,_,_,hq,_⟩:=oK;⟨q,hq⟩
 exact Ez I2 (by rw [e];exact True.intro) hs he (JZ hz hd (rk.merge .nil) oK)
section
variable {X:Cx} {pins:aK} {σ:St} {H:Hp} {s:Shared} {a:Addr} {y d:V} {u r:Value} {o:Option V} {A:Around} {E:aM}
end
section
variable {X:Cx} {o e f:Expr} {apos eZ:Pos} {td ty tx:TE}
end
section
variable {X:Cx} {pins:aK} {σ:St} {H:Hp} {s:Shared} {a:Addr} {kvs:List (Key×V)} {A:Around} {E:aM}
end
section
variable {X:Cx} {pins:aK} {σ:St} {H:Hp} {s:Shared} {a:Addr} {y:V} {u:Value} {A:Around} {E:aM}
end
end L2
namespace Att
open PySem PySem.W PySem.Calls PyProof.Rows
section
variable {prog:Program} {w:World} {A:Around} {E:aM} {s:Shared} {K:Frag}
end
end Att
namespace L2
open PySem PySem.Spec PyProof.Rows
section
variable {P:Program} {w:World} {K:aE} {mg:cJ} {base:Heap}
end
section
variable {X:Cx}
end
section
variable {κ:Type} [DecidableEq κ]
end
def EC(o:Obj):Nat:=match o.data with
 | .dict _ ep=>ep
 | _=>0
def i5(a:Addr)(o:Obj)(kvs:List (Key×V)):It:=
 ⟨fun i H=>H a=some (.bg o (.dK kvs))∧i<kvs.length,fun i H x H'=>H'=H∧∃kv,kvs[i]?=some kv∧x=kV kv.1,fun i H=>H a=some (.bg o (.dK kvs))∧kvs.length≤i⟩
theorem SS{k:Key}{v:Value}(h:qf k v=true):RelV (kV k) v:=by
 rcases lI h with ⟨i,t,rfl,rfl⟩ | ⟨x,t,rfl,rfl⟩;·exact ⟨t,rfl⟩
 ·exact ⟨t,rfl⟩
theorem J6{kvs:List (Key×V)}{vs:List (Key×Value)}:∀{i:Nat} {kv:Key×V},KV kvs vs→kvs[i]?=some kv→∃v,vs[i]?=some (kv.1,v)
 | _,_,.nil,h=>by simp at h
 | 0,kv,.cons (b:=b) r _,h=>by simp at h;subst h;obtain ⟨k,v⟩:=b;have e:_=k:=r.1;exact ⟨v,by rw [e];rfl⟩
 | i+1,kv,.cons _ t,h=>by simp at h;obtain ⟨v,e⟩:=J6 t h;exact ⟨v,by simpa using e⟩
section
variable {X:Cx} {pins:aK} {σ:St} {H:Hp} {s:Shared}
theorem Inv.ED{a:Addr}{o:Obj}{kvs:List (Key×V)}(I:Inv X pins σ H s)(h:H a=some (.bg o (.dK kvs))):∃vs,KV kvs vs∧s.heap.DictAt (gN X.prog X.w) a vs (EC o):=by obtain ⟨g,_,_,vs,r,o',es,ep,g',c,d,rest⟩:=(show cw X.prog X.w H s.heap a (.bg o (.dK kvs)) from I.ay a _ h);rw [g] at g';cases g';refine ⟨vs,r,o,es,g,c,?_,rest⟩;rw [d];unfold EC;rw [d]
end
theorem SU{P:Program}{w:World}{K:aE}{tg:Expr}(a it:Addr)(o:Obj)(kvs:List (Key×V)):Turn P w K tg (i5 a o kvs) [it] it (fun i h=>h.IsKeyIter it a i kvs.length (EC o)) where
 mem:=by simp
 obj:=fun i h st b hb=>by
  have e:b=it:=by simpa using hb
  subst e;obtain ⟨o,e,c,d⟩:=st;exact ⟨o,e,fun v z=>by rw [d] at z;cases z⟩
 keep:=fun i h h' st k=>by obtain ⟨o,e,c,d⟩:=st;exact ⟨o,k it (by simp) o e,c,d⟩
 item:=by
  intro X hP hw hK hc i pins s σ H E I hf st hg;subst hP hw hK;obtain ⟨eH,hi⟩:=hg;obtain ⟨vs,r,hm⟩:=I.ED eH;have lr:kvs.length=vs.length:=Paired.length r;have ek:kvs[i]?=some kvs[i]:=by simp [hi]
  obtain ⟨v,ev⟩:=J6 r ek;obtain ⟨f0,f1,f2,f3,f4,f5⟩:=hf it (by simp)
  rw [lr] at st;refine wpAny_pyNext_dict_item st hm ev fun key h' hk aw sb=>?_;have I1:Inv X pins σ H {s with heap:=h'}:=I.turned (t':=s.toks) (fun b o hb e=>(sb.2 b hb).trans e) f0 f1 f3 f4 f5;obtain ⟨o',e,c,d⟩:=id aw;rw [←lr] at aw;exact ⟨key,rfl,z9 (s:={s with heap:=h'}) e c d (by decide) ⟨kV kvs[i].1,H,I1,SS hk,⟨rfl,_,ek,rfl⟩,aw,fun b hb=>(hf b hb).1⟩⟩
 done:=by
  intro X hP hw hK hc i pins s σ H E I hf st hg;subst hP hw hK;obtain ⟨eH,hi⟩:=hg;obtain ⟨vs,r,hm⟩:=I.ED eH;have lr:kvs.length=vs.length:=Paired.length r;obtain ⟨f0,f1,f2,f3,f4,f5⟩:=hf it (by simp)
  rw [lr] at st;exact wpAny_pyNext_dict_end (I.ok.hd hc) st hm (by simp;lia) fun h' eb=>⟨rfl,I.turned (t':=s.toks) (fun b o hb e=>eb b o hb e) f0 f1 f3 f4 f5⟩
 self:=fun _ _ _ _ _ st h=>wpAny_pyIter_keyiter st h
section
variable {X:Cx} {tg:Expr}
def EE(tl:TE):TI:=fun σ H R=>tl σ H fun x H1=>∃a kvs,x=.ref a∧((H1 a=some (.dK kvs)∧∀o,R (i5 a o kvs) (upd H1 a (.bg o (.dK kvs))))∨∃o,H1 a=some (.bg o (.dK kvs))∧R (i5 a o kvs) H1)
theorem uE{l:Expr}{tl:TE}(hl:PE X l tl):PI X tg l (EE tl):=by
 intro pins s σ H R I h;refine aJ (hl pins s σ H _ I h) fun v s1 ⟨x,H1,I1,r1,q1⟩=>?_;obtain ⟨a,kvs,e,q⟩:=q1;subst e;cases r1;have main:∀{H2:Hp} {o:Obj},Inv X pins σ H2 s1→H2 a=some (.bg o (.dK kvs))→R (i5 a o kvs) H2→wpAny (model X.prog X.w) X.A (pyIter (.ref a)) (Ds X pins σ tg R) X.xe s1:=fun{H2 o} I2 eH q=>by
  obtain ⟨vs,r,hm⟩:=I2.ED eH;obtain ⟨_,_,sys,_⟩:=(show cw X.prog X.w H2 s1.heap a (.bg o (.dK kvs)) from I2.ay a _ eH);have lr:kvs.length=vs.length:=Paired.length r;refine wpAny_pyIter_dict sys hm ?_;refine ⟨s1.heap.objs.size,[s1.heap.objs.size],_,_,H2,rfl,I2.kept (t':=s1.toks) fun b o e=>cg _ e,SU a _ o kvs,⟨_,eX _ rfl,rfl,by rw [lr];rfl⟩,fun b hb=>?_,q⟩
  have e:b=s1.heap.objs.size:=by simpa using hb
  subst e;exact I2.xw (ax _) (I2.ay.fresh (ax _))
 rcases q with ⟨eH,q⟩ | ⟨o,eH,q⟩
 ·obtain ⟨hz,sys,vs,r,o,es,ep,g,c,d,rest⟩:=(show cw X.prog X.w H1 s1.heap a (.dK kvs) from I1.ay a _ eH)
  refine main (H2:=upd H1 a (.bg o (.dK kvs))) ?_ av (q o);exact I1.write (t':=s1.toks) (x:=a) (e:=a) (by rw [eH];exact trivial) (.inl rfl) (fun b u _ e=>e) ⟨o,g⟩ ⟨g,hz,sys,vs,r,o,es,ep,g,c,d,rest⟩
 ·exact main I1 eH q
end
theorem J7:∀{us:List Value} {ns:List Int},IntsAre us ns→Vals (ns.map V.int) us
 | _,_,.nil=>.nil
 | _,_,.cons a u r=>.cons ⟨u,rfl⟩ (J7 r)
def SW:List V→Hp→VK→Prop:=fun xs H Q=>∃(a:Addr) (zs:List Int),xs=[.ref a]∧H a=some (.lst (zs.map V.int))∧zs.length<64∧∀(ws:List Int) (D:Addr),ws.Perm zs→ws.Pairwise (·≤·)→H D=none→Q (.ref D) (upd H D (.lst (ws.map V.int)))
theorem yo{X:Cx}:gR X (.builtin "sorted") SW:=by
 intro pins s σ H xs us Q I r h;obtain ⟨a,zs,rfl,ha,AK,k⟩:=h;obtain ⟨u,rfl,ru⟩:=vals1 r;cases ru;obtain ⟨its,rv,pl,hz⟩:=I.list (.of ha);have hl:=rv.length;rw [aC] at hl;refine sorted_ints pl.isList (intsAre_of rv) (by lia) fun out J8 a1 a2 a3=>?_
 obtain ⟨e,he⟩:=sortedAll_at s.heap its out;refine ⟨.ref (s.heap.objs.size+1),_,I.laid (t':=s.toks) (o:=.lst (J8.map .int)) (fun _ _=>sortedAll_old) (jJ _) ⟨?_,out.toList,e,J7 a1,?_⟩,rfl,k J8 _ a2 a3 (I.ay.fresh (jJ _))⟩
 ·rw [aC,a2.length_eq]
  rw [n_];lia
 ·simpa using he
end L2
namespace My
open PySem L2
def dk(ks:List Nat):List (Key×V):=ks.map fun k:Nat=>((Sum.inl (k:Int):Key),V.bl true)
def de(ks:List Nat)(k:Nat):List Nat:=if k∈ks then ks else ks++[k]
theorem J9{a b:Nat}:((Sum.inl (a:Int):Key)=Sum.inl (b:Int))↔a=b:=by
 constructor
 ·intro h
  have:=Sum.inl.inj h;lia
 ·rintro rfl;rfl
theorem AU(ks:List Nat):(dk ks).length=ks.length:=aC _
theorem SX(ks:List Nat)(k:Nat):((dk ks).any fun kv=>decide (kv.1=(Sum.inl (k:Int):Key)))=decide (k∈ks):=by
 rw [pU,zM,fk];constructor
 ·rintro ⟨kv,h1,h2⟩
  obtain ⟨j,hj,rfl⟩:=bD.mp h1;have:=J9.mp (df h2);subst this;exact hj
 ·intro h
  exact ⟨_,bD.mpr ⟨k,h,rfl⟩,a_ rfl⟩
theorem J_(ks:List Nat)(k:Nat):putK (dk ks) (Sum.inl (k:Int):Key) (V.bl true)=dk (de ks k):=by
 unfold putK de;rw [SX];by_cases h:k∈ks
 ·rw [ae (a_ h),ae h]
  unfold dk;rw [cI];refine hE fun j _=>?_;show (if _ then _ else _)=_
  split <;> rfl
 ·rw [aa (by rw [fk];exact h),aa h]
  unfold dk;rw [fj];rfl
theorem Ka(ks:List Nat)(k:Nat):gb (dk ks) (Sum.inl (k:Int):Key)=if k∈ks then some (V.bl true) else none:=by
 induction ks with
 | nil=>simp [dk,gb]
 | cons j r ih=>
  by_cases h:j=k
  ·subst h
   rw [ae (bV ..)];exact AL rfl
  ·show gb ((Sum.inl (j:Int),V.bl true)::dk r) _=_
   rw [AM (fun e=>h (J9.mp e)),ih];by_cases m:k∈r;·rw [ae m,ae (bX _ m)]
   ·rw [aa m,aa (fun x=>by rcases bh.mp x with e | e;exact h e.symm;exact m e)]
variable {ks:List Nat} {k j:Nat}
theorem i6:j∈de ks k↔j∈ks∨j=k:=by
 unfold de;by_cases h:k∈ks
 ·rw [ae h]
  constructor;·exact .inl
  ·rintro (e | rfl)
   ·exact e
   ·exact h
 ·rw [aa h,cZ,bS]
theorem SY(h:ks.Nodup):(de ks k).Nodup:=by
 unfold de;by_cases m:k∈ks;·rw [ae m];exact h
 ·rw [aa m]
  refine jL.mpr ⟨h,(by simp),fun a ha b hb=>?_⟩
  rw [bS] at hb;subst hb;rintro rfl;exact m ha
def i7(n:Nat)(ks:List Nat):Prop:=ks.Nodup∧∀k∈ks,k<n
theorem i7.nil(n:Nat):i7 n []:=⟨tE,fun _ h=>by cases h⟩
variable {n:Nat}
theorem i7.add(h:i7 n ks)(hk:k<n):i7 n (de ks k):=⟨SY h.1,fun j hj=>by
 rcases i6.mp hj with e | rfl;·exact h.2 j e
 ·exact hk⟩
theorem EF:∀{n:Nat} {ks:List Nat},ks.Nodup→(∀k∈ks,k<n)→ks.length≤n
 | 0,ks,_,h=>by
  cases ks with
  | nil=>exact ax _
  | cons a r=>exact absurd (h a (bV ..)) (je _)
 | n+1,ks,nd,h=>by
  have e:=EF (n:=n) (ks:=ks.erase n) (nd.erase n) (fun k hk=>by have m:=(List.Nodup.mem_erase_iff nd).mp hk;have:=h k m.2;have:=m.1;lia)
  by_cases hm:n∈ks
  ·have:=C3 hm
   lia
  ·rw [List.erase_of_not_mem hm] at e
   lia
theorem i7.len(h:i7 n ks):ks.length≤n:=EF h.1 h.2
structure dG (H:Hp) (D:Addr) (n:Nat) (ds:Nat→Addr) (un:Nat→Prop) (f:Nat→List Nat):Prop where
 lst:H D=some (.lst ((List.range n).map fun i=>V.ref (ds i)))
 inj:∀i j,i<n→j<n→ds i=ds j→i=j
 ne:∀i,i<n→ds i≠D
 at':∀i,i<n→un i→H (ds i)=some (.dK (dk (f i)))
 pl:∀i,i<n→i7 n (f i)
def dU(f:Nat→List Nat)(i:Nat)(ks:List Nat):Nat→List Nat:=fun j=>if j=i then ks else f j
variable {H:Hp} {D:Addr} {ds:Nat→Addr} {f:Nat→List Nat} {i:Nat}
theorem dG.put{un:Nat→Prop}(h:dG H D n ds un f)(hi:i<n)(hj:j<n)(ui:un i)(hn:n≤1000) :
  Ey H (ds i) (.int (j:Int)) (.bl true) (upd H (ds i) (.dK (dk (de (f i) j))))∧dG (upd H (ds i) (.dK (dk (de (f i) j)))) D n ds un (dU f i (de (f i) j)):=by
 refine ⟨.inl ⟨dk (f i),Sum.inl (j:Int),h.at' i hi ui,rfl,?_,by rw [J_]⟩,?_,h.inj,h.ne,fun k hk uk=>?_,fun k hk=>?_⟩
 ·rw [AU]
  have:=(h.pl i hi).len;exact ku this (ku hn (by rw [n_];decide))
 ·rw [aH (Ne.symm (h.ne i hi))]
  exact h.lst
 ·unfold dU
  by_cases e:k=i
  ·subst e
   rw [ae rfl,av]
  ·rw [aa e,aH (fun z=>e (h.inj k i hk hi z))]
   exact h.at' k hk uk
 ·unfold dU
  by_cases e:k=i;·rw [ae e];exact (h.pl i hi).add hj
  ·rw [aa e];exact h.pl k hk
theorem dG.ix{un:Nat→Prop}(h:dG H D n ds un f)(hi:i<n):gS ((List.range n).map fun i=>V.ref (ds i)) (i:Int)=some (V.ref (ds i)):=
 iU (by rw [bq,jK hi];rfl)
def eB(n:Nat)(L:au):Prop:=∀p∈L,0≤p.1∧p.1<(n:Int)∧0≤p.2∧p.2<(n:Int)
def d7(n:Nat)(L:au)(f:Nat→List Nat):Prop:=∀i j:Nat,i<n→(j∈f i↔((i:Int),(j:Int))∈L∨((j:Int),(i:Int))∈L)
theorem d7.nil(n:Nat):d7 n [] (fun _=>[]):=fun i j _=>by simp
theorem d7.more{L:au}(h:d7 n L f)(hi:i<n)(hj:j<n):d7 n (L++[((i:Int),(j:Int))]) (dU (dU f i (de (f i) j)) j (de (dU f i (de (f i) j) j) i)):=fun a b ha=>by
 have e1:∀x y:Nat,y∈dU f i (de (f i) j) x↔y∈f x∨(x=i∧y=j):=fun x y=>by
  unfold dU;by_cases e:x=i
  ·subst e
   rw [ae rfl,i6];simp
  ·rw [aa e]
   simp [e]
 have e2:b∈dU (dU f i (de (f i) j)) j (de (dU f i (de (f i) j) j) i) a↔b∈dU f i (de (f i) j) a∨(a=j∧b=i):=by
  unfold dU;by_cases e:a=j
  ·subst e
   rw [ae rfl,i6];simp
  ·rw [aa e]
   simp [e]
 rw [e2,e1,h a b ha];simp only [cZ,bS,Prod.mk.injEq];constructor
 ·rintro ((e | e) | ⟨rfl,rfl⟩)
  ·rcases e with e | e
   ·exact .inl (.inl e)
   ·exact .inr (.inl e)
  ·exact .inl (.inr ⟨by lia,by lia⟩)
  ·exact .inr (.inr ⟨rfl,rfl⟩)
 ·rintro ((e | ⟨e1,e2⟩) | (e | ⟨e1,e2⟩))
  ·exact .inl (.inl (.inl e))
  ·exact .inl (.inr ⟨by lia,by lia⟩)
  ·exact .inl (.inl (.inr e))
  ·exact .inr ⟨by lia,by lia⟩
def S0:Sp:=fun vs H Q _=>∃(t:Addr) (n:Nat) (L:au),vs=[.ref t]∧cY H t n L∧eB n L∧n≤1000 ∧
 ∀(H':Hp) (D:Addr) (ds:Nat→Addr) (f:Nat→List Nat),aj H H'→H D=none→(∀i,i<n→H (ds i)=none)→dG H' D n ds (fun _=>True) f→d7 n L f→Q (.ref D) H'
end My
namespace L2
open PySem PySem.Spec PyProof.Rows
def S1(K:aE):R2:=fun x y H Q=>∃(a b:Addr) (xs ys:List Int),x=.ref a∧y=.ref b∧a7 K H a (xs.map V.int)∧a7 K H b (ys.map V.int)∧Q (.bl (decide (xs=ys))) H
theorem S2{X:Cx}(hu:X.A.units+64<cLine):da X (compareOp .Eq) (S1 X.K):=by
 intro pins s σ H x y v u Q I rx ry h;obtain ⟨a,b,xs,ys,rfl,rfl,h1,h2,q⟩:=h;cases rx;cases ry;obtain ⟨us,r1,t1,_⟩:=I.list h1;obtain ⟨vs,r2,t2,_⟩:=I.list h2;have l1:=r1.length;have l2:=r2.length;rw [aC] at l1 l2;by_cases hl:xs.length=ys.length
 ·refine SeqAt.RcAt.lists (e:=fun j=>eK (.int (xs.getD j 0)) (.int (ys.getD j 0))) t1.isList t2.isList (by simp;lia) (by lia) (fun j z1 z2=>?_) _ _ _ _ ?_
  ·have ye:j<us.length:=by simpa using z1
   have S3:j<vs.length:=by simpa using z2
   have ex:(xs.map V.int)[j]?=some (.int (xs.getD j 0)):=by rw [bq,du];simp [show j<xs.length by lia]
   have ey:(ys.map V.int)[j]?=some (.int (ys.getD j 0)):=by rw [bq,du];simp [show j<ys.length by lia]
   obtain ⟨x',xh,rx⟩:=r1.get ex;obtain ⟨y',EG,ry⟩:=r2.get ey;have e1:us.toArray[j]=x':=by simpa using (cu.mp xh).2
   have e2:vs.toArray[j]=y':=by simpa using (cu.mp EG).2
   rw [e1,e2];exact xD rx ry rfl rfl
  ·rw [show us.toArray.size=xs.length by simp;lia,RH hl]
   exact ⟨.bl (decide (xs=ys)),H,I,rfl,q⟩
 ·rw [bL (fun e=>hl (by rw [e]))] at q
  refine SeqAt.RcAt.lists_lengths t1.isList t2.isList ?_ (by lia) _ _ _ _ ⟨.bl false,H,I,rfl,q⟩
  simp;lia
end L2
namespace My
open PySem L2
def iN(k:Nat):Int:=(k:Int)
def j8(zs:List Int)(n:Nat):Prop:=zs.Perm ((List.range n).map iN)
instance (zs:List Int) (n:Nat):Decidable (j8 zs n):=by unfold j8;exact inferInstance
theorem S4(n:Nat):((List.range n).map iN).Pairwise (·≤·):=by rw [mZ];exact List.Pairwise.imp (fun h=>by unfold iN;lia) w_
variable {ws zs:List Int} {n:Nat}
theorem S5(p:ws.Perm zs)(o:ws.Pairwise (·≤·)):decide (ws=(List.range n).map iN)=decide (j8 zs n):=by
 by_cases h:j8 zs n
 ·rw [a_ h]
  refine a_ ?_;exact (p.trans h).eq_of_pairwise (fun a b _ _ h1 h2=>by lia) o (S4 n)
 ·rw [bL h]
  refine bL fun e=>h ?_;subst e;exact p.symm
def S6:Sp:=fun vs H Q _=>∃(a:Addr) (zs:List Int) (n:Nat),vs=[.ref a,.int (n:Int)]∧H a=some (.lst (zs.map V.int))∧zs.length<64∧n≤1000∧(∀H',aj H H'→Q (.bl (decide (j8 zs n))) H')
def S7(N:Addr):Sp:=fun vs H Q E=>∃(a:Addr) (zs:List Int) (n:Nat),vs=[.ref a,.int (n:Int)]∧H a=some (.lst (zs.map V.int))∧zs.length<64∧n≤1000 ∧
 (¬j8 zs n→∀H',aj H H'→E (.ref N) none H')∧(j8 zs n→∀H',aj H H'→Q .aN H')
def S8(H:Hp)(a:Addr)(n:Nat)(o:List Nat):Prop:=H a=some (.lst (o.map fun k:Nat=>V.int (k:Int)))∧o.Perm (List.range n)
def S9:Sp:=fun vs H Q _=>∃(a:Addr) (n:Nat) (o:List Nat),vs=[.ref a]∧S8 H a n o∧n≤1000 ∧
 ∀(r:Addr) (H':Hp),aj H H'→H r=none→H' r=some (.lst ((List.range n).map fun p=>V.int (o.idxOf p:Int)))→Q (.ref r) H'
variable {H H1:Hp} {D:Addr}
theorem S_(s:aj H H1)(e:H1 D=none):H D=none:=by
 cases z:H D with
 | none=>rfl
 | some o=>rw [s _ _ z] at e;cases e
theorem AV(s:aj H H1){o:HO}(e:H1 D=none):aj H (upd H1 D o):=eN s (S_ s e)
variable {k:Nat}
theorem Kb(h:k<n):jU n (k:Int)=some k:=by unfold jU;rw [ae (by lia),ae (by lia),cQ]
def j9(o:List Nat)(k p:Nat):Int:=if o.idxOf p<k then (o.idxOf p:Int) else 0
variable {o:List Nat}
theorem nJ(h:o.Perm (List.range n)):o.Nodup:=h.nodup_iff.mpr hI
theorem uF(h:o.Perm (List.range n)):o.length=n:=by rw [h.length_eq,dI]
variable {p:Nat}
theorem fI(h:o.Perm (List.range n)):p∈o↔p<n:=by rw [h.mem_iff,bb]
theorem AW(nd:o.Nodup)(hk:k<o.length):o.idxOf o[k]=k:=nd.idxOf_getElem k hk
theorem yp(h:p∈o):∃hk:o.idxOf p<o.length,o[o.idxOf p]=p:=⟨m5 h,tG _⟩
theorem Ta(h:o.Perm (List.range n))(hk:k<o.length):((List.range n).map fun p=>V.int (j9 o k p)).set o[k] (.int (k:Int))=(List.range n).map fun p=>V.int (j9 o (k+1) p):=by
 have nd:=nJ h;refine hG (by simp) fun q h1 h2=>?_
 have hq:q<n:=by simpa using h2
 rw [List.getElem_set];by_cases e:o[k]=q
 ·rw [ae e]
  simp only [fD,mX];unfold j9;rw [←e,AW nd hk,ae (Nat.lt_succ_self k)]
 ·rw [aa e]
  simp only [fD,mX];unfold j9;have ne:o.idxOf q≠k:=fun z=>by obtain ⟨hz,ez⟩:=yp ((fI h).mpr hq);subst z;exact e ez
  by_cases z:o.idxOf q<k;·rw [ae z,ae (by lia)]
  ·rw [aa z,aa (by lia)]
theorem Tb(n:Nat)(o:List Nat):(List.replicate n [V.int 0]).flatten=(List.range n).map fun p=>V.int (j9 o 0 p):=by
 have e:∀n:Nat,(List.replicate n [V.int 0]).flatten=List.replicate n (V.int 0):=fun n=>by
  induction n with
  | zero=>rfl
  | succ n ih=>rw [mQ,sZ,ih];rfl
 rw [e];refine hG (by simp) fun q h1 h2=>?_
 simp [j9]
theorem Tc(h:o.Perm (List.range n)):(List.range n).map (fun p=>V.int (j9 o o.length p))=(List.range n).map fun p=>V.int (o.idxOf p:Int):=by refine hE fun p hp=>?_;unfold j9;rw [ae (m5 ((fI h).mpr (bb.mp hp)))]
def o9(n:Nat)(ds:Nat→Addr)(un:Nat→Prop)(H H':Hp):Prop:=∀b o,H b=some o→(∀i,i<n→un i→b≠ds i)→H' b=some o
variable {ds:Nat→Addr}
theorem o9.refl{un:Nat→Prop}:o9 n ds un H H:=fun _ _ h _=>h
variable {i:Nat}
theorem o9.put{un:Nat→Prop}(h:o9 n ds un H H1)(hi:i<n)(ui:un i){o:HO}:o9 n ds un H (upd H1 (ds i) o):=fun b u e k=>by rw [aH (k i hi ui)];exact h b u e k
theorem take_snoc{α:Type}{xs:List α}{x:α}(h:xs[i]?=some x):xs.take (i+1)=xs.take i++[x]:=by rw [kA,h];rfl
def g6(n:Nat)(f:Nat→List Nat)(ps:List Nat)(i j:Nat)(g:Nat→List Nat):Prop:=∀a b:Nat,a<n→(b∈g a↔b∈f a∨(a≠b∧(a∈ps.take i∧b∈ps∨ps[i]?=some a∧b∈ps.take j)))
theorem g6.start(n:Nat)(f:Nat→List Nat)(ps:List Nat):g6 n f ps 0 0 f:=fun a b _=>by simp
variable {f g:Nat→List Nat} {ps:List Nat}
theorem g6.row(h:g6 n f ps i ps.length g):g6 n f ps (i+1) 0 g:=fun a b ha=>by
 rw [h a b ha,gu];cases e:ps[i]? with
 | none=>
  have:ps.length≤i:=CP.mp e;rw [zH this,zH (by lia)]
  simp
 | some x=>
  rw [take_snoc e];simp only [cZ,bS,tH,List.take_zero,mR,and_false,or_false];constructor
  ·rintro (z | ⟨z,z1 | z1⟩)
   ·exact .inl z
   ·exact .inr ⟨z,.inl z1.1,z1.2⟩
   ·exact .inr ⟨z,.inr z1.1.symm,z1.2⟩
  ·rintro (z | ⟨z,z1 | z1,z2⟩)
   ·exact .inl z
   ·exact .inr ⟨z,.inl ⟨z1,z2⟩⟩
   ·exact .inr ⟨z,.inr ⟨z1.symm,z2⟩⟩
variable {j:Nat}
theorem g6.same{x:Nat}(h:g6 n f ps i j g)(hi:ps[i]?=some x)(hj:ps[j]?=some x):g6 n f ps i (j+1) g:=fun a b ha=>by
 rw [h a b ha,take_snoc hj];simp only [cZ,bS,hi,tH];constructor
 ·rintro (z | ⟨z,z1 | z1⟩)
  ·exact .inl z
  ·exact .inr ⟨z,.inl z1⟩
  ·exact .inr ⟨z,.inr ⟨z1.1,.inl z1.2⟩⟩
 ·rintro (z | ⟨z,z1 | ⟨z1,z2 | z2⟩⟩)
  ·exact .inl z
  ·exact .inr ⟨z,.inl z1⟩
  ·exact .inr ⟨z,.inr ⟨z1,z2⟩⟩
  ·exact absurd (z1.symm.trans z2.symm) z
theorem g6.put{x y:Nat}(h:g6 n f ps i j g)(hi:ps[i]?=some x)(hj:ps[j]?=some y)(ne:x≠y):g6 n f ps i (j+1) (dU g x (de (g x) y)):=fun a b ha=>by
 have e1:b∈dU g x (de (g x) y) a↔b∈g a∨(a=x∧b=y):=by
  unfold dU;by_cases e:a=x
  ·subst e
   rw [ae rfl,i6];simp
  ·rw [aa e]
   simp [e]
 rw [e1,h a b ha,take_snoc hj];simp only [cZ,bS,hi,tH];constructor
 ·rintro ((z | ⟨z,z1 | z1⟩) | ⟨rfl,rfl⟩)
  ·exact .inl z
  ·exact .inr ⟨z,.inl z1⟩
  ·exact .inr ⟨z,.inr ⟨z1.1,.inl z1.2⟩⟩
  ·exact .inr ⟨ne,.inr ⟨rfl,.inr rfl⟩⟩
 ·rintro (z | ⟨z,z1 | ⟨z1,z2 | z2⟩⟩)
  ·exact .inl (.inl z)
  ·exact .inl (.inr ⟨z,.inl z1⟩)
  ·exact .inl (.inr ⟨z,.inr ⟨z1,z2⟩⟩)
  ·exact .inr ⟨z1.symm,z2⟩
theorem g6.done(h:g6 n f ps ps.length 0 g):∀a b:Nat,a<n→(b∈g a↔b∈f a∨(a≠b∧a∈ps∧b∈ps)):=fun a b ha=>by rw [h a b ha,gu];simp
def Td:Sp:=fun vs H Q _=>∃(D pl:Addr) (n:Nat) (ds:Nat→Addr) (un:Nat→Prop) (f:Nat→List Nat) (ps:List Nat),vs=[.ref D,.ref pl]∧dG H D n ds un f∧H pl=some (.lst (ps.map fun k:Nat=>V.int (k:Int)))∧(∀p∈ps,p<n∧un p)∧n≤1000 ∧
 ∀(H':Hp) (g:Nat→List Nat),o9 n ds un H H'→dG H' D n ds un g→(∀a b:Nat,a<n→(b∈g a↔b∈f a∨(a≠b∧a∈ps∧b∈ps)))→Q .aN H'
theorem dG.mono{H':Hp}{un:Nat→Prop}(h:dG H D n ds un f)(s:aj H H'):dG H' D n ds un f:=⟨s _ _ h.lst,h.inj,h.ne,fun i hi ui=>s _ _ (h.at' i hi ui),h.pl⟩
theorem dG.less{un Ki:Nat→Prop}(h:dG H D n ds un f)(k:∀i,i<n→Ki i→un i):dG H D n ds Ki f:=⟨h.lst,h.inj,h.ne,fun i hi ui=>h.at' i hi (k i hi ui),h.pl⟩
variable {x:Addr}
theorem dG.upd{un:Nat→Prop}(h:dG H D n ds un f){o:HO}(n1:x≠D)(n2:∀i,i<n→un i→ds i≠x):dG (upd H x o) D n ds un f:=⟨by rw [aH (Ne.symm n1)];exact h.lst,h.inj,h.ne,fun i hi ui=>by rw [aH (n2 i hi ui)];exact h.at' i hi ui,h.pl⟩
variable {a:Addr}
theorem Te{o:Obj}{kvs:List (Key×V)}(h:H1 a=some (.bg o (.dK kvs))):iX (i5 a o kvs) (kvs.map fun kv=>kV kv.1) H1 where
 go:=fun i Hc s hi=>⟨s _ _ h,by simpa using hi⟩
 eY:=fun i Hc x H' s y=>⟨y.1,fun _=>by obtain ⟨kv,e,rfl⟩:=y.2;rw [bq,e];rfl⟩
 stop:=fun i Hc s hi=>⟨s _ _ h,by simpa using hi⟩
theorem Tf(ks:List Nat):(dk ks).map (fun kv=>kV kv.1)=ks.map fun k:Nat=>V.int (k:Int):=by unfold dk;rw [cI];rfl
theorem Tg(ks:List Nat):(List.range ks.length).map (fun i=>ks.getD i 0)=ks:=by
 refine hG (by simp) fun i h1 h2=>?_
 simp [du,h2]
theorem Th(ks:List Nat)(pr:Nat→Bool):((List.range ks.length).filter fun i=>pr (ks.getD i 0)).map (fun i=>ks.getD i 0)=ks.filter pr:=by have e:=xb (f:=fun i=>ks.getD i 0) (l:=List.range ks.length) (p:=pr);rw [Tg] at e;exact e.symm
variable {ρ:St→St} {tt:TT} {te:TE} {σ:St} {Q:VK} {ks:List Nat}
theorem EH{ob:Obj}(h:H a=some (.bg ob (.dK (dk ks))))(pr:Nat→Bool)(hl:ks.length<sizeLine)
  (test:∀k∈ks,∀(Hc:Hp) (R:Bool→Hp→Prop),aj H Hc→R (pr k) Hc→tt (some (.int (k:Int))::ρ σ) Hc R)
  (step:∀k∈ks,∀(Hc:Hp) (R:VK),R (.int (k:Int)) Hc→te (some (.int (k:Int))::ρ σ) Hc R)
  (fin:∀D Hc,H D=none→aj H Hc→Hc D=some (.lst ((ks.filter pr).map fun k:Nat=>V.int (k:Int)))→Q (.ref D) Hc):e_ (fun _ H R=>R (i5 a ob (dk ks)) H) ρ tt te σ H Q:=by
 have at':∀{i:Nat} {x:V},(ks.map fun k:Nat=>V.int (k:Int))[i]?=some x→i<ks.length∧x=.int ((ks.getD i 0:Nat):Int)∧ks.getD i 0∈ks:=fun{i x} hx=>by
  have hi:i<ks.length:=by have:=(cu.mp hx).1;simpa using this
  rw [bq] at hx;simp [hi] at hx;rw [getD_at hi];exact ⟨hi,hx.symm,bT hi⟩
 refine Sw (xs:=ks.map fun k:Nat=>V.int (k:Int)) (fun i=>pr (ks.getD i 0)) (fun R k=>k _ (by rw [←Tf];exact Te h)) (by rw [aC];exact hl) (fun _ i y _=>y=.int ((ks.getD i 0:Nat):Int)) (fun _ _ _ _ _ _ h _ _=>h) ?_ ?_ ?_
 ·intro i x hx Hc R sc hR
  obtain ⟨_,rfl,m⟩:=at' hx;exact test _ m Hc R sc hR
 ·intro D i x hx Hc R sc _ kc
  obtain ⟨_,rfl,m⟩:=at' hx;exact step _ m Hc R (kc _ Hc (aj.refl _) rfl)
 ·intro D ys Hc nD sc ly hP eD
  refine fin D Hc nD sc ?_;rw [eD,←Th ks pr,cI];rw [aC] at ly hP
  congr 2
  refine hG (by simpa using ly) fun k h1 h2=>?_
  have h3:k<((List.range ks.length).filter fun i=>pr (ks.getD i 0)).length:=by simpa using h2
  rw [fD];exact hP k _ _ (bu h1) (bu h3)
theorem EI(p:ws.Perm (ks.map iN)):∃ms:List Nat,ws=ms.map iN∧ms.Perm ks:=by
 refine ⟨ws.map Int.toNat,?_,?_⟩
 ·rw [cI]
  conv=>lhs;rw [←tI ws]
  refine hE fun z hz=>?_
  obtain ⟨k,_,rfl⟩:=bD.mp (p.mem_iff.mp hz)
  show iN k=iN (Int.toNat (iN k))
  unfold iN
  rw [cQ]
 ·have:=p.map Int.toNat
  rw [cI] at this
  have e:ks.map (Int.toNat ∘ iN)=ks:=by
   conv=>rhs;rw [←tI ks]
   exact hE fun k _=>cQ k
  rw [e] at this
  exact this
structure g7 (n:Nat) (o:List Nat) (p:Nat) (ms:List Nat):Prop where
 up:ms.Pairwise (· < ·)
 lt:∀q∈ms,q<n
 la:∀q∈ms,o.idxOf p<o.idxOf q
theorem Ti{ms:List Nat}(hk:i7 n ks)(h:ms.Perm (ks.filter fun q=>decide (o.idxOf p<o.idxOf q)))(s:(ms.map iN).Pairwise (·≤·)):g7 n o p ms:=by
 have m:∀q∈ms,q∈ks∧o.idxOf p<o.idxOf q:=fun q hq=>by have:=bI.mp (h.mem_iff.mp hq);exact ⟨this.1,by simpa using this.2⟩
 refine ⟨?_,fun q hq=>hk.2 q (m q hq).1,fun q hq=>(m q hq).2⟩;have nd:ms.Nodup:=h.nodup_iff.mpr (hk.1.filter _);rw [mZ] at s;refine List.Pairwise.imp₂ (fun a b h1 h2=>?_) s nd;have h1:(a:Int)≤(b:Int):=h1;have h2:a≠b:=h2;lia
def Kj(H:Hp)(D:Addr)(n:Nat)(rs:Nat→Addr)(g:Nat→List Nat):Prop:=H D=some (.lst ((List.range n).map fun p=>V.ref (rs p)))∧∀p,p<n→H (rs p)=some (.lst ((g p).map fun k:Nat=>V.int (k:Int)))
theorem Tj(h:j8 zs n):∃o:List Nat,zs=o.map iN∧o.Perm (List.range n):=EI h
def j_(rs:Nat→Addr)(p:Nat)(x:Addr):Nat→Addr:=fun q=>if q=p then x else rs q
theorem Tn(n:Nat)(rs:Nat→Addr)(p:Nat)(x:Addr):((List.range n).map fun q=>V.ref (rs q)).set p (.ref x)=(List.range n).map fun q=>V.ref (j_ rs p x q):=by
 refine hG (by simp) fun q h1 h2=>?_
 rw [List.getElem_set,fD,mX,fD,mX];unfold j_;by_cases e:p=q
 ·subst e
  rw [ae rfl,ae rfl]
 ·rw [aa e,aa (Ne.symm e)]
variable {rs:Nat→Addr}
theorem Kk:j_ rs p x p=x:=ae rfl
variable {q:Nat}
theorem To(h:q≠p):j_ rs p x q=rs q:=aa h
theorem Tp{x:List Nat}:dU f p x p=x:=ae rfl
theorem Tq{x:List Nat}(h:q≠p):dU f p x q=f q:=aa h
theorem k4{g:Nat→V}(h:p<n):gS ((List.range n).map g) (p:Int)=some (g p):=iU (by rw [bq,jK h];rfl)
theorem Tr(o ks:List Nat)(p:Nat):(ks.filter fun q=>decide ((o.idxOf p:Int)<(o.idxOf q:Int)))=ks.filter fun q=>decide (o.idxOf p<o.idxOf q):=by refine List.filter_congr fun q _=>?_;rw [pU,fk,fk];lia
theorem k6(h:o.Perm (List.range n))(hp:p<n)(hq:q<n)(ne:p≠q):o.idxOf p≠o.idxOf q:=fun z=>by
 obtain ⟨h1,e1⟩:=yp ((fI h).mpr hp);obtain ⟨h2,e2⟩:=yp ((fI h).mpr hq);refine ne ?_;rw [←e1,←e2]
 congr 1
theorem yq{wi:TI}(h:wi σ H fun J H1=>e_ (fun _ H R=>R J H) ρ tt te σ H1 Q):e_ wi ρ tt te σ H Q:=h
end My
namespace L2
open PySem PySem.Spec PyProof.Rows
section
variable {X:Cx} {pins:aK} {σ:St} {H:Hp} {s:Shared}
end
end L2
namespace My
open PySem L2
variable {n p:Nat}
theorem EJ{o:List Nat}(h:o.Perm (List.range n)){ms:List Nat}(k:g7 n o p ms):ms.length≤n-1-o.idxOf p:=by
 have nd:(ms.map fun q=>o.idxOf q-(o.idxOf p+1)).Nodup:=by rw [ou,mZ];refine C4 (fun{a b} ha hb lt=>?_) k.up;have h1:=k.la a ha;have h2:=k.la b hb;have ne:=k6 h (k.lt a ha) (k.lt b hb) (cq lt);lia
 have:=EF (n:=n-1-o.idxOf p) nd (fun x hx=>by obtain ⟨q,hq,rfl⟩:=bD.mp hx;have h1:=k.la q hq;have h2:=(yp ((fI h).mpr (k.lt q hq))).1;rw [uF h] at h2;lia)
 rwa [aC] at this
theorem Kl{f g:Nat→Nat}:∀{l:List Nat},(∀p∈l,f p≤g p)→(l.map f).sum≤(l.map g).sum
 | [],_=>ax _
 | a::r,h=>by have h1:=h a (bV ..);have h2:=Kl (l:=r) fun p hp=>h p (bX _ hp);simp only [cR,fm];lia
def dt(p q:Nat):Int×Int:=(if (q:Int)<(p:Int) then (q:Int) else (p:Int),if (q:Int)>(p:Int) then (q:Int) else (p:Int))
theorem Ts{q:Nat}(hp:p<n)(hq:q<n):0≤(dt p q).2∧(dt p q).2<(n:Int):=by
 unfold dt;dsimp only
 split <;> lia
theorem aY.app{H:Hp}{xs ys:List V}{M N:au}(h:aY H xs M)(h':aY H ys N):aY H (xs++ys) (M++N):=by
 have l1:=h.1;have l2:=h'.1;refine ⟨by simp [l1,l2],fun k v p h1 h2=>?_⟩
 by_cases e:k<xs.length
 ·rw [iO e] at h1
  rw [iO (by lia)] at h2
  exact h.2 k v p h1 h2
 ·rw [iM (by lia)] at h1
  rw [iM (by lia),←l1] at h2
  exact h'.2 _ v p h1 h2
theorem Tu{g:Nat→Nat}{k:Nat}(h:k≤n):((List.range k).map g).sum≤((List.range n).map g).sum:=by
 induction n with
 | zero=>rw [Nat.le_zero.mp h];exact ax _
 | succ n ih=>
  by_cases e:k=n+1;·subst e;exact ax _
  ·have:=ih (by lia)
   rw [s_,fj,List.sum_append];lia
end My
namespace L2
open PySem PySem.Spec PyProof.Rows
theorem Tv{X:Cx}{E:XK}(L:uc X E):PassesOwn (model X.prog X.w) X.A X.env X.xe:=by rw [L.xe];exact PassesOwn.leaving
end L2
namespace My
open PySem L2
def Tw:Sp:=fun vs H Q _=>∃m:Nat,vs=[.int (m:Int)]∧m≤1000∧Q (.int ((m:Int)*m+3*m+1)) H
def Tx:Sp:=fun vs H Q _=>∃(t:Addr) (n:Nat) (L:au),vs=[.ref t]∧cY H t n L∧n≤9∧Q .aN H
end My
namespace L2
open PySem PySem.Spec PyProof.Rows
end L2
namespace My
open PySem L2
end My
namespace L2
open PySem PySem.Spec PyProof.Rows
end L2
namespace My
open PySem L2
end My
namespace L2
open PySem PySem.Spec PyProof.Rows
theorem yr{X:Cx}{K:aE}(hk:X.K=K:=by rfl):da X (compareOp .In) (Ad K false):=by subst hk;exact IL
end L2
namespace My
open PySem L2
def EK:V→Nat
 | .int i=>i.toNat
 | _=>0
theorem Tz{ys:List V}{n:Nat}(p:ys.Perm (dw n)):∃o:List Nat,ys=o.map (fun k:Nat=>V.int (k:Int))∧o.Perm (List.range n):=by
 refine ⟨ys.map EK,?_,?_⟩
 ·rw [cI]
  conv=>lhs;rw [←tI ys]
  refine hE fun y hy=>?_
  obtain ⟨k,_,rfl⟩:=bD.mp (p.mem_iff.mp hy)
  show V.int (k:Int)=V.int (((k:Int).toNat:Nat):Int)
  rw [cQ]
 ·have:=p.map EK
  unfold dw at this
  rw [cI] at this
  have e:(List.range n).map (EK ∘ fun i:Nat=>V.int (i:Int))=List.range n:=by
   conv=>rhs;rw [←tI (List.range n)]
   exact hE fun k _=>cQ k
  rw [e] at this
  exact this
theorem TB(xs:List V)(k:Nat)(h:k≤xs.length):nz xs none (some (k:Int))=xs.take k:=by
 unfold nz HT.fX;simp only;rw [aa (by lia),cQ,Nat.min_eq_left h,Nat.sub_zero]
 rfl
inductive fh (a9:Nat→Nat→Prop) (bA:Nat→Prop) (s:Nat):Nat→Prop where
 | start:fh a9 bA s s
 | step {a b:Nat}:fh a9 bA s a→(a=s∨bA a)→a9 a b→fh a9 bA s b
structure fi (n:Nat) (a9:Nat→Nat→Prop) (bA:Nat→Prop) (s:Nat) (here:Option Nat) (dn:Nat→Prop) (ks ws:List Nat):Prop where
 pl:i7 n ks
 st:s∈ks
 rc:∀k∈ks,fh a9 bA s k
 wt:∀w∈ws,w∈ks∧(w=s∨bA w)
 cl:∀k∈ks,(k=s∨bA k)→k∈ws∨∀b,a9 k b→b∈ks∨(here=some k∧¬dn b)
variable {n:Nat} {a9:Nat→Nat→Prop} {bA:Nat→Prop} {s:Nat}
variable {dn:Nat→Prop}
theorem fi.start(hs:s<n):fi n a9 bA s none dn [s] [s]:=
 ⟨⟨by simp,fun k hk=>by rw [bS.mp hk];exact hs⟩,bS.mpr rfl,fun k hk=>by rw [bS.mp hk];exact .start,fun w hw=>⟨hw,.inl (bS.mp hw)⟩,fun k hk _=>.inl hk⟩
variable {ks ws:List Nat} {h:Nat}
theorem fi.pop(k:fi n a9 bA s none dn ks (ws++[h])):fi n a9 bA s (some h) (fun _=>False) ks ws:=
 ⟨k.pl,k.st,k.rc,fun w hw=>k.wt w (kj _ hw),fun x hx ox=>by
  rcases k.cl x hx ox with e | e
  ·rcases cZ.mp e with e | e
   ·exact .inl e
   ·exact .inr fun b _=>.inr ⟨by rw [bS.mp e],fun z=>z⟩
  ·exact .inr fun b hb=>.inl ((e b hb).resolve_right fun z=>by cases z.1)⟩
variable {b:Nat}
theorem fi.old(k:fi n a9 bA s (some h) dn ks ws)(hb:b∈ks):fi n a9 bA s (some h) (fun x=>dn x∨x=b) ks ws:=
 ⟨k.pl,k.st,k.rc,k.wt,fun x hx ox=>by
  rcases k.cl x hx ox with e | e;·exact .inl e
  ·refine .inr fun c hc=>?_
   rcases e c hc with e | e;·exact .inl e
   ·by_cases z:c=b
    ·rw [z];exact .inl hb
    ·exact .inr ⟨e.1,fun q=>q.elim e.2 z⟩⟩
theorem fi.new{vs:List Nat}(k:fi n a9 bA s (some h) dn ks ws)(hb:b∉ks)(bn:b<n)(hh:h∈ks)(oh:h=s∨bA h)(ab:a9 h b)(hv:(bA b∧vs=ws++[b])∨(¬bA b∧vs=ws)):fi n a9 bA s (some h) (fun x=>dn x∨x=b) (de ks b) vs:=by
 have bs:b≠s:=fun z=>hb (z▸k.st);have sub:∀w∈ws,w∈vs:=fun w hw=>by
  rcases hv with ⟨_,rfl⟩ | ⟨_,rfl⟩;·exact kj _ hw
  ·exact hw
 refine ⟨k.pl.add bn,i6.mpr (.inl k.st),fun x hx=>?_,fun w hw=>?_,fun x hx ox=>?_⟩
 ·rcases i6.mp hx with e | rfl
  ·exact k.rc x e
  ·exact .step (k.rc h hh) oh ab
 ·rcases hv with ⟨tb,rfl⟩ | ⟨_,rfl⟩
  ·rcases cZ.mp hw with e | e
   ·exact ⟨i6.mpr (.inl (k.wt w e).1),(k.wt w e).2⟩
   ·rw [bS.mp e]
    exact ⟨i6.mpr (.inr rfl),.inr tb⟩
  ·exact ⟨i6.mpr (.inl (k.wt w hw).1),(k.wt w hw).2⟩
 ·rcases i6.mp hx with e | rfl
  ·rcases k.cl x e ox with e | e
   ·exact .inl (sub x e)
   ·refine .inr fun c hc=>?_
    rcases e c hc with e | e;·exact .inl (i6.mpr (.inl e))
    ·by_cases z:c=b
     ·exact .inl (i6.mpr (.inr z))
     ·exact .inr ⟨e.1,fun q=>q.elim e.2 z⟩
  ·rcases hv with ⟨tb,rfl⟩ | ⟨tb,rfl⟩
   ·exact .inl (d9 _ (bS.mpr rfl))
   ·exact absurd ox (fun z=>z.elim bs tb)
theorem fi.next{TC:Nat→Prop}(k:fi n a9 bA s (some h) dn ks ws)(all:∀b,a9 h b→dn b):fi n a9 bA s none TC ks ws:=
 ⟨k.pl,k.st,k.rc,k.wt,fun x hx ox=>by
  rcases k.cl x hx ox with e | e;·exact .inl e
  ·refine .inr fun c hc=>.inl ?_
   rcases e c hc with e | ⟨e,e2⟩;·exact e
   ·cases e
    exact absurd (all c hc) e2⟩
theorem fi.done(k:fi n a9 bA s none dn ks [])(x:Nat):x∈ks↔fh a9 bA s x:=by
 refine ⟨k.rc x,fun h=>?_⟩
 induction h with
 | start=>exact k.st
 | step _ o ab ih=>
  rcases k.cl _ ih o with e | e;·cases e
  ·exact (e _ ab).resolve_right fun z=>by cases z.1
theorem TF{ms:List Nat}(h1:ks.Nodup)(h2:ms.Nodup)(e:∀x,x∈ks↔x∈ms)(p:Nat→Bool):(ks.filter p).length=(ms.filter p).length:=by have pm:ks.Perm ms:=(qa h1 h2).mpr e;exact (pm.filter p).length_eq
theorem TH(h:b∉ks):(de ks b).length=ks.length+1:=by unfold de;rw [aa h,di];rfl
end My
namespace L2
open PySem PySem.Spec PyProof.Rows
theorem AX{X:Cx}{K:aE}(hk:X.K=K:=by rfl):da X (compareOp .NotIn) (Ad K true):=by subst hk;exact Qj
end L2
namespace My
open PySem L2
def g8(n:Nat)(f:Nat→List Nat)(a b:Nat):Prop:=a<n∧b∈f a
def my(n:Nat)(f:Nat→List Nat)(done:List Nat)(p:Nat)(c:Nat):Prop:=∃ks:List Nat,i7 n ks∧(∀x,x∈ks↔fh (g8 n f) (·∈done) p x)∧c=(ks.filter fun q=>!decide (q=p) && !decide (q∈done)).length
def TJ:Sp:=fun vs H Q _=>∃(D d:Addr) (n:Nat) (ds:Nat→Addr) (f:Nat→List Nat) (done:List Nat) (p:Nat),vs=[.ref D,.ref d,.int (p:Int)]∧dG H D n ds (fun _=>True) f∧H d=some (.tup (done.map fun k:Nat=>V.int (k:Int)))∧done.length≤1000∧p<n∧n≤60 ∧
 ∀(H':Hp) (r:Addr) (xs:List V),(∀b o,H b=some o→(∀i,i<n→b≠ds i)→H' b=some o)→H' r=some (.lst xs)→my n f done p xs.length→Q (.ref r) H'
variable {a:Addr} {σ:St} {H:Hp}
theorem EL{ob:Obj}{ks:List Nat}{g:TG}{tb:TS}{D:Ends}(Pv:Nat→St→Hp→Prop)(h0:Pv 0 σ H)(hl:∀i σ H,i≤ks.length→Pv i σ H→H a=some (.bg ob (.dK (dk ks))))
  (hs:∀(i k:Nat) σ H,ks[i]?=some k→Pv i σ H→g (.int (k:Int)) σ H fun σ2 H2=>tb {D with nx:=Pv (i+1),ct:=Pv (i+1),bk:=D.nx} σ2 H2) (hd:∀σ H,Pv ks.length σ H→D.nx σ H) :
  ∃W:Nat→Nat→St→Hp→Prop,(∃m,W 0 m σ H)∧∀i m σ H,W i m σ H→
   ((i5 a ob (dk ks)).stop i H∧D.nx σ H)∨((i5 a ob (dk ks)).go i H∧∃N:St→Hp→Prop,(∀σ' H',N σ' H'→∃m',m'<m∧W (i+1) m' σ' H')∧∀x H',(i5 a ob (dk ks)).eY i H x H'→g x σ H' fun σ2 H2=>tb {D with nx:=N,ct:=N,bk:=D.nx} σ2 H2):=by
 refine ⟨fun i m σ H=>m=ks.length-i∧i≤ks.length∧Pv i σ H,⟨ks.length,by simp,bY _,h0⟩,?_⟩
 rintro i m σ H ⟨rfl,hi,p⟩;have q:=hl i σ H hi p;by_cases aV:i<ks.length
 ·refine .inr ⟨⟨q,by rw [AU];exact aV⟩,Pv (i+1),fun σ' H' p'=>⟨ks.length-(i+1),by lia,rfl,aV,p'⟩,fun x H' y=>?_⟩
  obtain ⟨e,kv,ek,rfl⟩:=y;subst e;unfold dk at ek;rw [bq,bu aV] at ek;cases ek;exact hs i _ σ _ (bu aV) p
 ·have e:i=ks.length:=by lia
  subst e;exact .inl ⟨⟨q,by rw [AU];exact ax _⟩,hd σ H p⟩
structure dO (H:Hp) (D:Addr) (n:Nat) (ds:Nat→Addr) (f:Nat→List Nat):Prop where
 lst:H D=some (.lst ((List.range n).map fun i=>V.ref (ds i)))
 at':∀i,i<n→H (ds i)=some (.dK (dk (f i)))∨∃ob,H (ds i)=some (.bg ob (.dK (dk (f i))))
variable {D:Addr} {n:Nat} {ds:Nat→Addr} {f:Nat→List Nat}
theorem dG.fr(h:dG H D n ds (fun _=>True) f):dO H D n ds f:=⟨h.lst,fun i hi=>.inl (h.at' i hi trivial)⟩
theorem AY(done:List Nat)(k:Nat):ee (.int (k:Int)) (done.map fun k:Nat=>V.int (k:Int))=decide (k∈done):=by
 unfold ee;rw [pU,zM,fk];constructor
 ·rintro ⟨y,hy,e⟩
  obtain ⟨j,hj,rfl⟩:=bD.mp hy;have e:((j:Int) == (k:Int))=true:=e;rw [beq_iff_eq] at e;have:j=k:=by lia
  subst this;exact hj
 ·intro h
  exact ⟨_,bD.mpr ⟨k,h,rfl⟩,Jl rfl⟩
theorem qT(done:List Nat):(done.map fun k:Nat=>V.int (k:Int)).all kL=true:=by rw [pV];intro x hx;obtain ⟨j,_,rfl⟩:=bD.mp hx;rfl
variable {kvs:List (Key×V)} {R:It→Hp→Prop}
theorem TK(h:H a=some (.dK kvs)∨∃ob,H a=some (.bg ob (.dK kvs)))(k:∀(ob:Obj) (Hf:Hp),Hf a=some (.bg ob (.dK kvs))→(∀b u,b≠a→H b=some u→Hf b=some u)→R (i5 a ob kvs) Hf) :
  (H a=some (.dK kvs)∧∀o,R (i5 a o kvs) (upd H a (.bg o (.dK kvs))))∨∃o,H a=some (.bg o (.dK kvs))∧R (i5 a o kvs) H:=by
 rcases h with e | ⟨ob,e⟩;·exact .inl ⟨e,fun o=>k o _ av fun b u ne hb=>by rw [aH ne];exact hb⟩
 ·exact .inr ⟨ob,e,k ob H e fun _ _ _ h=>h⟩
theorem dO.keep{H':Hp}(h:dO H D n ds f)(k:∀b u,b≠a→H b=some u→H' b=some u)(nD:a≠D)(nd:∀i,i<n→ds i≠a):dO H' D n ds f:=⟨k _ _ (Ne.symm nD) h.lst,fun i hi=>by
 rcases h.at' i hi with e | ⟨ob,e⟩;·exact .inl (k _ _ (nd i hi) e)
 ·exact .inr ⟨ob,k _ _ (nd i hi) e⟩⟩
theorem dO.bg{H H':Hp}{D:Addr}{n:Nat}{ds:Nat→Addr}{f:Nat→List Nat}(h:dO H D n ds f){j:Nat}{ob:Obj}(k:∀b u,b≠ds j→H b=some u→H' b=some u)(hj:j<n)(e:H' (ds j)=some (.bg ob (.dK (dk (f j)))))(inj:∀i j,i<n→j<n→ds i=ds j→i=j)(nD:ds j≠D):dO H' D n ds f:=⟨k _ _ (Ne.symm nD) h.lst,fun i hi=>by
 by_cases z:i=j;·subst z;exact .inr ⟨ob,e⟩
 ·rcases h.at' i hi with e | ⟨ob,e⟩
  ·exact .inl (k _ _ (fun q=>z (inj i j hi hj q)) e)
  ·exact .inr ⟨ob,k _ _ (fun q=>z (inj i j hi hj q)) e⟩⟩
def qU(n:Nat)(ds:Nat→Addr)(H H':Hp):Prop:=∀b o,H b=some o→(∀i,i<n→b≠ds i)→H' b=some o
theorem EM{tl:TE}(hp:∀Q:VK,Q (.ref a) H→tl σ H Q)(h:H a=some (.dK kvs)∨∃ob,H a=some (.bg ob (.dK kvs)))(k:∀(ob:Obj) (Hf:Hp),Hf a=some (.bg ob (.dK kvs))→(∀b u,b≠a→H b=some u→Hf b=some u)→R (i5 a ob kvs) Hf):EE tl σ H R:=hp _ ⟨a,kvs,rfl,TK h k⟩
def TL:Sp:=fun vs H Q _=>∃(t d:Addr) (n:Nat) (L:au) (done:List Nat) (p:Nat),vs=[.ref t,.ref d,.int (p:Int)]∧cY H t n L∧eB n L∧n≤9∧H d=some (.tup (done.map fun k:Nat=>V.int (k:Int)))∧done.length≤1000∧p<n ∧
 ∀(H':Hp) (f:Nat→List Nat) (c:Nat),aj H H'→d7 n L f→my n f done p c→Q (.int ((c:Int)*c+3*c+1)) H'
variable {p c:Nat}
theorem my.le{done:List Nat}(h:my n f done p c):c≤n:=by obtain ⟨ks,pl,_,rfl⟩:=h;exact bR (tF _ _) pl.len
variable {L:au} {g:Nat→List Nat}
theorem my.same{done:List Nat}{e:Nat}(hf:d7 n L f)(hg:d7 n L g)(h:my n f done p c)(k:my n g done p e):c=e:=by
 obtain ⟨ks,pk,ik,rfl⟩:=h;obtain ⟨ms,pm,im,rfl⟩:=k;have ad:g8 n f=g8 n g:=by
  funext a b
  unfold g8;refine propext ⟨fun⟨x,y⟩=>⟨x,(hg a b x).mpr ((hf a b x).mp y)⟩,fun⟨x,y⟩=>⟨x,(hf a b x).mpr ((hg a b x).mp y)⟩⟩
 refine TF pk.1 pm.1 (fun x=>?_) _;rw [ik,im,ad]
def iF(g:Nat→List Nat)(i j:Nat):Nat→List Nat:=dU g i (g i++[j])
variable {i j:Nat}
theorem Km{a b:Nat}:b∈iF g i j a↔b∈g a∨(a=i∧b=j):=by
 unfold iF dU;by_cases e:a=i
 ·subst e
  rw [ae rfl,cZ,bS];simp
 ·rw [aa e]
  simp [e]
theorem EN{a:Nat}:(iF g i j a).length≤(g a).length+1:=by
 unfold iF dU;by_cases e:a=i
 ·subst e
  rw [ae rfl,di];exact ax _
 ·rw [aa e];lia
theorem d7.snoc(h:d7 n L g):d7 n (L++[((i:Int),(j:Int))]) (iF (iF g i j) j i):=fun a b ha=>by
 rw [Km,Km,h a b ha];simp only [cZ,bS,Prod.mk.injEq];constructor
 ·rintro (((e | e) | ⟨rfl,rfl⟩) | ⟨rfl,rfl⟩)
  ·exact .inl (.inl e)
  ·exact .inr (.inl e)
  ·exact .inl (.inr ⟨rfl,rfl⟩)
  ·exact .inr (.inr ⟨rfl,rfl⟩)
 ·rintro ((e | ⟨e1,e2⟩) | (e | ⟨e1,e2⟩))
  ·exact .inl (.inl (.inl e))
  ·exact .inl (.inr ⟨by lia,by lia⟩)
  ·exact .inl (.inl (.inr e))
  ·exact .inr ⟨by lia,by lia⟩
structure uG (H:Hp) (D:Addr) (n:Nat) (rs:Nat→Addr) (g:Nat→List Nat):Prop where
 lst:H D=some (.lst ((List.range n).map fun i=>V.ref (rs i)))
 inj:∀i j,i<n→j<n→rs i=rs j→i=j
 ne:∀i,i<n→rs i≠D
 at':∀i,i<n→H (rs i)=some (.lst ((g i).map fun k:Nat=>V.int (k:Int)))
theorem uG.snoc{rs:Nat→Addr}(h:uG H D n rs g)(j:Nat)(hi:i<n):uG (upd H (rs i) (.lst (((g i).map fun k:Nat=>V.int (k:Int))++[V.int (j:Int)]))) D n rs (iF g i j):=by
 refine ⟨by rw [aH (Ne.symm (h.ne i hi))];exact h.lst,h.inj,h.ne,fun a ha=>?_⟩
 unfold iF dU;by_cases e:a=i
 ·subst e
  rw [ae rfl,av,fj];rfl
 ·rw [aa e,aH (fun z=>e (h.inj a i ha hi z))]
  exact h.at' a ha
end My
namespace L2
open PySem PySem.Spec PyProof.Rows
end L2
namespace My
open PySem L2
theorem Kn{X:Cx}{pins:aK}{σ:St}{H:Hp}{s:Shared}(I:Inv X pins σ H s){A:Around}(hu:A.units<cLine){p q:Addr}{x y:Int×Int}(e:H p=some (.tup [.int x.1,.int x.2]))(e':H q=some (.tup [.int y.1,.int y.2])):SeqAt.EqAt A s (.ref p) (.ref q) (decide (x=y)):=by
 by_cases pq:p=q
 ·subst pq
  rw [e] at e';cases x;cases y;simp only [tH,HO.tup.injEq,List.cons.injEq,V.int.injEq,and_true] at e';rw [a_ (Prod.ext e'.1 e'.2)];exact SeqAt.EqAt.same _
 obtain ⟨us,r1,t1,_⟩:=I.tuple (.of e);obtain ⟨vs,r2,t2,_⟩:=I.tuple (.of e');obtain ⟨a1,a2,rfl,EO,ER⟩:=vals2 r1;obtain ⟨b1,b2,rfl,ES,ET⟩:=vals2 r2;have z:=SeqAt.RcAt.tuples (A:=A) (e:=fun j=>if j=0 then eK (.int x.1) (.int y.1) else eK (.int x.2) (.int y.2)) t1 t2 hu (fun j z1 z2=>by
  have:j<2:=z1
  match j with
  | 0=>exact xD EO ES rfl rfl
  | 1=>exact xD ER ET rfl rfl)
 have ec:decide (x=y)=((List.range (min ([a1,a2]:List Value).toArray.size ([b1,b2]:List Value).toArray.size)).all (fun j=>if j=0 then eK (.int x.1) (.int y.1) else eK (.int x.2) (.int y.2)) && ([a1,a2]:List Value).toArray.size == ([b1,b2]:List Value).toArray.size):=by cases x;cases y;simp only [Prod.mk.injEq];show _=((List.range 2).all _ && true);simp [s_,eK];rfl
 rw [ec];exact SeqAt.EqAt.of_refs pq z
def yt(zs:List Int):List (Int×Int):=(List.range zs.length).map fun k=>(min (zs.getD k 0) (zs.getD ((k+1) % zs.length) 0),max (zs.getD k 0) (zs.getD ((k+1) % zs.length) 0))
def TM(L:au)(zs:List Int):List (Int×Int):=L.filter fun p=>decide (p.1∈zs) && decide (p.2∈zs)
end My
namespace L2
open PySem PySem.Spec PyProof.Rows My
end L2
namespace My
open PySem L2
theorem o_(z:Int)(zs:List Int):ee (.int z) (zs.map V.int)=decide (z∈zs):=by
 unfold ee;rw [List.any_map];by_cases h:z∈zs
 ·rw [a_ h,zM]
  exact ⟨z,h,by simp [eK]⟩
 ·rw [bL h,zD]
  intro x hx e;have:x=z:=by simpa [eK] using e
  exact h (this▸hx)
theorem EU(zs:List Int):(zs.map V.int).all kL=true:=by rw [pV];intro x hx;obtain ⟨z,_,rfl⟩:=bD.mp hx;rfl
def qV(L:au)(zs:List Int):Prop:=4≤zs.length∧zs.Nodup∧(yt zs).Perm (TM L zs)
instance (L:au) (zs:List Int):Decidable (qV L zs):=by unfold qV;exact inferInstance
def uH(p q:Int×Int):Prop:=p.1*1000+p.2≤q.1*1000+q.2
variable {M:au}
theorem TN{p:Array Nat}(P:mf M.length p)(U:oT (fun i=>(M.getD i (0,0)).1*1000+(M.getD i (0,0)).2) p M.length) :
  (p.toList.map fun i=>M.getD i (0,0)).Perm M∧(p.toList.map fun i=>M.getD i (0,0)).Pairwise uH:=by
 have pm:p.toList.Perm (List.range M.length):=pZ.mp P;have lt:∀i∈p.toList,i<M.length:=fun i hi=>bb.mp (pm.mem_iff.mp hi);refine ⟨?_,?_⟩
 ·have e:((List.range M.length).map fun i=>M.getD i (0,0))=M:=by
   refine hG (by simp) fun i h1 h2=>?_
   rw [fD,mX,getD_at h2]
  have:=pm.map fun i=>M.getD i (0,0);rw [e] at this;exact this
 ·rw [oq]
  intro i j hi hj D_;rw [aC] at hi hj;rw [fD,fD];have sz:=P.size;have u:=U i j (by lia) (by rw [←sz,←gM];exact hj)
  unfold vN at u;have gi:p.getD i 0=p.toList[i]:=by
   have:i<p.size:=by rw [←gM];exact hi
   simp [Array.getD,this]
  have gj:p.getD j 0=p.toList[j]:=by
   have:j<p.size:=by rw [←gM];exact hj
   simp [Array.getD,this]
  rw [gi,gj] at u;exact u
theorem Ko{H:Hp}{l:Addr}{us:List V}{Q:VK}(el:H l=some (.lst us))(hM:aY H us M)(m64:M.length<1000)(b:∀q∈M,0≤q.2∧q.2<1000)
  (k:∀(l':Addr) (ws:List V) (N:au) (H':Hp),aj H H'→H l'=none→H' l'=some (.lst ws)→aY H' ws N→N.Perm M→N.Pairwise uH→Q (.ref l') H'):JN [.ref l] H Q:=by
 have lX:=hM.1;refine ⟨l,us,fun i=>(M.getD i (0,0)).1,fun i=>(M.getD i (0,0)).2,rfl,el,by lia,fun i v hv=>?_,fun p l' hp hu qW=>?_⟩
 ·have hi:i<M.length:=by rw [←lX];exact (cu.mp hv).1
  obtain ⟨c,rfl,ec⟩:=hM.2 i v M[i] hv (by simp [hi])
  dsimp only;rw [getD_at hi];exact ⟨⟨c,rfl,ec⟩,b _ (bT hi)⟩
 ·rw [lX] at hp hu
  obtain ⟨pm,pw⟩:=TN hp hu;have hP:aY H (p.toList.map fun i=>us.getD i .aN) (p.toList.map fun i=>M.getD i (0,0)):=hM.pick _ fun i hi=>by have:p.toList.Perm (List.range M.length):=pZ.mp hp;exact bb.mp (this.mem_iff.mp hi)
  exact k l' _ _ _ (aQ qW) qW av (hP.mono (aQ qW)) pm pw
end My
namespace L2
open PySem PySem.Spec PyProof.Rows My
end L2
namespace My
open PySem L2
variable {xs:List V}
theorem TQ{v:V}(h1:1≤xs.length)(h:xs[xs.length-1]?=some v):gS xs (-1)=some v:=by
 unfold gS;have e:jU xs.length (-1)=some (xs.length-1):=by
  unfold jU
  split
  ·rename_i hh;lia
  ·split
   ·congr 1
    lia
   ·rename_i h2 h3
    lia
 rw [e];exact h
inductive Wk (a9:Nat→Nat→Prop) (bA:Nat→Prop) (s:Nat):Nat→Prop where
 | one {b:Nat}:a9 s b→Wk a9 bA s b
 | more {a b:Nat}:Wk a9 bA s a→bA a→a9 a b→Wk a9 bA s b
section
variable {a9:Nat→Nat→Prop} {bA pb:Nat→Prop} {s t:Nat}
theorem TR(t:Nat):fh a9 bA s t↔t=s∨Wk a9 bA s t:=by
 constructor
 ·intro h
  induction h with
  | start=>exact .inl rfl
  | step _ o ab ih=>
   rcases ih with rfl | w;·exact .inr (.one ab)
   ·rcases o with rfl | o
    ·exact .inr (.one ab)
    ·exact .inr (.more w o ab)
 ·rintro (rfl | h)
  ·exact .start
  ·induction h with
   | one ab=>exact .step .start (.inl rfl) ab
   | more _ o ab ih=>exact .step ih (.inr o) ab
theorem Wk.mono(h:Wk a9 bA s t)(k:∀x,bA x→pb x):Wk a9 pb s t:=by
 induction h with
 | one ab=>exact .one ab
 | more _ o ab ih=>exact .more ih (k _ o) ab
theorem Wk.imp{yu:Nat→Nat→Prop}(h:Wk a9 bA s t)(k:∀a b,a9 a b→yu a b):Wk yu bA s t:=by
 induction h with
 | one ab=>exact .one (k _ _ ab)
 | more _ o ab ih=>exact .more ih o (k _ _ ab)
theorem Wk.cons{a:Nat}(ab:a9 s a)(ta:bA a)(h:Wk a9 bA a t):Wk a9 bA s t:=by
 induction h with
 | one e=>exact .more (.one ab) ta e
 | more _ o e ih=>exact .more ih o e
theorem Wk.symm(sy:∀a b,a9 a b→a9 b a)(h:Wk a9 bA s t):Wk a9 bA t s:=by
 induction h with
 | one ab=>exact .one (sy _ _ ab)
 | more _ o ab ih=>exact ih.cons (sy _ _ ab) o
theorem Wk.trans{p:Nat}(h:Wk a9 bA s p)(tp:bA p)(h':Wk a9 bA p t):Wk a9 bA s t:=by
 induction h' with
 | one ab=>exact .more h tp ab
 | more _ o ab ih=>exact .more ih o ab
theorem Wk.step{p:Nat}(k:∀x,pb x↔bA x∨x=p):Wk a9 pb s t↔Wk a9 bA s t∨(Wk a9 bA s p∧Wk a9 bA p t):=by
 constructor
 ·intro h
  induction h with
  | one ab=>exact .inl (.one ab)
  | more _ o ab ih=>
   rcases (k _).mp o with o | rfl
   ·rcases ih with ih | ⟨i1,i2⟩
    ·exact .inl (.more ih o ab)
    ·exact .inr ⟨i1,.more i2 o ab⟩
   ·rcases ih with ih | ⟨i1,_⟩
    ·exact .inr ⟨ih,.one ab⟩
    ·exact .inr ⟨i1,.one ab⟩
 ·have m:∀x,bA x→pb x:=fun x h=>(k x).mpr (.inl h)
  rintro (h | ⟨h,h'⟩);·exact h.mono m
  ·exact (h.mono m).trans ((k p).mpr (.inr rfl)) (h'.mono m)
end
def aL(n:Nat)(L:au)(a b:Nat):Prop:=a<n∧b<n∧(((a:Int),(b:Int))∈L∨((b:Int),(a:Int))∈L)
variable {n:Nat} {L:au}
theorem gc(a b:Nat)(h:aL n L a b):aL n L b a:=⟨h.2.1,h.1,h.2.2.symm⟩
def k8(L:au):Prop:=∀p∈L,p.1≠p.2
def dH(n:Nat)(o:List Nat)(k x:Nat):Prop:=x<n∧o.idxOf x<k
def qX(n:Nat)(L:au)(o:List Nat)(k:Nat)(f:Nat→List Nat):Prop:=∀a b:Nat,a<n→b<n→k≤o.idxOf a→k≤o.idxOf b→(b∈f a↔a≠b∧Wk (aL n L) (dH n o k) a b)
variable {o:List Nat}
theorem qX.start{f:Nat→List Nat}(nb:d7 n L f)(ns:k8 L):qX n L o 0 f:=fun a b ha hb _ _=>by
 rw [nb a b ha];constructor
 ·intro h
  refine ⟨fun e=>?_,.one ⟨ha,hb,h⟩⟩;subst e;rcases h with h | h <;> exact ns _ h rfl
 ·rintro ⟨_,h⟩
  cases h with
  | one ab=>exact ab.2.2
  | more _ o _=>exact absurd o.2 (je _)
theorem qX.step{n:Nat}{L:au}{o:List Nat}(ho:o.Perm (List.range n)){k p:Nat}{f g:Nat→List Nat}{ms:List Nat}(h:qX n L o k f)(hp:p<n)(ip:o.idxOf p=k)(hm:∀q,q∈ms↔q∈f p∧k<o.idxOf q)(ml:∀q∈ms,q<n)
  (con:∀a b:Nat,a<n→(b∈g a↔b∈f a∨(a≠b∧a∈ms∧b∈ms))):qX n L o (k+1) g:=fun a b ha hb ka kb=>by
 have th:∀x,dH n o (k+1) x↔dH n o k x∨x=p:=fun x=>by
  unfold dH;constructor
  ·rintro ⟨h1,h2⟩
   by_cases e:o.idxOf x=k
   ·right
    by_cases z:x=p;·exact z
    ·exact absurd (e.trans ip.symm) (k6 ho h1 hp z)
   ·exact .inl ⟨h1,by lia⟩
  ·rintro (⟨h1,h2⟩ | rfl)
   ·exact ⟨h1,by lia⟩
   ·exact ⟨hp,by lia⟩
 have ap:a≠p:=fun e=>by subst e;lia
 have bp:b≠p:=fun e=>by subst e;lia
 have ea:=h p a hp ha (by lia) (by lia)
 have eb:=h p b hp hb (by lia) (by lia)
 rw [con a b ha,h a b ha hb (by lia) (by lia),hm a,hm b,ea,eb,Wk.step th]
 constructor
 ·rintro (⟨h1,h2⟩ | ⟨h1,⟨⟨_,h2⟩,_⟩,⟨_,h3⟩,_⟩)
  ·exact ⟨h1,.inl h2⟩
  ·exact ⟨h1,.inr ⟨h2.symm gc,h3⟩⟩
 ·rintro ⟨h1,h2 | ⟨h2,h3⟩⟩
  ·exact .inl ⟨h1,h2⟩
  ·exact .inr ⟨h1,⟨⟨Ne.symm ap,h2.symm gc⟩,by lia⟩,⟨Ne.symm bp,h3⟩,by lia⟩
def jy(n:Nat)(L:au)(o:List Nat)(p:Nat)(ms:List Nat):Prop:=∀q,q∈ms↔q<n∧o.idxOf p<o.idxOf q∧Wk (aL n L) (dH n o (o.idxOf p)) p q
def TU(N:Addr):Sp:=fun vs H Q E=>∃(t a:Addr) (n:Nat) (L:au) (zs:List Int),vs=[.ref t,.ref a]∧cY H t n L∧eB n L∧k8 L∧n≤60∧H a=some (.lst (zs.map V.int))∧zs.length<64 ∧
 (¬j8 zs n→∀H',aj H H'→E (.ref N) none H') ∧
 ∀o:List Nat,zs=o.map iN→o.Perm (List.range n)→∀(H':Hp) (D:Addr) (rs:Nat→Addr) (g:Nat→List Nat),aj H H'→H D=none→(∀p,p<n→H (rs p)=none)→Kj H' D n rs g→(∀p,p<n→g7 n o p (g p)∧jy n L o p (g p))→Q (.ref D) H'
theorem EV{p q p' q':Nat}(h:dt p q=dt p' q'):(p=p'∧q=q')∨(p=q'∧q=p'):=by
 unfold dt at h;have h1:=dP Prod.fst h;have h2:=dP Prod.snd h;dsimp only at h1 h2
 split at h1 <;> split at h1 <;> split at h2 <;> split at h2 <;> lia
def b9(n:Nat)(L:au)(o:List Nat)(M:au):Prop:=M.Pairwise lexLt∧∀z,z∈M↔∃p q:Nat,p<n∧q<n∧o.idxOf p<o.idxOf q∧Wk (aL n L) (dH n o (o.idxOf p)) p q∧z=dt p q
variable {M N:au}
theorem b9.uniq(h:b9 n L o M)(h':b9 n L o N):M=N:=Et h.1 h'.1 fun z=>by rw [h.2 z,h'.2 z]
theorem b9.lt(h:b9 n L o M):∀z∈M,0≤z.1∧z.1<z.2∧z.2<(n:Int):=fun z hz=>by
 obtain ⟨p,q,hp,hq,hi,_,rfl⟩:=(h.2 z).mp hz;have ne:p≠q:=fun e=>by subst e;lia
 unfold dt;dsimp only
 split <;> split <;> lia
theorem TV(h:N.Pairwise uH)(nd:N.Nodup)(b:∀q∈N,0≤q.2∧q.2<1000):N.Pairwise lexLt:=by
 have:=List.Pairwise.and h nd;refine C4 (fun{x y} hx hy TY=>?_) this;obtain ⟨h1,h2⟩:=TY;have b1:=b x hx;have b2:=b y hy;obtain ⟨x1,x2⟩:=x;obtain ⟨y1,y2⟩:=y;unfold uH at h1;unfold lexLt;dsimp only at *;by_cases z:x1<y1;·exact .inl z
 ·right
  have e1:x1=y1:=by lia
  subst e1;refine ⟨rfl,?_⟩;by_cases y:x2=y2
  ·subst y
   exact absurd rfl h2
  ·lia
variable {g:Nat→List Nat}
theorem TZ(h:o.Perm (List.range n))(n9:n≤30)(k:∀p,p<n→g7 n o p (g p)):((List.range n).map fun p=>(g p).length).sum≤435:=by
 have a:=Kl (l:=List.range n) (f:=fun p=>(g p).length) (g:=fun p=>n-1-o.idxOf p) fun p hp=>EJ h (k p (bb.mp hp));have b:((List.range n).map fun p=>n-1-o.idxOf p).sum=(o.map fun p=>n-1-o.idxOf p).sum:=((h.map _).symm).sum_nat;have c:(o.map fun p=>n-1-o.idxOf p)=(List.range n).map fun k=>n-1-k:=by
  have nd:=nJ h;refine hG (by simp [uF h]) fun i h1 h2=>?_
  rw [fD,fD,mX,AW nd (by simpa using h1)]
 have d:∀n:Nat,n≤30→((List.range n).map fun k=>n-1-k).sum≤435:=by decide
 rw [c] at b;have:=d n n9;lia
structure AZ (H:Hp) (g:Nat→List Nat) (k:Nat) (xs:List V) (M:au):Prop where
 at':aY H xs M
 len:M.length=((List.range k).map fun p=>(g p).length).sum
 mem:∀z,z∈M↔∃p q:Nat,p<k∧q∈g p∧z=dt p q
 nd:M.Nodup
variable {H:Hp} {ys:List V}
theorem AZ.more{H':Hp}{k:Nat}(h:AZ H g k xs M)(s:aY H xs M→aY H' xs M)(hk:k<n)(hg:∀p,p<n→g7 n o p (g p))(hy:aY H' ys ((g k).map (dt k))):AZ H' g (k+1) (xs++ys) (M++(g k).map (dt k)):=by
 have gk:=hg k hk;refine ⟨(s h.at').app hy,by rw [di,h.len,aC,s_,fj,List.sum_append];simp,fun z=>?_,?_⟩
 ·rw [cZ,h.mem,bD]
  constructor
  ·rintro (⟨p,q,h1,h2,h3⟩ | ⟨q,h1,rfl⟩)
   ·exact ⟨p,q,by lia,h2,h3⟩
   ·exact ⟨k,q,by lia,h1,rfl⟩
  ·rintro ⟨p,q,h1,h2,rfl⟩
   by_cases e:p=k
   ·subst e
    exact .inr ⟨q,h2,rfl⟩
   ·exact .inl ⟨p,q,by lia,h2,rfl⟩
 ·refine jL.mpr ⟨h.nd,?_,fun a ha b hb e=>?_⟩
  ·refine uD (List.Pairwise.imp (fun h=>cq h) gk.up) fun q q' hq uf e=>?_
   rcases EV e with ⟨_,e⟩ | ⟨e1,e2⟩;·exact e
   ·lia
  ·subst e
   obtain ⟨p,q,h1,h2,rfl⟩:=(h.mem a).mp ha;obtain ⟨q',uf,e⟩:=bD.mp hb;rcases EV e with ⟨e1,e2⟩ | ⟨e1,e2⟩;·lia
   ·have l1:=(hg p (by lia)).la q h2
    have l2:=gk.la q' uf;subst e1;subst e2;lia
def T1(N:Addr):Sp:=fun vs H Q E=>∃(t a:Addr) (n:Nat) (L:au) (zs:List Int),vs=[.ref t,.ref a]∧cY H t n L∧eB n L∧k8 L∧n≤30∧H a=some (.lst (zs.map V.int))∧zs.length<64 ∧
 (¬j8 zs n→∀H',aj H H'→E (.ref N) none H') ∧
 ∀o:List Nat,zs=o.map iN→o.Perm (List.range n)→∀(H':Hp) (t':Addr) (M:au),aj H H'→H t'=none→cY H' t' n M→b9 n L o M→M.length≤435→Q (.ref t') H'
def T2:R2:=fun x y H Q=>∃(a b:Addr) (n:Nat) (L M:au),x=.ref a∧y=.ref b∧cY H a n L∧cY H b n M∧Q (.bl (decide (L=M))) H
variable {X:Cx}
theorem T3{pins:aK}{σ:St}{s:Shared}(I:L2.Inv X pins σ H s){A:Around}(hu:A.units<cLine){us vs:List Value}(k1:aY H xs L)(k2:aY H ys M)(r1:Vals xs us)(r2:Vals ys vs):∀j (z1:j<us.toArray.size) (z2:j<vs.toArray.size),SeqAt.EqAt A s us.toArray[j] vs.toArray[j] (decide (L.getD j (0,0)=M.getD j (0,0))):=fun j z1 z2=>by
 have l1:=r1.length;have l2:=r2.length;have m1:=k1.1;have m2:=k2.1;have ye:j<us.length:=by simpa using z1
 have S3:j<vs.length:=by simpa using z2
 obtain ⟨p,ep,hp⟩:=k1.2 j xs[j] (L.getD j (0,0)) (by simp) (by simp [du,show j<L.length by lia])
 obtain ⟨p',oC,oY⟩:=k2.2 j ys[j] (M.getD j (0,0)) (by simp) (by simp [du,show j<M.length by lia])
 obtain ⟨x',xh,rx⟩:=r1.get (i:=j) (x:=xs[j]) (by simp)
 obtain ⟨y',EG,ry⟩:=r2.get (i:=j) (x:=ys[j]) (by simp)
 have e1:us.toArray[j]=x':=by simpa using (cu.mp xh).2
 have e2:vs.toArray[j]=y':=by simpa using (cu.mp EG).2
 rw [e1,e2];rw [ep] at rx;rw [oC] at ry;cases rx;cases ry;exact Kn I hu hp oY
theorem T5:((List.range (min L.length M.length)).all (fun j=>decide (L.getD j (0,0)=M.getD j (0,0))) && L.length == M.length)=decide (L=M):=by
 by_cases e:L=M
 ·subst e
  simp
 ·rw [bL e,Bool.eq_false_iff]
  intro h;rw [lF,pV] at h;obtain ⟨h1,h2⟩:=h;have hl:L.length=M.length:=by simpa using h2
  refine e (hG hl fun j g1 g2=>?_);have:=h1 j (bb.mpr (by lia))
  simpa [du,g1,g2] using this
theorem T7(hu:X.A.units+64<cLine):da X (compareOp .Eq) T2:=by
 intro pins s σ H x y v u Q I rx ry h;obtain ⟨a,b,n,L,M,rfl,rfl,⟨la,ua,T8,Kp,k1⟩,⟨lb,ub,T9,EW,k2⟩,q⟩:=h;cases rx;cases ry;obtain ⟨us,r1,t1,_⟩:=I.tuple (.of T8);obtain ⟨vs,r2,t2,_⟩:=I.tuple (.of T9);obtain ⟨a1,a2,rfl,EO,ER⟩:=vals2 r1;obtain ⟨b1,b2,rfl,ES,ET⟩:=vals2 r2;cases ER;cases ET;have inner:SeqAt.EqAt X.A.in1 s (.ref la) (.ref lb) (decide (L=M)):=by
  by_cases pq:la=lb
  ·subst pq
   rw [Kp] at EW;cases EW;have:L=M:=by
    have m1:=k1.1;have m2:=k2.1;refine hG (by lia) fun j g1 g2=>?_
    obtain ⟨p,ep,hp⟩:=k1.2 j (ua[j]'(by lia)) L[j] (by simp) (by simp [g1])
    obtain ⟨p',oC,oY⟩:=k2.2 j (ua[j]'(by lia)) M[j] (by simp) (by simp [g2])
    rw [ep] at oC;cases oC;rw [hp] at oY;simp only [tH,HO.tup.injEq,List.cons.injEq,V.int.injEq,and_true] at oY;exact Prod.ext oY.1 oY.2
   rw [a_ this];exact SeqAt.EqAt.same _
  ·obtain ⟨us,r1,t1,_⟩:=I.tuple (.of Kp)
   obtain ⟨vs,r2,t2,_⟩:=I.tuple (.of EW);have z:=SeqAt.RcAt.tuples (A:=X.A.in1) t1 t2 (by rw [zN];lia) (T3 I (by rw [zN,zN];lia) k1 k2 r1 r2)
   have e1:us.toArray.size=L.length:=by rw [bZ,←r1.length];exact k1.1
   have e2:vs.toArray.size=M.length:=by rw [bZ,←r2.length];exact k2.1
   rw [e1,e2,T5] at z;exact SeqAt.EqAt.of_refs pq z
 refine SeqAt.eq_tupleAt (e:=fun j=>if j=0 then eK (.int (n:Int)) (.int (n:Int)) else decide (L=M)) t1 t2 (by lia) (fun j z1 z2=>?_) ⟨.bl (decide (L=M)),H,I,?_,q⟩
 ·have:j<2:=z1
  match j with
  | 0=>exact xD EO ES rfl rfl
  | 1=>exact inner
 ·show RelV _ _
  have e:((List.range 2).all (fun j=>if j=0 then eK (.int (n:Int)) (.int (n:Int)) else decide (L=M)) && true)=decide (L=M):=by simp [s_,eK]
  exact dP Value.bool e.symm▸rfl
def T_(N:Addr):Sp:=fun vs H Q E=>∃(t a:Addr) (n:Nat) (L:au) (zs:List Int),vs=[.ref t,.ref a]∧cY H t n L∧eB n L∧k8 L∧n≤30∧H a=some (.lst (zs.map V.int))∧zs.length<64 ∧
 (¬j8 zs n→∀H',aj H H'→E (.ref N) none H') ∧
 ∀o:List Nat,zs=o.map iN→o.Perm (List.range n)→∀(H':Hp) (M:au),aj H H'→b9 n L o M→Q (.bl (decide (M=L))) H'
end My
namespace L2
open PySem PySem.Spec PyProof.Rows
section
variable {X:Cx} {a b:Expr} {rest:List Expr} {pos:Pos} {ta tb:TE}
def Kq(K:aE)(ta tb:TE):TE:=fun σ H Q=>ta σ H fun x H1=>∃p xs,x=.ref p∧a7 K H1 p xs∧(if xs.isEmpty=true then tb σ H1 Q else Q x H1)
theorem Ua(ha:PE X a ta)(hb:PE X (.BoolOp .Or (b::rest) pos) tb):PE X (.BoolOp .Or (a::b::rest) pos) (Kq X.K ta tb):=by
 intro pins s σ H Q I h;refine BoolOp_or (aJ (ha pins s σ H _ I h) fun v s1 ⟨x,H1,I1,r1,q1⟩=>?_);obtain ⟨p,xs,rfl,hq,q1⟩:=q1;cases r1;obtain ⟨its,rv,pl,hz⟩:=I1.list hq;have hn:=qy;have hlen:=rv.length;refine wpAny_truthy_list pl.isList (by simp only [bZ] <;> lia) ?_
 have e:(!its.toArray.isEmpty) = !xs.isEmpty:=by
  cases rv with
  | nil=>rfl
  | cons _ _=>rfl
 rw [e];cases z:xs.isEmpty with
 | true=>rw [z,ae rfl] at q1;exact hb pins _ σ H1 Q (I1.tok _) q1
 | false=>
  rw [z,aa (by simp)] at q1
  exact ⟨.ref p,H1,I1.tok _,rfl,q1⟩
def Ub:V→List V→Hp→VK→Prop:=fun x vs H Q=>∃(l:Addr) (zs:List Int) (j:Nat) (z:Int),x=.ref l∧vs=[.int z]∧H l=some (.lst (zs.map V.int))∧zs[j]?=some z∧(∀m,m<j→zs[m]?≠some z)∧Q .aN (upd H l (.lst ((zs.map V.int).eraseIdx j)))
theorem Uc:tZ X "list.remove" Ub:=by
 intro pins s σ H x vs v us Q I rx rv h;obtain ⟨l,zs,j,z,rfl,rfl,hH,hj,EX,q⟩:=h;cases rx;obtain ⟨u,rfl,ru⟩:=rv.one;obtain ⟨t,rfl⟩:=ru;obtain ⟨sz,its,n,r,hl,e⟩:=I.l5 hH;have Ud:j<zs.length:=(cu.mp hj).1;rw [aC] at hl sz;have at':∀m (hm:m<its.toArray.size),∃t',its.toArray[m]=.int (zs.getD m 0) t':=fun m hm=>by
  have dM:m<zs.length:=by simp at hm;lia
  obtain ⟨w,hw,eI⟩:=r.get (i:=m) (x:=.int (zs.getD m 0)) (by rw [bq,du,bu dM];rfl)
  obtain ⟨t',rfl⟩:=eI;exact ⟨t',by simpa using (cu.mp hw).2⟩
 have zj:zs.getD j 0=z:=by rw [du,hj];rfl
 refine om F.slot_list_remove ⟨_,e,rfl⟩ F.entry_list_remove (F.args_list_remove_2 _ _) (MeetsSeq.list_remove l its.toArray n (.int z t) (fun v=>numOf v == z) (fun y hy=>?_) j (by rw [bZ];lia) ?_ (fun m hm EY=>?_) (by rw [bZ];lia)) ⟨e,?_⟩
 ·obtain ⟨m,hm,rfl⟩:=Array.getElem_of_mem hy
  obtain ⟨t',e'⟩:=at' m hm;rw [e'];exact MeetsSeq.EqGives.int _ _ _ _
 ·obtain ⟨t',e'⟩:=at' j (by rw [bZ];lia)
  rw [e',zj];exact pW z
 ·obtain ⟨t',e'⟩:=at' m hm
  rw [e'];have dM:m<zs.length:=by simp at hm;lia
  have:=EX m EY;rw [bu dM] at this;have ne:zs.getD m 0≠z:=fun q=>this (by rw [←q,du,bu dM];rfl)
  show (zs.getD m 0 == z)=false;simpa using ne
 ·refine ⟨.aN,_,I.xK (its':=its.eraseIdx j) hH e ?_ (r.eraseIdx j) ?_,rfl,q⟩
  ·show its.toArray.eraseIdxIfInBounds j=(its.eraseIdx j).toArray
   rw [CT]
  ·have:=DJ (zs.map V.int) j
   rw [aC] at this;lia
end
end L2
namespace My
open PySem L2
theorem Kr:∀{zs:List Nat} {j m:Nat},m<zs.idxOf j→zs[m]?≠some j
 | [],_,_,h=>by simp at h
 | z::zs,j,m,h=>by
  by_cases e:z=j
  ·subst e
   simp [jg] at h
  ·rw [tJ,show (z == j)=false by simpa using e] at h
   dsimp only [cond_false] at h;cases m with
   | zero=>simpa using e
   | succ m=>rw [List.getElem?_cons_succ];exact Kr (by lia)
theorem Ks{α β:Type}(f:α→β):∀(l:List α) (i:Nat),(l.map f).eraseIdx i=(l.eraseIdx i).map f
 | [],_=>rfl
 | _::_,0=>rfl
 | x::l,i+1=>by show f x::(l.map f).eraseIdx i=f x::(l.eraseIdx i).map f;rw [Ks f l i]
theorem Ue(xs:List V)(k:Nat):nz xs (some (k:Int)) none=xs.drop k:=by
 unfold nz;rw [HT.P8,HT.P7];by_cases h:k≤xs.length
 ·rw [Nat.min_eq_left h]
  exact zH (by rw [List.length_drop];lia)
 ·rw [Nat.min_eq_right (by lia),List.drop_of_length_le (ax _),List.drop_of_length_le (by lia),List.take_nil]
end My
namespace L2
open PySem PySem.Spec PyProof.Rows
section
variable {prog:Program} {w:World} {A:Around} {E:aM} {s:Shared}
end
section
variable {prog:Program} {w:World} {A:Around} {E:aM} {s:Shared}
end
section
variable {X:Cx}
end
section
variable {prog:Program} {w:World} {A:Around} {E:aM} {s:Shared}
end
end L2
namespace My
open PySem L2
end My
namespace L2
open PySem PySem.Spec PyProof.Rows
end L2
namespace My
open PySem L2
end My
namespace L2
open PySem PySem.Spec PyProof.Rows
section
variable {X:Cx}
def Ug:V→List V→Hp→VK→Prop:=fun x vs H Q=>∃(l:Addr) (zs:List Int) (j:Nat) (z:Int),x=.ref l∧vs=[.int z]∧H l=some (.lst (zs.map V.int))∧zs.length≤1000∧zs[j]?=some z∧(∀m,m<j→zs[m]?≠some z)∧Q (.int (j:Int)) H
theorem EZ:tZ X "list.index" Ug:=by
 intro pins s σ H x vs v us Q I rx rv h;obtain ⟨l,zs,j,z,rfl,rfl,hH,l1,hj,EX,q⟩:=h;cases rx;obtain ⟨u,rfl,ru⟩:=rv.one;obtain ⟨t,rfl⟩:=ru;obtain ⟨sz,its,n,r,hl,e⟩:=I.l5 hH;have Ud:j<zs.length:=(cu.mp hj).1;rw [aC] at hl sz;have at':∀m (hm:m<its.toArray.size),∃t',its.toArray[m]=.int (zs.getD m 0) t':=fun m hm=>by
  have dM:m<zs.length:=by simp at hm;lia
  obtain ⟨w,hw,eI⟩:=r.get (i:=m) (x:=.int (zs.getD m 0)) (by rw [bq,du,bu dM];rfl)
  obtain ⟨t',rfl⟩:=eI;exact ⟨t',by simpa using (cu.mp hw).2⟩
 have zj:zs.getD j 0=z:=by rw [du,hj];rfl
 refine om F.slot_list_index ⟨_,e,rfl⟩ F.entry_list_index (F.args_list_index_2 _ _) (MeetsSeq.list_index l its.toArray n (.int z t) (fun v=>numOf v == z) (fun y hy=>?_) j (by rw [bZ];lia) (by lia) ?_ (fun m hm EY=>?_)) ⟨e,?_⟩
 ·obtain ⟨m,hm,rfl⟩:=Array.getElem_of_mem hy
  obtain ⟨t',e'⟩:=at' m hm;rw [e'];exact MeetsSeq.EqGives.int _ _ _ _
 ·obtain ⟨t',e'⟩:=at' j (by rw [bZ];lia)
  rw [e',zj];exact pW z
 ·obtain ⟨t',e'⟩:=at' m hm
  rw [e'];have dM:m<zs.length:=by simp at hm;lia
  have:=EX m EY;rw [bu dM] at this;have ne:zs.getD m 0≠z:=fun q=>this (by rw [←q,du,bu dM];rfl)
  show (zs.getD m 0 == z)=false;simpa using ne
 ·exact ⟨.int (j:Int),H,I.tok _,⟨_,rfl⟩,q⟩
end
end L2
namespace My
open PySem L2
def p2(g:Nat→Nat→Nat):List Nat→Nat
 | []=>0
 | x::l=>(l.map (g x)).sum+p2 g l
def p3(f:Nat→Nat→Nat→Nat):List Nat→Nat
 | []=>0
 | x::l=>p2 (f x) l+p3 f l
variable {g:Nat→Nat→Nat} {l l':List Nat}
theorem Kt(sy:∀x y,g x y=g y x)(p:l.Perm l'):p2 g l=p2 g l':=by
 induction p with
 | nil=>rfl
 | cons x p ih=>simp only [p2,ih];rw [(p.map (g x)).sum_nat]
 | swap x y l=>simp only [p2,cR,fm];rw [sy x y];lia
 | trans _ _ h1 h2=>exact h1.trans h2
theorem Uh{f:Nat→Nat→Nat→Nat}(s1:∀x y z,f x y z=f y x z)(s2:∀x y z,f x y z=f x z y)(p:l.Perm l'):p3 f l=p3 f l':=by
 induction p with
 | nil=>rfl
 | cons x p ih=>simp only [p3,ih];rw [Kt (s2 x) p]
 | swap x y l=>simp only [p3,p2];rw [show l.map (f y x)=l.map (f x y) from hE fun z _=>s1 y x z];lia
 | trans _ _ h1 h2=>exact h1.trans h2
variable {f:Nat→Nat}
theorem uI{g:Nat→Nat}(h:∀x∈l,f x=g x):(l.map f).sum=(l.map g).sum:=dP List.sum (hE h)
theorem A0(h:∀x∈l,f x=0):(l.map f).sum=0:=by
 induction l with
 | nil=>rfl
 | cons x l ih=>rw [cR,fm,h x bV,ih fun y hy=>h y (bX _ hy)]
theorem Ui{g:Nat→Nat}(h:∀x∈l,f x≤g x):(l.map f).sum≤(l.map g).sum:=by
 induction l with
 | nil=>exact ax _
 | cons x l ih=>rw [cR,fm,cR,fm];have:=h x bV;have:=ih fun y hy=>h y (bX _ hy);lia
theorem Uj{g:Nat→Nat}:(l.map fun x=>f x+g x).sum=(l.map f).sum+(l.map g).sum:=by
 induction l with
 | nil=>rfl
 | cons x l ih=>simp only [cR,fm,ih];lia
variable {b c:Nat}
theorem Uk(nd:l.Nodup)(hb:b∈l):(l.map fun y=>if y=b then c else 0).sum=c:=by
 induction l with
 | nil=>cases hb
 | cons x l ih=>
  rw [cR,fm];obtain ⟨n1,n2⟩:=gq.mp nd;rcases bh.mp hb with rfl | h
  ·rw [ae rfl,A0 fun y hy=>aa (fun e:y=b=>n1 (e▸hy))]
   lia
  ·rw [aa (fun e:x=b=>n1 (e▸h)),ih n2 h]
   lia
variable {g':Nat→Nat→Nat}
theorem Ku(nd:l.Nodup)(h:∀x∈l,∀y∈l,x≠y→g x y=g' x y):p2 g l=p2 g' l:=by
 induction l with
 | nil=>rfl
 | cons x l ih=>obtain ⟨n1,n2⟩:=gq.mp nd;show (l.map (g x)).sum+p2 g l=(l.map (g' x)).sum+p2 g' l;rw [uI fun y hy=>h x bV y (bX _ hy) fun e=>n1 (e▸hy),ih n2 fun a ha b hb=>h a (bX _ ha) b (bX _ hb)]
theorem A1(h:∀x∈l,∀y∈l,g x y≤g' x y):p2 g l≤p2 g' l:=by
 induction l with
 | nil=>exact ax _
 | cons x l ih=>show (l.map (g x)).sum+p2 g l≤(l.map (g' x)).sum+p2 g' l;exact Nat.add_le_add (Ui fun y hy=>h x bV y (bX _ hy)) (ih fun a ha b hb=>h a (bX _ ha) b (bX _ hb))
theorem Ul{f f':Nat→Nat→Nat→Nat}(h:∀x∈l,∀y∈l,∀z∈l,f x y z≤f' x y z):p3 f l≤p3 f' l:=by
 induction l with
 | nil=>exact ax _
 | cons x l ih=>show p2 (f x) l+p3 f l≤p2 (f' x) l+p3 f' l;exact Nat.add_le_add (A1 fun y hy z hz=>h x bV y (bX _ hy) z (bX _ hz)) (ih fun a ha b hb c hc=>h a (bX _ ha) b (bX _ hb) c (bX _ hc))
theorem Um:p2 (fun x y=>g x y+g' x y) l=p2 g l+p2 g' l:=by
 induction l with
 | nil=>rfl
 | cons x l ih=>simp only [p2,ih,Uj];lia
theorem Kv(h:∀x∈l,∀y,g x y=0):p2 g l=0:=by
 induction l with
 | nil=>rfl
 | cons x l ih=>show (l.map (g x)).sum+p2 g l=0;rw [A0 fun y _=>h x bV y,ih fun a ha=>h a (bX _ ha)]
variable {a:Nat}
theorem Uo(pw:l.Pairwise (· < ·))(ha:a∈l)(hb:b∈l)(ab:a<b):p2 (fun i j=>if i=a∧j=b then c else 0) l=c:=by
 induction l with
 | nil=>cases ha
 | cons x l ih=>
  obtain ⟨n1,n2⟩:=p9.mp pw;have nd:l.Nodup:=n2.imp fun h=>cq h;show (l.map fun j=>if x=a∧j=b then c else 0).sum+p2 _ l=c
  rcases bh.mp ha with rfl | h
  ·have i8:b∈l:=by
    rcases bh.mp hb with rfl | h;·lia
    ·exact h
   rw [show (l.map fun j=>if a=a∧j=b then c else 0).sum=(l.map fun y=>if y=b then c else 0).sum from uI fun y _=>by simp,Uk nd i8,Kv fun i hi j=>aa fun e=>by have:=n1 i hi;lia]
   lia
  ·have xa:=n1 a h
   have i8:b∈l:=by
    rcases bh.mp hb with rfl | h;·lia
    ·exact h
   rw [A0 fun y _=>aa fun e=>by lia,ih n2 h i8]
   lia
theorem Kw(pw:l.Pairwise (· < ·)):p2 g l=(l.map fun y=>(l.map fun z=>if y<z then g y z else 0).sum).sum:=by
 induction l with
 | nil=>rfl
 | cons x l ih=>
  obtain ⟨n1,n2⟩:=p9.mp pw;show (l.map (g x)).sum+p2 g l=_;rw [cR,fm,cR,fm,aa (eE x),ih n2];rw [show (l.map fun z=>if x<z then g x z else 0).sum=(l.map (g x)).sum from uI fun z hz=>ae (n1 z hz)]
  rw [show (l.map fun y=>((x::l).map fun z=>if y<z then g y z else 0).sum).sum=(l.map fun y=>(l.map fun z=>if y<z then g y z else 0).sum).sum from uI fun y hy=>by
   rw [cR,fm,aa (by have:=n1 y hy;lia)]
   lia]
  lia
theorem E1(n:Nat):(List.range n).Pairwise (· < ·):=w_
theorem Kx{n:Nat}{W:Nat→Nat→Nat}:∀{M:au},M.Nodup→(∀z∈M,0≤z.1∧z.1<z.2∧z.2<(n:Int))→(M.map fun z=>W z.1.toNat z.2.toNat).sum=p2 (fun i j=>if ((i:Int),(j:Int))∈M then W i j else 0) (List.range n)
 | [],_,_=>by rw [Kv fun i _ j=>aa fun h=>nomatch h];rfl
 | z::M,nd,lt=>by
  obtain ⟨n1,n2⟩:=gq.mp nd;obtain ⟨z0,z1,z2⟩:=lt z bV;rw [cR,fm,Kx n2 fun y hy=>lt y (bX _ hy)];have d:=Uo (c:=W z.1.toNat z.2.toNat) (E1 n) (a:=z.1.toNat) (b:=z.2.toNat) (bb.mpr (by lia)) (bb.mpr (by lia)) (by lia)
  rw [←d,←Um];refine Ku hI fun i _ j _ _=>?_;by_cases e:i=z.1.toNat∧j=z.2.toNat
  ·have ez:((i:Int),(j:Int))=z:=by obtain ⟨e1,e2⟩:=e;subst e1;subst e2;rw [Int.toNat_of_nonneg z0,Int.toNat_of_nonneg (by lia)]
   obtain ⟨e1,e2⟩:=e;have hm:((i:Int),(j:Int))∈z::M:=ez.symm▸bV;have hn:¬((i:Int),(j:Int))∈M:=fun h=>n1 (ez▸h);rw [ae ⟨e1,e2⟩,ae hm,aa hn,←e1,←e2,w6]
  ·rw [aa e]
   have:((i:Int),(j:Int))≠z:=fun h=>e (by subst h;exact ⟨(cQ i).symm,(cQ j).symm⟩)
   by_cases h:((i:Int),(j:Int))∈M
   ·rw [ae h,ae (bX _ h)]
    lia
   ·rw [aa h,aa fun h'=>(bh.mp h').elim this h]
def rL(M:au)(a b:Nat):Bool:=decide (((a:Int),(b:Int))∈M) || decide (((b:Int),(a:Int))∈M)
variable {M:au}
theorem iG:rL M a b=true↔((a:Int),(b:Int))∈M∨((b:Int),(a:Int))∈M:=by unfold rL;rw [Bool.or_eq_true,fk,fk]
theorem yw(M:au)(a b:Nat):rL M a b=rL M b a:=Bool.or_comm ..
def kd(r:Nat→Nat→Bool)(x y:Nat):Nat:=if r x y then 1 else 0
def jz(r:Nat→Nat→Bool)(x y z:Nat):Nat:=if r x y && r x z && r y z then 1 else 0
def A2(n:Nat)(M:au):Nat:=p3 (jz (rL M)) (List.range n)
def nK(n:Nat)(M:au):Nat:=4*M.length+2*A2 n M+n
variable {n:Nat}
theorem yy(nd:M.Nodup)(lt:∀z∈M,0≤z.1∧z.1<z.2∧z.2<(n:Int)):M.length=p2 (kd (rL M)) (List.range n):=by
 have:=Kx (W:=fun _ _=>1) nd lt;rw [show (M.map fun z=>(fun _ _=>1:Nat→Nat→Nat) z.1.toNat z.2.toNat).sum=M.length from by
  clear this nd lt
  induction M with
  | nil=>rfl
  | cons z M ih=>rw [cR,fm,ih,dY];exact Nat.add_comm 1 _] at this
 rw [this,Kw (E1 n),Kw (E1 n)];refine uI fun i _=>uI fun j _=>?_;by_cases ij:i<j
 ·rw [ae ij,ae ij]
  unfold kd;by_cases h:((i:Int),(j:Int))∈M;·rw [ae h,ae (iG.mpr (.inl h))]
  ·rw [aa h,aa fun h'=>by
    rcases iG.mp h' with h' | h';·exact h h'
    ·have:=lt _ h'
     lia]
 ·rw [aa ij,aa ij]
theorem Up(M:au)(x y z:Nat):jz (rL M) x y z=jz (rL M) y x z:=by unfold jz;rw [yw M y x];cases rL M x y <;> cases rL M x z <;> cases rL M y z <;> rfl
theorem Uq(M:au)(x y z:Nat):jz (rL M) x y z=jz (rL M) x z y:=by unfold jz;rw [yw M z y];cases rL M x y <;> cases rL M x z <;> cases rL M y z <;> rfl
theorem Ky(a:Nat→Bool):∀l:List Nat,2*p2 (fun y z=>if a y && a z then 1 else 0) l+(l.map fun y=>if a y then 1 else 0).sum=(l.map fun y=>if a y then 1 else 0).sum*(l.map fun y=>if a y then 1 else 0).sum
 | []=>rfl
 | x::l=>by
  have ih:=Ky a l;simp only [p2,cR,fm];by_cases h:a x
  ·simp only [h,Bool.true_and,if_true]
   simp only [Nat.add_mul,Nat.mul_add];lia
  ·simp only [h,wU,Bool.false_eq_true,if_false]
   rw [A0 fun _ _=>rfl,d_,d_];exact ih
def Good(r:Nat→Nat→Bool)(m:Nat→Nat):List Nat→Prop
 | []=>True
 | x::l=>m x=(l.map fun y=>if r x y then 1 else 0).sum∧(∀y∈l,∀z∈l,y≠z→r x y=true→r x z=true→r y z=true)∧Good r m l
theorem Kz{r:Nat→Nat→Bool}{m:Nat→Nat}:∀{l:List Nat},l.Nodup→Good r m l→(l.map fun x=>m x*m x+3*m x+1).sum=4*p2 (kd r) l+2*p3 (jz r) l+l.length
 | [],_,_=>rfl
 | x::l,nd,⟨h1,h2,h3⟩=>by
  obtain ⟨n1,n2⟩:=gq.mp nd;have ih:=Kz n2 h3;have e:p2 (jz r x) l=p2 (fun y z=>if r x y && r x z then 1 else 0) l:=Ku n2 fun y hy z hz yz=>by
   unfold jz;by_cases a:r x y <;> by_cases b:r x z;·simp [a,b,h2 y hy z hz yz a b]
   ·simp [a,b]
   ·simp [a,b]
   ·simp [a,b]
  have e2:(l.map (kd r x)).sum=m x:=h1.symm;have pk:=Ky (r x) l;rw [←h1] at pk;show m x*m x+3*m x+1+(l.map fun x=>m x*m x+3*m x+1).sum=4*((l.map (kd r x)).sum+p2 (kd r) l)+2*(p2 (jz r x) l+p3 (jz r) l)+(l.length+1);rw [ih,e2,e];lia
variable {L:au} {o:List Nat}
theorem Ur(f:b9 n L o M)(h:aL n M a b){k:Nat}(hk:o.idxOf a≤k∨o.idxOf b≤k):Wk (aL n L) (dH n o k) a b:=by
 have go:∀{a b:Nat},((a:Int),(b:Int))∈M→(o.idxOf a≤k∨o.idxOf b≤k)→Wk (aL n L) (dH n o k) a b:=fun{a b} hm hk=>by
  obtain ⟨p,q,hp,hq,pq,w,e⟩:=(f.2 _).mp hm;have e:dt a b=dt p q:=by rw [←e];have:=f.lt _ hm;unfold dt;rw [aa (by lia),ae (by lia)]
  rcases EV e with ⟨rfl,rfl⟩ | ⟨rfl,rfl⟩;·exact w.mono fun x hx=>⟨hx.1,by have:=hx.2;lia⟩
  ·exact (w.symm gc).mono fun x hx=>⟨hx.1,by have:=hx.2;lia⟩
 rcases h.2.2 with h | h;·exact go h hk
 ·exact (go h hk.symm).symm gc
theorem mB(f:b9 n L o M)(ha:a<n)(hb:b<n)(ab:o.idxOf a<o.idxOf b):rL M a b=true↔Wk (aL n L) (dH n o (o.idxOf a)) a b:=by
 constructor
 ·intro h
  exact Ur f ⟨ha,hb,iG.mp h⟩ (.inl (ax _))
 ·intro w
  have hm:=(f.2 _).mpr ⟨a,b,ha,hb,ab,w,rfl⟩;rw [iG];unfold dt at hm;by_cases h:(b:Int)<(a:Int)
  ·rw [ae h,aa (by lia)] at hm
   exact .inr hm
  ·by_cases h':(b:Int)>(a:Int)
   ·rw [aa h,ae h'] at hm
    exact .inl hm
   ·have e:a=b:=by lia
    subst e;lia
theorem Us(l:List Nat)(c:Nat→Bool):(l.map fun k=>if c k then 1 else 0).sum=(l.filter c).length:=by
 induction l with
 | nil=>rfl
 | cons x l ih=>
  rw [kB,cR,fm];by_cases h:c x;·rw [ae h,ae h,dY,ih];lia
  ·rw [aa h,aa h,ih];lia
theorem KA{n:Nat}{L M:au}{o:List Nat}(ho:o.Perm (List.range n))(f:b9 n L o M){g:Nat→List Nat}(hg:∀p,p<n→g7 n o p (g p)∧jy n L o p (g p)):∀(l pre:List Nat),o=pre++l→Good (rL M) (fun x=>(g x).length) l
 | [],_,_=>trivial
 | x::l,pre,e=>by
  have nd:=nJ ho;have qY:=nd;rw [e,jL] at qY;obtain ⟨np,nx,dj⟩:=qY;obtain ⟨Ut,nl⟩:=gq.mp nx;have hx:x<n:=(fI ho).mp (by rw [e];simp)
  have ix:o.idxOf x=pre.length:=by rw [e,jM,aa fun h=>dj x h x bV rfl,jg,d_]
  have il:∀y,y∈l↔y<n∧o.idxOf x<o.idxOf y:=fun y=>by
   constructor
   ·intro h
    refine ⟨(fI ho).mp (by rw [e];simp [h]),?_⟩
    have yx:y≠x:=fun q=>Ut (q▸h);rw [ix,e,jM,aa fun h'=>dj y h' y (bX _ h) rfl,tJ,show (x == y)=false from by simpa using yx.symm]
    simp only [cond_false];lia
   ·rintro ⟨h,h'⟩
    have hm:=(fI ho).mpr h;rw [e,cZ,bh] at hm;rcases hm with hm | rfl | hm
    ·rw [ix,e,jM,ae hm] at h'
     have:=m5 hm;lia
    ·lia
    ·exact hm
  refine ⟨?_,?_,KA ho f hg l (pre++[x]) (by rw [e];simp)⟩
  ·rw [Us]
   obtain ⟨gk,gw⟩:=hg x hx;refine ((qa (gk.up.imp fun h=>cq h) (nl.filter _)).mpr fun q=>?_).length_eq;rw [gw q,bI,il q];constructor
   ·rintro ⟨h1,h2,h3⟩
    exact ⟨⟨h1,h2⟩,(mB f hx h1 h2).mpr h3⟩
   ·rintro ⟨⟨h1,h2⟩,h3⟩
    exact ⟨h1,h2,(mB f hx h1 h2).mp h3⟩
  ·intro y hy z hz yz ry rz
   obtain ⟨y1,y2⟩:=(il y).mp hy;obtain ⟨z1,z2⟩:=(il z).mp hz;have wy:=(mB f hx y1 y2).mp ry;have wz:=(mB f hx z1 z2).mp rz;have ne:=k6 ho y1 z1 yz;have both:∀k,o.idxOf x<k→Wk (aL n L) (dH n o k) y z:=fun k hk=>by
    have m:∀t,dH n o (o.idxOf x) t→dH n o k t:=fun t ht=>⟨ht.1,by have:=ht.2;lia⟩
    exact ((wy.symm gc).mono m).trans ⟨hx,hk⟩ (wz.mono m)
   by_cases h:o.idxOf y<o.idxOf z;·exact (mB f y1 z1 h).mpr (both _ y2)
   ·rw [yw]
    exact (mB f z1 y1 (by lia)).mpr ((both _ z2).symm gc)
theorem KC(ho:o.Perm (List.range n))(f:b9 n L o M){g:Nat→List Nat}(hg:∀p,p<n→g7 n o p (g p)∧jy n L o p (g p)) :
  ((List.range n).map fun x=>(g x).length*(g x).length+3*(g x).length+1).sum=nK n M:=by
 have nd:M.Nodup:=f.1.imp fun h e=>by subst e;unfold lexLt at h;lia
 have gs:=Kz (nJ ho) (KA ho f hg o [] rfl);rw [←(ho.map fun x=>(g x).length*(g x).length+3*(g x).length+1).sum_nat,gs];unfold nK A2;rw [yy nd f.lt,Kt (fun x y=>by unfold kd;rw [yw]) ho,Uh (Up M) (Uq M) ho,ho.length_eq,dI]
def Uu(N:Addr):Sp:=fun vs H Q E=>∃(t a:Addr) (n:Nat) (L:au) (zs:List Int),vs=[.ref t,.ref a]∧cY H t n L∧eB n L∧k8 L∧n≤30∧H a=some (.lst (zs.map V.int))∧zs.length<64 ∧
 (¬j8 zs n→∀H',aj H H'→E (.ref N) none H') ∧
 ∀o:List Nat,zs=o.map iN→o.Perm (List.range n)→∀(H':Hp),aj H H'→∀d:Nat,(∀M,b9 n L o M→d=nK n M)→Q (.int (d:Int)) H'
def Uv:Sp:=fun vs H Q _=>∃(t:Addr) (n:Nat) (L:au),vs=[.ref t]∧cY H t n L∧eB n L∧n≤60∧L.length≤500 ∧
 ∀(H':Hp) (D:Addr) (rs:Nat→Addr) (g:Nat→List Nat),aj H H'→H D=none→(∀i,i<n→H (rs i)=none)→uG H' D n rs g→d7 n L g→(∀i,(g i).length≤2*L.length)→((∀p∈L,p.1<p.2)→L.Nodup→∀i,(g i).Nodup)→Q (.ref D) H'
end My
namespace L2
open PySem
section
variable {prog:Program} {w:World} {A:Around} {E:aM} {s:Shared}
end
end L2
namespace My
open PySem L2
variable {L:au}
theorem Uw(nd:L.Nodup){k:Nat}(hk:k<L.length)(h:L[k]∈L.take k):False:=by
 obtain ⟨i,hi,e⟩:=List.mem_take_iff_getElem.mp h;have:=(ou.mp nd);have Ux:i<k:=by lia
 exact oq.mp this i k (by lia) hk Ux e
variable {g:Nat→List Nat} {i j:Nat}
theorem KD(h:∀a,(g a).Nodup)(hj:j∉g i)(a:Nat):(iF g i j a).Nodup:=by
 unfold iF dU;by_cases e:a=i
 ·subst e
  simp only [if_true];rw [jL];refine ⟨h a,by simp,fun x hx y hy e=>?_⟩
  rw [bS] at hy;subst hy;subst e;exact hj hx
 ·simp only [e,if_false]
  exact h a
theorem Uy{n:Nat}(h:∀a,(g a).Nodup)(nb:d7 n L g)(hi:i<n)(hj:j<n)(ij:i≠j)(h1:((i:Int),(j:Int))∉L)(h2:((j:Int),(i:Int))∉L)(a:Nat):(iF (iF g i j) j i a).Nodup:=by
 refine KD (KD h fun hm=>?_) (fun hm=>?_) a
 ·rcases (nb i j hi).mp hm with h | h
  ·exact h1 h
  ·exact h2 h
 ·have e:iF g i j j=g j:=by unfold iF dU;simp only [Ne.symm ij,if_false]
  rw [e] at hm;rcases (nb j i hj).mp hm with h | h;·exact h2 h
  ·exact h1 h
end My
namespace L2
open PySem PySem.Spec PyProof.Rows My
theorem A3{wi:TI}{ρ:St→St}{tt:TT}{te:TE}{σ:St}{H:Hp}{Q:VK}{xs:List V}(c:V→Bool)(dR:∀R:It→Hp→Prop,(∀J H1,aj H H1→iX J xs H1→R J H1)→wi σ H R)(hn:xs.length<sizeLine)
  (test:∀x∈xs,∀(Hc:Hp) (R:Bool→Hp→Prop),aj H Hc→R (c x) Hc→tt (some x::ρ σ) Hc R)
  (elem:∀(x:V) (Hc:Hp) (R:VK),R x Hc→te (some x::ρ σ) Hc R)
  (fin:∀D Hc,H D=none→aj H Hc→Hc D=some (.lst (xs.filter c))→Q (.ref D) Hc):e_ wi ρ tt te σ H Q:=by
 refine dR _ fun J H1 s1 js=>?_;intro D nD;refine ⟨fun i m ys Hc=>m=xs.length-i∧i≤xs.length∧Hc D=some (.lst ys)∧aj H1 Hc∧ys.length≤i∧ys=(xs.take i).filter c,⟨_,rfl,bY _,av,eN (aj.refl H1) nD,ax _,rfl⟩,?_⟩;rintro i m ys Hc ⟨rfl,hi,eD,sH,ly,hP⟩;refine ⟨eD,?_⟩;by_cases aV:i<xs.length
 ·refine .inr ⟨js.go i Hc sH aV,fun x H' hy=>?_⟩
  obtain ⟨rfl,hx⟩:=js.eY i Hc x H' sH hy;have ex:=hx aV;have mx:x∈xs:=kq ex;have tk:xs.take (i+1)=xs.take i++[x]:=by rw [kA,ex];rfl
  refine test x mx _ _ (s1.trans sH) ?_;by_cases hb:c x=true
  ·rw [ae hb]
   refine elem x _ _ ⟨eD,by lia,xs.length-(i+1),by lia,rfl,aV,av,eN sH nD,by simp;lia,?_⟩
   rw [tk,mY,←hP,kB,ae hb];rfl
  ·rw [aa hb]
   refine ⟨xs.length-(i+1),by lia,rfl,aV,eD,sH,by lia,?_⟩
   rw [tk,mY,←hP,kB,aa hb,zO,ko]
 ·have e:i=xs.length:=by lia
  subst e;rw [gu] at hP;subst hP;exact .inl ⟨js.stop _ Hc sH (ax _),fin D Hc (none_of s1 nD) (s1.trans sH) eD⟩
end L2
namespace My
open PySem L2
section
variable {P a d:Addr} {H Hc:Hp} {n m:Nat} {L:au}
end
variable {n:Nat} {L M:au} {o:List Nat}
theorem A4(f:b9 n L o M):M.Nodup:=f.1.imp fun h e=>by subst e;unfold lexLt at h;lia
theorem KG(f:b9 n L o M)(ph:n≤30):M.length≤435:=by
 rw [yy (A4 f) f.lt];refine bR (A1 (g':=fun _ _=>1) fun x _ y _=>?_) ?_
 ·unfold kd
  split <;> decide
 ·have:∀m:Fin 31,p2 (fun _ _=>1) (List.range m)≤435:=by decide +kernel
  exact this ⟨n,by lia⟩
section
variable {n:Nat} {E:Nat→Nat→Prop} {pos rk:Nat→Nat}
def qZ(n:Nat)(E:Nat→Nat→Prop)(pos:Nat→Nat):Prop:=∀a b c,a<n→b<n→c<n→pos a<pos b→pos a<pos c→b≠c→E a b→E a c→E b c
structure Walk (n:Nat) (E:Nat→Nat→Prop) (p:Nat→Nat) (k:Nat):Prop where
 lt:∀i,i≤k→p i<n
 ne:∀i j,i<j→j≤k→p i≠p j
 ed:∀i j,i<j→j≤k→(E (p i) (p j)↔j=i+1)
theorem Walk.back{p:Nat→Nat}{k:Nat}(sy:∀a b,E a b→E b a)(h:Walk n E p k):Walk n E (fun i=>p (k-i)) k where
 lt:=fun i hi=>h.lt _ (by lia)
 ne:=fun i j ij jk=>(h.ne (k-j) (k-i) (by lia) (by lia)).symm
 ed:=fun i j ij jk=>by
  constructor
  ·intro e
   have:=(h.ed (k-j) (k-i) (by lia) (by lia)).mp (sy _ _ e)
   lia
  ·intro e
   exact sy _ _ ((h.ed (k-j) (k-i) (by lia) (by lia)).mpr (by lia))
theorem Uz(cl:qZ n E rk)(inj:∀a b,a<n→b<n→rk a=rk b→a=b)(sy:∀a b,E a b→E b a){c:Nat→Nat}{m:Nat}(m4:4≤m)(lt:∀i,i<m→c i<n)(ne:∀i j,i<j→j<m→c i≠c j)
  (ed:∀i j,i<j→j<m→(E (c i) (c j)↔j=i+1∨(i=0∧j=m-1))):False:=by
 have least:∀k,k<m→∃i,i≤k∧∀j,j≤k→rk (c i)≤rk (c j):=fun k=>by
  induction k with
  | zero=>exact fun _=>⟨0,ax _,fun j hj=>by rw [show j=0 by lia];exact ax _⟩
  | succ k ih=>
   intro hk;obtain ⟨i,hi,h⟩:=ih (by lia)
   by_cases q:rk (c i)≤rk (c (k+1))
   ·refine ⟨i,by lia,fun j hj=>?_⟩
    by_cases e:j=k+1;·rw [e];exact q
    ·exact h j (by lia)
   ·refine ⟨k+1,ax _,fun j hj=>?_⟩
    by_cases e:j=k+1;·rw [e];exact ax _
    ·have:=h j (by lia)
     lia
 obtain ⟨i,hi,h⟩:=least (m-1) (by lia)
 have less:∀j,j<m→j≠i→rk (c i)<rk (c j):=fun j hj ji=>by
  have h1:=h j (by lia)
  by_cases q:rk (c i)=rk (c j)
  ·have e:=inj _ _ (lt i (by lia)) (lt j hj) q
   rcases Nat.lt_or_gt_of_ne ji with z | z;·exact absurd e.symm (ne j i z (by lia))
   ·exact absurd e (ne i j z hj)
  ·lia
 have use:∀a b,a<b→b<m→a≠i→b≠i→E (c i) (c a)→E (c i) (c b)→b=a+1∨(a=0∧b=m-1):=fun a b ab bm ai bi e1 e2=>(ed a b ab bm).mp (cl (c i) (c a) (c b) (lt _ (by lia)) (lt _ (by lia)) (lt _ bm) (less a (by lia) ai) (less b bm bi) (ne a b ab bm) e1 e2)
 by_cases z:i=0
 ·subst z
  have:=use 1 (m-1) (by lia) (by lia) (by lia) (by lia) ((ed 0 1 (by lia) (by lia)).mpr (.inl rfl)) ((ed 0 (m-1) (by lia) (by lia)).mpr (.inr ⟨rfl,rfl⟩))
  lia
 ·by_cases z':i=m-1
  ·have e0:E (c i) (c 0):=sy _ _ ((ed 0 i (by lia) (by lia)).mpr (.inr ⟨rfl,z'⟩))
   have e1:E (c i) (c (m-2)):=sy _ _ ((ed (m-2) i (by lia) (by lia)).mpr (.inl (by lia)))
   have:=use 0 (m-2) (by lia) (by lia) (by lia) (by lia) e0 e1
   lia
  ·have e0:E (c i) (c (i-1)):=sy _ _ ((ed (i-1) i (by lia) (by lia)).mpr (.inl (by lia)))
   have e1:E (c i) (c (i+1)):=(ed i (i+1) (by lia) (by lia)).mpr (.inl rfl)
   have:=use (i-1) (i+1) (by lia) (by lia) (by lia) (by lia) e0 e1
   lia
def E2(n:Nat)(E:Nat→Nat→Prop)(pos:Nat→Nat):Prop:=∀a b c,a<n→b<n→c<n→pos a<pos b→pos b<pos c→E a c→¬E b c→∃d,d<n∧pos b<pos d∧E b d∧¬E a d
theorem KH{q:Nat→Prop}(h0:q 0):∀k,∃j,j≤k∧q j∧∀i,j<i→i≤k→¬q i
 | 0=>⟨0,ax _,h0,fun i h h'=>by lia⟩
 | k+1=>by
  obtain ⟨j,hj,hq,hn⟩:=KH h0 k;by_cases z:q (k+1);·exact ⟨k+1,ax _,z,fun i h h'=>by lia⟩
  ·refine ⟨j,by lia,hq,fun i h h'=>?_⟩
   by_cases e:i=k+1;·rw [e];exact z
   ·exact hn i h (by lia)
theorem E3(cl:qZ n E rk)(inj:∀a b,a<n→b<n→rk a=rk b→a=b)(uJ:∀a b,a<n→b<n→pos a=pos b→a=b)(sy:∀a b,E a b→E b a)(ir:∀a,¬E a a)(mo:E2 n E pos)(pn:∀a,a<n→pos a<n) :
  ∀(d:Nat) (p:Nat→Nat) (k:Nat),n-pos (p 0)≤d→2≤k→Walk n E p k→pos (p 0)<pos (p k)→(∀i,0<i→i<k→pos (p i)<pos (p 0))→False
 | 0,p,k,hd,k2,W,h0,hi=>by
  have:=pn _ (W.lt 0 (by lia))
  lia
 | d+1,p,k,hd,k2,W,h0,hi=>by
  obtain ⟨x,xn,xp,ex,nx⟩:=mo (p (k-1)) (p 0) (p k) (W.lt _ (by lia)) (W.lt _ (by lia)) (W.lt _ (ax _)) (hi _ (by lia) (by lia)) h0 ((W.ed _ _ (by lia) (ax _)).mpr (by lia)) (fun e=>by have:=(W.ed 0 k (by lia) (ax _)).mp e;lia)
  have KI:∀i,i<k→pos (p i)≤pos (p 0):=fun i ik=>by
   by_cases z:i=0;·rw [z];exact ax _
   ·exact mP (hi i (by lia) ik)
  have E4:∀i,i≤k→x≠p i:=fun i ik e=>by
   by_cases z:i=k
   ·subst z
    rw [e] at ex;have:=(W.ed 0 i (by lia) (ax _)).mp ex
    lia
   ·have:=KI i (by lia)
    rw [e] at xp;lia
  obtain ⟨j,hj,ej,nj⟩:=KH (q:=fun j=>E x (p j)) (sy _ _ ex) (k-1);have jk:j≤k-2:=by
   by_cases z:j=k-1
   ·rw [z] at ej
    exact absurd (sy _ _ ej) nx
   ·lia
  by_cases xk:E x (p k)
  ·
   refine Uz cl inj sy (c:=fun i=>if i≤k-j then p (j+i) else x) (m:=k-j+2) (by lia) (fun i im=>?_) (fun i l il lm=>?_) (fun i l il lm=>?_)
   ·show (if i≤k-j then p (j+i) else x)<n
    split
    ·exact W.lt _ (by lia)
    ·exact xn
   ·show (if i≤k-j then p (j+i) else x)≠(if l≤k-j then p (j+l) else x)
    rw [ae (by lia)]
    split
    ·exact W.ne _ _ (by lia) (by lia)
    ·exact (E4 _ (by lia)).symm
   ·show E (if i≤k-j then p (j+i) else x) (if l≤k-j then p (j+l) else x)↔_
    rw [ae (show i≤k-j by lia)]
    by_cases z:l≤k-j
    ·rw [ae z,W.ed _ _ (by lia) (by lia)]
     lia
    ·rw [aa z]
     constructor
     ·intro e
      by_cases i0:i=0;·exact .inr ⟨i0,by lia⟩
      ·by_cases i1:i=k-j
       ·exact .inl (by lia)
       ·exact absurd (sy _ _ e) (nj (j+i) (by lia) (by lia))
     ·rintro (e | ⟨e,_⟩)
      ·rw [show j+i=k by lia]
       exact sy _ _ xk
      ·rw [e]
       exact sy _ _ ej
  ·
   have W':Walk n E (fun i=>if i=0 then x else p (j+i-1)) (k-j+1):=by
    refine ⟨fun i hi=>?_,fun i l il lk=>?_,fun i l il lk=>?_⟩
    ·show (if i=0 then x else p (j+i-1))<n
     split
     ·exact xn
     ·exact W.lt _ (by lia)
    ·show (if i=0 then x else p (j+i-1))≠(if l=0 then x else p (j+l-1))
     rw [aa (show ¬l=0 by lia)]
     split
     ·exact E4 _ (by lia)
     ·exact W.ne _ _ (by lia) (by lia)
    ·show E (if i=0 then x else p (j+i-1)) (if l=0 then x else p (j+l-1))↔_
     rw [aa (show ¬l=0 by lia)]
     by_cases z:i=0
     ·rw [ae z]
      constructor
      ·intro e
       by_cases l1:l=1;·lia
       ·by_cases Ar:j+l-1=k
        ·rw [Ar] at e
         exact absurd e xk
        ·exact absurd e (nj _ (by lia) (by lia))
      ·intro e
       rw [show j+l-1=j by lia]
       exact ej
     ·rw [aa z,W.ed _ _ (by lia) (by lia)]
      lia
   have e0:(fun i=>if i=0 then x else p (j+i-1)) 0=x:=rfl
   have ek:(fun i=>if i=0 then x else p (j+i-1)) (k-j+1)=p k:=by
    show (if k-j+1=0 then x else p (j+(k-j+1)-1))=p k
    rw [aa (by lia)]
    congr 1
    lia
   have inner:∀i,0<i→i<k-j+1→pos ((fun i=>if i=0 then x else p (j+i-1)) i)≤pos (p 0):=fun i i0 ik=>by
    show pos (if i=0 then x else p (j+i-1))≤_
    rw [aa (by lia)]
    exact KI _ (by lia)
   have px:=pn x xn;have pk:=pn _ (W.lt k (ax _));generalize (fun i=>if i=0 then x else p (j+i-1))=q at W' e0 ek inner
   by_cases lt:pos x<pos (p k)
   ·refine E3 cl inj uJ sy ir mo pn d q (k-j+1) (by rw [e0];lia) (by lia) W' (by rw [e0,ek];exact lt) (fun i i0 ik=>?_)
    have:=inner i i0 ik;rw [e0];lia
   ·have ne:pos x≠pos (p k):=fun e=>E4 k (ax _) (uJ _ _ xn (W.lt _ (ax _)) e)
    have b0:(fun i=>q (k-j+1-i)) 0=p k:=ek;have bk:(fun i=>q (k-j+1-i)) (k-j+1)=x:=by show q (k-j+1-(k-j+1))=x;rw [wY];exact e0
    have Wb:=W'.back sy;have KJ:∀i,0<i→i<k-j+1→pos ((fun i=>q (k-j+1-i)) i)≤pos (p 0):=fun i i0 ik=>inner (k-j+1-i) (by lia) (by lia)
    generalize (fun i=>q (k-j+1-i))=q' at Wb b0 bk KJ;refine E3 cl inj uJ sy ir mo pn d q' (k-j+1) (by rw [b0];lia) (by lia) Wb (by rw [b0,bk];lia) (fun i i0 ik=>?_)
    have:=KJ i i0 ik;rw [b0];lia
theorem UA(cl:qZ n E rk)(inj:∀a b,a<n→b<n→rk a=rk b→a=b)(uJ:∀a b,a<n→b<n→pos a=pos b→a=b)(sy:∀a b,E a b→E b a)(ir:∀a,¬E a a)(mo:E2 n E pos)(pn:∀a,a<n→pos a<n):qZ n E pos:=by
 have go:∀a b c,a<n→b<n→c<n→pos a<pos b→pos b<pos c→E a b→E a c→E b c:=fun a b c an bn cn ab bc e1 e2=>by
  refine gB fun no=>?_;refine E3 cl inj uJ sy ir mo pn _ (fun i=>if i=0 then b else if i=1 then a else c) 2 (ax _) (ax _) ⟨fun i hi=>?_,fun i j ij j2=>?_,fun i j ij j2=>?_⟩ bc (fun i i0 i2=>?_)
  ·show (if i=0 then b else if i=1 then a else c)<n
   split
   ·exact bn
   ·split
    ·exact an
    ·exact cn
  ·show (if i=0 then b else if i=1 then a else c)≠(if j=0 then b else if j=1 then a else c)
   rw [aa (show ¬j=0 by lia)]
   by_cases z:i=0
   ·rw [ae z]
    split
    ·exact fun e=>by rw [e] at ab;lia
    ·exact fun e=>by rw [e] at bc;lia
   ·rw [aa z,ae (show i=1 by lia),aa (show ¬j=1 by lia)]
    exact fun e=>by rw [e] at ab;lia
  ·show E (if i=0 then b else if i=1 then a else c) (if j=0 then b else if j=1 then a else c)↔_
   rw [aa (show ¬j=0 by lia)]
   by_cases z:i=0
   ·rw [ae z]
    by_cases y:j=1
    ·rw [ae y]
     exact ⟨fun _=>by lia,fun _=>sy _ _ e1⟩
    ·rw [aa y]
     exact ⟨fun e=>absurd e no,fun e=>by lia⟩
   ·rw [aa z,ae (show i=1 by lia),aa (show ¬j=1 by lia)]
    exact ⟨fun _=>by lia,fun _=>e2⟩
  ·show pos (if i=0 then b else if i=1 then a else c)<pos b
   rw [aa (by lia),ae (by lia)]
   exact ab
 intro a b c an bn cn ab ac bc e1 e2;by_cases h:pos b<pos c;·exact go a b c an bn cn ab h e1 e2
 ·have:pos b≠pos c:=fun e=>bc (uJ _ _ bn cn e)
  exact sy _ _ (go a c b an cn bn ac (by lia) e2 e1)
end
open PySem PySem.W PyProof.Rows Tm
section
variable {prog:Program} {w:World} {A:Around} {E:aM} {s:Shared}
end
open PySem PySem.W PyProof.Rows
section
variable {prog:Program} {w:World} {A:Around} {E:aM} {s:Shared}
end
end My
namespace L2
open PySem PySem.W PyProof.Rows My
end L2
namespace My
open PySem PySem.W PyProof.Rows
section
variable {prog:Program} {w:World} {A:Around} {E:aM} {s:Shared} {R:Result→Shared→Prop}
end
open PySem PySem.W PyProof.Rows L2
section
variable {prog:Program} {w:World} {A:Around} {s:Shared}
end
end My
namespace L2
open PySem PySem.W PyProof.Rows My
end L2
namespace My
open PySem L2
def g9:Nat→List (List Nat)
 | 0=>[[]]
 | k+1=>g9 k++(g9 k).map (·++[k])
theorem eV:∀{n:Nat} {q:List Nat},q∈g9 n↔q.Pairwise (· < ·)∧∀x∈q,x<n
 | 0,q=>by
  show q∈[[]]↔_;rw [bS];constructor
  ·rintro rfl
   exact ⟨.nil,fun x h=>by cases h⟩
  ·rintro ⟨_,h⟩
   cases q with
   | nil=>rfl
   | cons a _=>exact absurd (h a bV) (je _)
 | n+1,q=>by
  show q∈g9 n++(g9 n).map (·++[n])↔_;rw [cZ,bD];constructor
  ·rintro (h | ⟨p,h,rfl⟩)
   ·obtain ⟨h1,h2⟩:=eV.mp h
    exact ⟨h1,fun x hx=>by have:=h2 x hx;lia⟩
   ·obtain ⟨h1,h2⟩:=eV.mp h
    refine ⟨tj.mpr ⟨h1,C5 _ _,fun a ha b hb=>?_⟩,fun x hx=>?_⟩
    ·rw [bS.mp hb]
     exact h2 a ha
    ·rcases cZ.mp hx with hx | hx
     ·have:=h2 x hx
      lia
     ·rw [bS.mp hx]
      lia
  ·rintro ⟨h1,h2⟩
   by_cases hn:n∈q
   ·right
    obtain ⟨a,b,rfl⟩:=List.append_of_mem hn;obtain ⟨p1,p2,p3⟩:=tj.mp h1;have b0:b=[]:=by
     cases b with
     | nil=>rfl
     | cons c b=>
      have c1:=(p9.mp p2).1 c bV;have c2:=h2 c (by simp)
      lia
    subst b0;exact ⟨a,eV.mpr ⟨p1,fun x hx=>p3 x hx n bV⟩,rfl⟩
   ·left
    refine eV.mpr ⟨h1,fun x hx=>?_⟩;have:=h2 x hx;have:x≠n:=fun e=>hn (e▸hx);lia
def KN(n:Nat)(L:au)(done:List Nat)(p c:Nat):Prop:=∃f,d7 n L f∧my n f done p c
open Classical in
noncomputable def iH (n:Nat) (L:au) (done:List Nat) (p:Nat):Int:=if h:∃c,KN n L done p c then ((choose h:Nat):Int)*(choose h:Nat)+3*(choose h:Nat)+1 else 0
theorem E5{n:Nat}{L:au}{f:Nat→List Nat}{done:List Nat}{p c:Nat}(nb:d7 n L f)(h:my n f done p c):(c:Int)*c+3*c+1=iH n L done p:=by have e:∃c,KN n L done p c:=⟨c,f,nb,h⟩;unfold iH;rw [dif_pos e];obtain ⟨g,ck,h'⟩:=Classical.choose_spec e;rw [my.same nb ck h h']
def eC:List Nat→Nat→List Nat
 | [],p=>[p]
 | x::l,p=>if p<x then p::x::l else x::eC l p
theorem E6:∀{l:List Nat} {p q:Nat},q∈eC l p↔q=p∨q∈l
 | [],p,q=>by simp [eC]
 | x::l,p,q=>by
  unfold eC
  split
  ·simp
  ·rw [bh,E6,bh]
   constructor
   ·rintro (h | h | h)
    ·exact .inr (.inl h)
    ·exact .inl h
    ·exact .inr (.inr h)
   ·rintro (h | h | h)
    ·exact .inr (.inl h)
    ·exact .inl h
    ·exact .inr (.inr h)
end My
namespace L2
open PySem PySem.Spec PyProof.Rows My
end L2
namespace My
open PySem L2
noncomputable def i9 (n:Nat) (L:au):List Nat→List Nat→Int
 | _,[]=>0
 | S,p::o=>iH n L S p+i9 n L (eC S p) o
theorem KO(n:Nat)(L:au):∀(o:List Nat) (S:List Nat) (p:Nat),i9 n L S (o++[p])=i9 n L S o+iH n L (o.foldl eC S) p
 | [],S,p=>by show iH n L S p+0=0+iH n L S p;lia
 | x::o,S,p=>by show iH n L S x+i9 n L (eC S x) (o++[p])=iH n L S x+i9 n L (eC S x) o+iH n L (o.foldl eC (eC S x)) p;rw [KO n L o (eC S x) p];lia
theorem KP:∀(pre S:List Nat) (q:Nat),q∈pre.foldl eC S↔q∈pre∨q∈S
 | [],S,q=>by simp
 | x::pre,S,q=>by
  show q∈pre.foldl eC (eC S x)↔_;rw [KP pre,E6,bh];constructor
  ·rintro (h | h | h)
   ·exact .inl (.inr h)
   ·exact .inl (.inl h)
   ·exact .inr h
  ·rintro ((h | h) | h)
   ·exact .inr (.inl h)
   ·exact .inl h
   ·exact .inr (.inr h)
variable {n:Nat} {L:au} {o:List Nat}
open Classical in
theorem UB{S:List Nat}(ho:o.Perm (List.range n))(cm:eB n L){x:Nat}(xn:x<n)(hS:∀y,y∈S↔dH n o (o.idxOf x) y){ms:List Nat}(h:g7 n o x ms∧jy n L o x ms):((ms.length:Nat):Int)*ms.length+3*ms.length+1=iH n L S x:=by
 have nb:d7 n L (fun i=>(List.range n).filter fun j=>rL L i j):=fun i j hi=>by
  rw [bI,bb,iG];constructor;·exact fun h=>h.2
  ·intro h
   refine ⟨?_,h⟩;rcases h with e | e
   ·have:=cm _ e
    lia
   ·have:=cm _ e
    lia
 generalize (fun i=>(List.range n).filter fun j=>rL L i j)=f at nb;have ad:∀a b,g8 n f a b↔aL n L a b:=fun a b=>by
  unfold g8 aL;constructor
  ·rintro ⟨h1,h2⟩
   have h3:=(nb a b h1).mp h2;refine ⟨h1,?_,h3⟩;rcases h3 with e | e
   ·have:=cm _ e
    lia
   ·have:=cm _ e
    lia
  ·rintro ⟨h1,_,h3⟩
   exact ⟨h1,(nb a b h1).mpr h3⟩
 have rc:∀q,fh (g8 n f) (·∈S) x q↔q=x∨Wk (aL n L) (dH n o (o.idxOf x)) x q:=fun q=>by
  rw [TR];constructor
  ·rintro (e | w)
   ·exact .inl e
   ·exact .inr ((w.imp fun a b=>(ad a b).mp).mono fun y=>(hS y).mp)
  ·rintro (e | w)
   ·exact .inl e
   ·exact .inr ((w.imp fun a b=>(ad a b).mpr).mono fun y=>(hS y).mpr)
 have wl:∀q,Wk (aL n L) (dH n o (o.idxOf x)) x q→q<n:=fun q w=>by
  cases w with
  | one ab=>exact ab.2.1
  | more _ _ ab=>exact ab.2.1
 refine E5 nb ⟨(List.range n).filter fun q=>decide (fh (g8 n f) (·∈S) x q),⟨hI.filter _,fun k hk=>bb.mp (bI.mp hk).1⟩,fun q=>?_,?_⟩
 ·rw [bI,bb,fk]
  refine ⟨fun h=>h.2,fun h=>⟨?_,h⟩⟩;rcases (rc q).mp h with e | w;·rw [e];exact xn
  ·exact wl q w
 ·refine ((qa (h.1.up.imp fun h=>cq h) ((hI.filter _).filter _)).mpr fun q=>?_).length_eq
  rw [h.2 q,bI,bI,bb,fk,rc q];constructor
  ·rintro ⟨h1,h2,h3⟩
   refine ⟨⟨h1,.inr h3⟩,?_⟩;have qx:q≠x:=fun e=>by subst e;lia
   have qS:q∉S:=fun z=>by have:=((hS q).mp z).2;lia
   simp [qx,qS]
  ·rintro ⟨⟨h1,h2⟩,h3⟩
   have qx:q≠x:=fun e=>by simp [e] at h3
   have qS:q∉S:=fun z=>by simp [z] at h3
   refine ⟨h1,?_,h2.resolve_left qx⟩;have ne:=k6 ho h1 xn qx;have:¬o.idxOf q<o.idxOf x:=fun z=>qS ((hS q).mpr ⟨h1,z⟩);lia
theorem KQ{n:Nat}{L:au}{o:List Nat}(ho:o.Perm (List.range n))(cm:eB n L){g:Nat→List Nat}(hg:∀p,p<n→g7 n o p (g p)∧jy n L o p (g p)):∀(l pre:List Nat),o=pre++l→i9 n L (pre.foldl eC []) l=(l.map fun x=>(((g x).length:Nat):Int)*(g x).length+3*(g x).length+1).sum
 | [],_,_=>rfl
 | x::l,pre,e=>by
  have nd:=nJ ho;rw [e,jL] at nd;obtain ⟨np,nx,dj⟩:=nd;have xn:x<n:=(fI ho).mp (by rw [e];simp)
  have ix:o.idxOf x=pre.length:=by rw [e,jM,aa fun h=>dj x h x bV rfl,jg,d_]
  have hS:∀y,y∈pre.foldl eC []↔dH n o (o.idxOf x) y:=fun y=>by
   rw [KP,ix];unfold dH;constructor
   ·rintro (h | h)
    ·refine ⟨(fI ho).mp (by rw [e];simp [h]),?_⟩
     rw [e,jM,ae h];exact m5 h
    ·cases h
   ·rintro ⟨h1,h2⟩
    refine .inl (gB fun no=>?_);rw [e,jM,aa no] at h2;lia
  have c:=UB ho cm xn hS (hg x xn);have ih:=KQ ho cm hg l (pre++[x]) (by rw [e];simp)
  rw [List.foldl_append] at ih;show iH n L (pre.foldl eC []) x+i9 n L (eC (pre.foldl eC []) x) l=_;rw [cR,fm,←c];exact dP _ ih
theorem UC{M:au}(ho:o.Perm (List.range n))(cm:eB n L)(f:b9 n L o M){g:Nat→List Nat}(hg:∀p,p<n→g7 n o p (g p)∧jy n L o p (g p)):i9 n L [] o=(nK n M:Int):=by
 have h1:=KQ ho cm hg o [] rfl;have h2:=KC ho f hg;have h3:∀l:List Nat,(l.map fun x=>(((g x).length:Nat):Int)*(g x).length+3*(g x).length+1).sum=(((l.map fun x=>(g x).length*(g x).length+3*(g x).length+1).sum:Nat):Int):=fun l=>by
  induction l with
  | nil=>rfl
  | cons x l ih=>rw [cR,fm,cR,fm,ih];push_cast;rfl
 show i9 n L (([]:List Nat).foldl eC []) o=_;rw [h1,h3,←h2,(ho.map fun x=>(g x).length*(g x).length+3*(g x).length+1).sum_nat]
end My
namespace L2
open PySem
section
variable {prog:Program} {w:World} {A:Around} {E:aM} {s:Shared}
end
open PySem PySem.Spec PyProof.Rows My
end L2
namespace My
open PySem L2
theorem A5{n:Nat}{L:au}{o:List Nat}(ho:o.Perm (List.range n))(cl:qZ n (aL n L) (fun a=>o.idxOf a)):∀(k a b:Nat),a<n→b<n→k≤o.idxOf a→k≤o.idxOf b→a≠b→Wk (aL n L) (dH n o k) a b→aL n L a b
 | 0,a,b,_,_,_,_,_,w=>by
  cases w with
  | one ab=>exact ab
  | more _ t _=>exact absurd t.2 (je _)
 | k+1,a,b,an,bn,ka,kb,ne,w=>by
  have lo:=uF ho;have ia:o.idxOf a<o.length:=m5 ((fI ho).mpr an);have hk:k<o.length:=by lia
  have pn:o[k]<n:=(fI ho).mp (bT hk);have ip:o.idxOf o[k]=k:=AW (nJ ho) hk;generalize o[k]=p at pn ip;have th:∀x,dH n o (k+1) x↔dH n o k x∨x=p:=fun x=>by
   unfold dH;constructor
   ·rintro ⟨h1,h2⟩
    by_cases e:o.idxOf x=k
    ·right
     refine gB fun z=>?_;exact absurd (e.trans ip.symm) (k6 ho h1 pn z)
    ·exact .inl ⟨h1,by lia⟩
   ·rintro (⟨h1,h2⟩ | rfl)
    ·exact ⟨h1,by lia⟩
    ·exact ⟨pn,by lia⟩
  have ap:a≠p:=fun e=>by subst e;lia
  have bp:b≠p:=fun e=>by subst e;lia
  rcases (Wk.step th).mp w with h | ⟨h1,h2⟩;·exact A5 ho cl k a b an bn (by lia) (by lia) ne h
  ·have e1:=A5 ho cl k a p an pn (by lia) (by lia) ap h1
   have e2:=A5 ho cl k p b pn bn (by lia) (by lia) bp.symm h2
   exact cl p a b pn an bn (show o.idxOf p<o.idxOf a by lia) (show o.idxOf p<o.idxOf b by lia) ne (gc _ _ e1) e2
variable {n:Nat} {L:au} {o:List Nat}
theorem E7(ho:o.Perm (List.range n))(pw:L.Pairwise lexLt)(lt:∀z∈L,0≤z.1∧z.1<z.2∧z.2<(n:Int))(cl:qZ n (aL n L) (fun a=>o.idxOf a)):b9 n L o L:=by
 refine ⟨pw,fun z=>⟨fun hz=>?_,?_⟩⟩
 ·obtain ⟨z0,z1,z2⟩:=lt z hz
  obtain ⟨i,j⟩:=z;dsimp only at z0 z1 z2;obtain ⟨a,rfl⟩:=gA z0;obtain ⟨b,rfl⟩:=gA (show 0≤j by lia)
  have an:a<n:=by lia
  have bn:b<n:=by lia
  have ne:=k6 ho an bn (by lia)
  by_cases h:o.idxOf a<o.idxOf b
  ·refine ⟨a,b,an,bn,h,.one ⟨an,bn,.inl hz⟩,?_⟩
   unfold dt;rw [aa (by lia),ae (by lia)]
  ·refine ⟨b,a,bn,an,by lia,.one ⟨bn,an,.inr hz⟩,?_⟩
   unfold dt;rw [ae (by lia),aa (by lia)]
 ·rintro ⟨p,q,pn,qn,pq,w,rfl⟩
  have ne:p≠q:=fun e=>by subst e;lia
  have h:=A5 ho cl (o.idxOf p) p q pn qn (ax _) (mP pq) ne w;unfold dt;rcases h.2.2 with e | e
  ·have:=lt _ e
   rw [aa (by lia),ae (by lia)]
   exact e
  ·have:=lt _ e
   rw [ae (by lia),aa (by lia)]
   exact e
theorem KR(ho:o.Perm (List.range n))(f:b9 n L o L):qZ n (aL n L) (fun a=>o.idxOf a):=fun a b c an bn cn ab ac bc e1 e2=>by
 have ne:=k6 ho bn cn bc;have both:∀k,o.idxOf a<k→Wk (aL n L) (dH n o k) b c:=fun k hk=>(Wk.one (gc _ _ e1)).more ⟨an,hk⟩ e2;by_cases h:o.idxOf b<o.idxOf c;·exact ⟨bn,cn,iG.mp ((mB f bn cn h).mpr (both _ ab))⟩
 ·exact gc _ _ ⟨cn,bn,iG.mp ((mB f cn bn (by lia)).mpr ((both _ ac).symm gc))⟩
def mC(n:Nat)(r:Nat→Nat→Bool)(P:List Nat):Prop:=∀A b B,P=A++b::B→∀a,a<n→a∉A→(A.filter (r a)).length≤(A.filter (r b)).length
theorem KS{r s:Nat→Bool}:∀{l:List Nat},(∀d∈l,s d=true→r d=true)→∀{c},c∈l→r c=true→s c=false→(l.filter s).length<(l.filter r).length
 | [],_,_,h,_,_=>by cases h
 | x::l,h,c,hc,rc,yA=>by
  have le:(l.filter s).length≤(l.filter r).length:=by
   clear hc rc yA;have h':∀d∈l,s d=true→r d=true:=fun d hd=>h d (bX _ hd);clear h
   induction l with
   | nil=>exact ax _
   | cons y l ih=>
    have ih:=ih fun d hd=>h' d (bX _ hd);have hy:=h' y bV;rw [kB,kB];by_cases sy:s y=true
    ·rw [ae sy,ae (hy sy),dY,dY]
     lia
    ·rw [aa sy]
     split
     ·rw [dY]
      lia
     ·exact ih
  rw [kB,kB];rcases bh.mp hc with rfl | hc
  ·rw [yA,aa (by decide),ae rc,dY]
   lia
  ·have ih:=KS (fun d hd=>h d (bX _ hd)) hc rc yA
   by_cases sx:s x=true
   ·rw [ae sx,ae (h x bV sx),dY,dY]
    lia
   ·rw [aa sx]
    split
    ·rw [dY]
     lia
    ·exact ih
variable {P:List Nat}
theorem UD(pm:P.Perm (List.range n))(h:mC n (rL L) P):E2 n (aL n L) (fun a=>P.reverse.idxOf a):=fun a b c an bn cn ab bc e1 e2=>by
 have po:P.reverse.Perm (List.range n):=(mV P).trans pm;obtain ⟨A,B,e⟩:=List.append_of_mem (pm.mem_iff.mpr (bb.mpr bn));have er:P.reverse=B.reverse++b::A.reverse:=by rw [e];simp
 have nd:=nJ po;rw [er,jL] at nd;obtain ⟨_,nx,dj⟩:=nd;obtain ⟨nb,_⟩:=gq.mp nx;have ib:P.reverse.idxOf b=B.reverse.length:=by rw [er,jM,aa fun h=>dj b h b bV rfl,jg,d_]
 have iA:∀d,d∈A→P.reverse.idxOf b<P.reverse.idxOf d:=fun d hd=>by
  have hr:d∈A.reverse:=lH.mpr hd;have db:d≠b:=fun z=>nb (z▸hr);rw [ib,er,jM,aa fun h=>dj d h d (bX _ hr) rfl,tJ,show (b == d)=false from by simpa using db.symm]
  simp only [cond_false];lia
 have iB:∀d,d<n→P.reverse.idxOf b<P.reverse.idxOf d→d∈A:=fun d dn lt=>by
  have hm:=(fI po).mpr dn;rw [er,cZ,bh] at hm;rcases hm with hm | rfl | hm
  ·rw [ib,er,jM,ae hm] at lt
   have:=m5 hm;lia
  ·lia
  ·exact lH.mp hm
 refine gB fun no=>?_;have cA:=iB c cn bc;have aA:a∉A:=fun z=>by have:=iA a z;have ab:P.reverse.idxOf a<P.reverse.idxOf b:=ab;lia
 have le:=h A b B e a an aA;have Al:∀d∈A,d<n:=fun d hd=>bb.mp (pm.mem_iff.mp (by rw [e];simp [hd]))
 have lt:=KS (r:=rL L a) (s:=rL L b) (l:=A) (fun d hd sd=>by
  refine gB fun nr=>no ⟨d,Al d hd,iA d hd,⟨bn,Al d hd,iG.mp sd⟩,fun z=>nr (iG.mpr z.2.2)⟩) cA (iG.mpr e1.2.2) (by
  cases z:rL L b c with
  | false=>rfl
  | true=>exact absurd ⟨bn,cn,iG.mp z⟩ e2)
 lia
theorem UE(pw:L.Pairwise lexLt)(lt:∀z∈L,0≤z.1∧z.1<z.2∧z.2<(n:Int))(ho:o.Perm (List.range n))(f:b9 n L o L)(pm:P.Perm (List.range n))(h:mC n (rL L) P):b9 n L P.reverse L:=by
 have po:P.reverse.Perm (List.range n):=(mV P).trans pm;refine E7 po pw lt (UA (KR ho f) (fun a b an bn e=>gB fun z=>k6 ho an bn z e) (fun a b an bn e=>gB fun z=>k6 po an bn z e) gc (fun a h=>?_) (UD pm h) fun a an=>?_);·rcases h.2.2 with e | e <;> (have:=lt _ e;lia)
 ·have:=m5 ((fI po).mpr an)
  rw [uF po] at this;exact this
end My
namespace L2
open PySem PySem.W PyProof.Rows
section
variable {prog:Program} {w:World} {A:Around} {E:aM} {s:Shared}
end
open AutoSeq1 (wpAny_loadPart')
section
variable {prog:Program} {w:World} {A:Around} {E:aM} {s:Shared}
end
end L2
namespace My
open PySem L2
end My
namespace L2
open PySem PySem.Spec PyProof.Rows My
theorem UG{wi:TI}{ρ:St→St}{tt:TT}{te:TE}{σ:St}{H:Hp}{Q:VK}{xs:List V}(c:V→Bool)(dR:∀R:It→Hp→Prop,(∀J H1,aj H H1→iX J xs H1→R J H1)→wi σ H R)(hn:xs.length<sizeLine)
  (test:∀x∈xs,∀(Hc:Hp) (R:Bool→Hp→Prop),aj H Hc→(∀Hd,aj Hc Hd→R (c x) Hd)→tt (some x::ρ σ) Hc R)
  (elem:∀(x:V) (Hc:Hp) (R:VK),R x Hc→te (some x::ρ σ) Hc R)
  (fin:∀D Hc,H D=none→aj H Hc→Hc D=some (.lst (xs.filter c))→Q (.ref D) Hc):e_ wi ρ tt te σ H Q:=by
 refine dR _ fun J H1 s1 js=>?_;intro D nD;refine ⟨fun i m ys Hc=>m=xs.length-i∧i≤xs.length∧Hc D=some (.lst ys)∧aj H1 Hc∧ys.length≤i∧ys=(xs.take i).filter c,⟨_,rfl,bY _,av,eN (aj.refl H1) nD,ax _,rfl⟩,?_⟩;rintro i m ys Hc ⟨rfl,hi,eD,sH,ly,hP⟩;refine ⟨eD,?_⟩;by_cases aV:i<xs.length
 ·refine .inr ⟨js.go i Hc sH aV,fun x H' hy=>?_⟩
  obtain ⟨rfl,hx⟩:=js.eY i Hc x H' sH hy;have ex:=hx aV;have mx:x∈xs:=kq ex;have tk:xs.take (i+1)=xs.take i++[x]:=by rw [kA,ex];rfl
  refine test x mx _ _ (s1.trans sH) fun Hd sd=>?_;have nM:=sd _ _ eD;have uK:=sH.trans sd;by_cases hb:c x=true
  ·rw [ae hb]
   refine elem x _ _ ⟨nM,by lia,xs.length-(i+1),by lia,rfl,aV,av,eN uK nD,by simp;lia,?_⟩
   rw [tk,mY,←hP,kB,ae hb];rfl
  ·rw [aa hb]
   refine ⟨xs.length-(i+1),by lia,rfl,aV,nM,uK,by lia,?_⟩
   rw [tk,mY,←hP,kB,aa hb,zO,ko]
 ·have e:i=xs.length:=by lia
  subst e;rw [gu] at hP;subst hP;exact .inl ⟨js.stop _ Hc sH (ax _),fin D Hc (none_of s1 nD) (s1.trans sH) eD⟩
end L2
namespace My
open PySem L2
open PySem L2 Classical
theorem KU(n:Nat)(L:au)(o:List Nat)(p:Nat):∃ms,g7 n o p ms∧jy n L o p ms:=by
 refine ⟨(List.range n).filter fun q=>decide (o.idxOf p<o.idxOf q∧Wk (aL n L) (dH n o (o.idxOf p)) p q),⟨w_.sublist List.filter_sublist,fun q hq=>?_,fun q hq=>?_⟩,fun q=>?_⟩;·exact bb.mp (bI.mp hq).1
 ·exact (df (bI.mp hq).2).1
 ·rw [bI,bb,fk]
theorem UH(n:Nat)(L:au)(o:List Nat):∃g:Nat→List Nat,∀p,p<n→g7 n o p (g p)∧jy n L o p (g p):=
 ⟨fun p=>choose (KU n L o p),fun p _=>choose_spec (KU n L o p)⟩
theorem UI{n:Nat}{L M:au}{o:List Nat}(ho:o.Perm (List.range n))(cm:eB n L)(f:b9 n L o M):i9 n L [] o=(nK n M:Int):=by obtain ⟨g,hg⟩:=UH n L o;exact UC ho cm f hg
theorem KW(n:Nat)(L:au)(o:List Nat):∃M,b9 n L o M:=by
 let f:Nat→Nat→Bool:=fun i j=>decide (∃p q:Nat,p<n∧q<n∧o.idxOf p<o.idxOf q∧Wk (aL n L) (dH n o (o.idxOf p)) p q∧((i:Int),(j:Int))=dt p q)
 refine ⟨yk n f n,JT n,fun z=>⟨fun h=>?_,?_⟩⟩
 ·obtain ⟨i,j,_,_,_,hf,rfl⟩:=mem_of h
  exact df hf
 ·rintro ⟨p,q,hp,hq,E8,hw,rfl⟩
  have ne:p≠q:=fun e=>by rw [e] at E8;exact absurd E8 (eE _)
  obtain ⟨i,j,ij,jn,e⟩:∃i j:Nat,i<j∧j<n∧dt p q=((i:Int),(j:Int)):=by
   by_cases h:q<p
   ·refine ⟨q,p,h,hp,?_⟩
    unfold dt;rw [ae (by lia),aa (by lia)]
   ·refine ⟨p,q,by lia,hq,?_⟩
    unfold dt;rw [aa (by lia),ae (by lia)]
  rw [e];exact JS ij jn (a_ ⟨p,q,hp,hq,E8,hw,e.symm⟩) (by lia)
theorem bC{a b:TS}{D:Ends}{σ:St}{H:Hp}(h:∀R:St→Hp→Prop,(∀σ H,b D σ H→R σ H)→a {D with nx:=R} σ H):Dn a b D σ H:=h _ fun _ _ h=>h
end My
namespace L2
open PySem PySem.Spec PyProof.Rows
def KY(ps:Array Value):Obj:={cls:=.none,data:=.fields ps}
def KZ(Pt:Addr)(H:Hp):Prop:=∀b,H b=none∨(∃o xs,H b=some (.bg o (.lst xs)))∨(b=Pt∧H b=some (.dq #[]))
def ke(base:Heap)(mg:cJ):Prop:=
 ∃bm o,mg "__builtins__"=some (.ref bm)∧bm≠builtinsNs∧base.get? bm=some o∧o.cls=.type "module"∧o.dict=some builtinsNs∧o.data=.plain
variable {P:Program} {w:World} {K:aE} {mg:cJ} {k:Nat} {Pt:Addr} {fd:FuncData} {x:Str} {sp:Sp}
theorem UJ{mb:cJ}{CX:iS}{fa a:Addr}{s₁:Shared}{vs:List Value}{ns:List Int}
  (KX:K.In s₁.heap) (A6:s₁.heap.Ns mainGlobals mg) (hb:s₁.heap.Ns builtinsNs mb) (qN:∀x:Str,x ≠ "__name__"→mb x=bootBuiltins x) (UK:s₁.heap.NoLimit) (hg:s₁.gens = #[])
  (hT:s₁.heap.get? Pt=some (KY #[])) (E9:K.lookup Pt=none) (E_:isCodeTable s₁.heap Pt)
  (ha:s₁.heap.get? a=some {cls:=.type "list",data:=.seq vs.toArray}) (hi:IntsAre vs ns) (hl:ns.length≤sizeLine) (hr:dJ k callerA)
  (UL:ke s₁.heap mg) (F:∀base:Heap,K.In base→base.Ns mainGlobals mg→ke base mg→bK P w K mg base CX k fa fd [x] sp) (q8:∀(s:Shared) (u:Value),BindsTo s fd ⟨[u],[]⟩ [(x,u)])
  (lY:∀H:Hp,KZ Pt H→H Pt=some (.dq #[])→a7 K H a (ns.map V.int)→sp [.ref a] H (fun v _=>v=.bl true) fun _ _ _=>False)
  (UM:∀H e s',CX [] H s₁ (fun _ _ _=>False) e s'→False) :
  codeAny (model P w) callerA (.call (.ref fa) ⟨[.ref a],[]⟩) (fun r s'=>r=.ok (.ret (.bool true))∧OldK s₁.heap s'.heap∧s'.os=s₁.os∧AllBare s'.gens) s₁:=by
 have rv:=IW hi;have UN:=hi.length;have aT:a≠Pt:=fun z=>by rw [z,hT] at ha;cases ha
 have core:∀H:Hp,KZ Pt H→H Pt=some (.dq #[])→a7 K H a (ns.map V.int)→cy P w H s₁.heap→(∀b,H b≠none→b=a∨b=Pt)→(H a≠none→K.lookup a=none)→
   codeAny (model P w) callerA (.call (.ref fa) ⟨[.ref a],[]⟩) (fun r s'=>r=.ok (.ret (.bool true))∧OldK s₁.heap s'.heap∧s'.os=s₁.os∧AllBare s'.gens) s₁:=by
  intro H hO hP hS ay hA hK;have Fb:∀{b:Addr} {o:Obj},s₁.heap.get? b=some o→H b=none→(lJ s₁.heap H).get? b=some o:=fun e n=>OO e n;have xB:∀{b:Addr} {o:Obj} {es:Array DictEntry} {ep:Nat},s₁.heap.get? b=some o→o.data=.dict es ep→H b=none:=fun{b o es ep} e d=>by
   cases q:H b with
   | none=>rfl
   | some u=>
    rcases hA b (by rw [q];simp) with e' | e'
    ·subst e'
     rw [ha] at e;cases e;have d':Data.seq vs.toArray _=Data.dict es ep:=d;cases d'
    ·subst e'
     rw [hT] at e;cases e;have d':Data.fields _=Data.dict es ep:=d;cases d'
  have A7:∀{b:Addr} {m:cJ},s₁.heap.Ns b m→(lJ s₁.heap H).Ns b m:=fun{b m} ⟨o,es,ep,e,d,r⟩=>⟨o,es,ep,Fb e (xB e d),d,r⟩;have K8:K.In (lJ s₁.heap H):=fun b o e=>Fb (KX b o e) (by
   cases q:H b with
   | none=>rfl
   | some u=>
    rcases hA b (by rw [q];simp) with e' | e'
    ·subst e'
     rw [hK (by rw [q];simp)] at e;cases e
    ·subst e'
     rw [E9] at e;cases e)
  have hM:Mod K mg (lJ s₁.heap H):=⟨K8,A7 A6,⟨mb,A7 hb,qN⟩,let ⟨mc,h1,h2⟩:=UK;⟨mc,A7 h1,h2⟩⟩
  have e0:Ac P w K mg (lJ s₁.heap H) callerA [] s₁ H:=⟨rfl,hM,fun b o e=>OP e,Nat.le_of_eq (ON _ _),trivial,fun b hb=>absurd (show b∈([]:List Addr) from hb) (by simp),ay,.of_eq hg⟩
  have UO:ke (lJ s₁.heap H) mg:=by
   obtain ⟨bm,o,b1,b2,b3,b4,b5,b6⟩:=UL;refine ⟨bm,o,b1,b2,Fb b3 ?_,b4,b5,b6⟩;cases q:H bm with
   | none=>rfl
   | some u=>
    rcases hA bm (by rw [q];simp) with e' | e'
    ·subst e'
     rw [ha] at b3;cases b3;cases b6
    ·subst e'
     rw [hT] at b3;cases b3;cases b6
  refine codeAny_mono ((F _ K8 (A7 A6) UO).run callerA [] s₁ H ⟨[.ref a],[]⟩ [.ref a] [.ref a] _ _ hr e0 (q8 s₁ (.ref a)) (.cons rfl .nil) (lY H hO hP hS)) fun r s' h=>?_;cases r with
  | error e=>exact (UM H e s' h).elim
  | ok fl=>
   cases fl with
   | next=>exact False.elim h
   | brk=>exact False.elim h
   | cont=>exact False.elim h
   | ret u=>
    obtain ⟨v,H',os,bare,un,K9,r',q⟩:=h;have q':v=.bl true:=q;subst q';obtain rfl:u=Value.bool true:=r';have tab:∃more:Array Value,s'.heap.get? Pt=some (KY (#[]++more)):=by obtain ⟨more,e⟩:=un.gQ Pt _ hP;exact ⟨more,(show cw P w H' s'.heap Pt (.dq (#[]++more)) from K9 Pt _ e)⟩
    refine ⟨rfl,⟨fun b o e=>?_,fun b o e=>?_⟩,os,bare⟩
    ·by_cases K_:b=Pt
     ·subst K_
      rw [hT] at e;cases e;obtain ⟨more,e⟩:=tab;exact .inr (.inl ⟨E_,rfl,#[],more,rfl,e⟩)
     ·refine .inl ?_
      cases q:H b with
      | none=>exact un.keep b o e q (by intro z;exact absurd (show b∈([]:List Addr) from z) (by simp)) (by simp)
      | some u=>
       rcases hO b with z | ⟨ob,xs,z⟩ | ⟨z,_⟩;·rw [q] at z;cases z
       ·have z2:=un.gP b ob _ z
        obtain ⟨e1,_⟩:=ay b _ z;obtain ⟨e2,_⟩:=K9 b _ z2;rw [e] at e1;cases e1;exact e2
       ·exact absurd z K_
    ·exact un.there b o e (by simp)
 have A8:∀H:Hp,cw P w H s₁.heap Pt (.dq #[]):=fun H=>hT;cases hk:K.lookup a with
 | some o=>
  have e:=KX a o hk;rw [ha] at e;cases e;refine core (fun b=>if b=Pt then some (.dq #[]) else none) (fun b=>?_) (ae rfl) (.inr ⟨_,vs.toArray,_,hk,rfl,rfl,rfl,by rw [bZ,UN];exact hl,by simpa using rv⟩) (fun b u z=>?_) (fun b z=>?_) fun z=>absurd (aa aT) z
  ·by_cases h:b=Pt
   ·exact .inr (.inr ⟨h,ae h⟩)
   ·exact .inl (aa h)
  ·by_cases h:b=Pt
   ·have z':=(ae h).symm.trans z
    cases z';subst h;exact A8 _
   ·have z':=(aa h).symm.trans z
    cases z'
  ·by_cases h:b=Pt
   ·exact .inr h
   ·exact absurd (aa h) z
 | none=>
  refine core (fun b=>if b=a then some (.bg {cls:=.type "list",data:=.seq vs.toArray} (.lst (ns.map V.int))) else if b=Pt then some (.dq #[]) else none) (fun b=>?_) ((aa (Ne.symm aT)).trans (ae rfl)) (.inl (.inr ⟨{cls:=.type "list",data:=.seq vs.toArray},ae rfl⟩)) (fun b u z=>?_) (fun b z=>?_) fun _=>hk
  ·by_cases hb:b=a
   ·exact .inr (.inl ⟨_,_,ae hb⟩)
   ·by_cases h:b=Pt
    ·exact .inr (.inr ⟨h,(aa hb).trans (ae h)⟩)
    ·exact .inl ((aa hb).trans (aa h))
  ·by_cases hb:b=a
   ·have z':=(ae hb).symm.trans z
    cases z';subst hb;exact ⟨ha,by rw [aC];exact hl,vs,_,rv,ha⟩
   ·have z1:=(aa hb).symm.trans z
    by_cases h:b=Pt
    ·have z':=(ae h).symm.trans z1
     cases z';subst h;exact A8 _
    ·have z':=(aa h).symm.trans z1
     cases z'
  ·by_cases hb:b=a
   ·exact .inl hb
   ·by_cases h:b=Pt
    ·exact .inr h
    ·exact absurd ((aa hb).trans (aa h)) z
open PySem PySem.Spec PyProof.Rows PySem.W
def tabIn(K:aE)(fd:FuncData)(P:Addr):Bool:=match fd.code with | .ref c=>PySem.W.codeHdIn K c P | _=>false
def yB(c:Addr)(q:Str):HO:=.ext fun h=>h.CodeRec (.ref c) q
def cG(Pt:Addr)(pl:Pos)(q:Str)(H:Hp):Prop:=
 H Pt=some (.dq #[])∨∃c,c≠Pt∧H Pt=some (.dq #[rawInt pl.line,rawInt pl.col,.ref c])∧H c=some (yB c q)
def cO(Pt:Addr)(H H':Hp):Prop:=∀b o,b≠Pt→H b=some o→H' b=some o
variable {H:Hp} {c:Addr} {q:Str}
theorem yB.ok{h:Heap}(x:h.CodeRec (.ref c) q):cw P w H h c (yB c q):=by
 refine ⟨x,?_,fun h1 h2 y k=>?_⟩
 ·obtain ⟨c',o,vs,t,e,g,_⟩:=x
  cases e;exact ⟨o,g⟩
 ·obtain ⟨c',o,vs,t,e,g,r⟩:=y
  cases e;exact ⟨c,o,vs,t,rfl,k o g,r⟩
def kf(x:Str)(p:Pos):Arguments:={posonlyargs:=[],args:=[{arg:=x,annotation:=none,pos:=p}],vararg:=none,kwonlyargs:=[],kw_defaults:=[],kwarg:=none,defaults:=[]}
def iI(x c:Str):Scope:={kind:=.function,names:=[(x,.local),(c,.free)],isGenerator:=false,isCoroutine:=false,more:=[]}
def kg(x c:Str)(p1 p2 p3:Pos):Expr:=.Subscript (.Name c p1) (.Name x p2) p3
variable {cc:Addr}
theorem UP{c:Str}{env:Env}(h:env.cells.lookup c=some cc):closureFor (iI x c) env=pure [(c,cc)]:=by unfold closureFor iI cellOf;simp [h]
variable {s:Shared} {f c' cnt:Addr} {m:cJ} {name cn:Str} {p p1:Pos} {pm gf:Value}
theorem UQ{prog:Program}{A:Around}{h₀:Heap}{L:Addr}{news:aK}{p2 p3:Pos}{items:Array Value}{k z:Int}{u t:Tok}
  (UR:A.depth<recursionLimit) (F:Fr h₀ L s.heap m) (N:News h₀ L s.heap news)
  (hf:s.heap.get? f=some (kla_obj name q (kf x p) (kg x cn p1 p2 p3) (iI x cn) [(cn,cc)] pm c' gf)) (eF:s.heap.CodeRec (.ref c') q)
  (m8:s.heap.IsCell cc (some (.ref cnt))) (hl:s.heap.IsList cnt items) (lim:s.heap.NoLimit) (h0:0≤k) (DM:k<2 ^ 63) (hx:items[k.toNat]?=some (.int z t))
  (q8:bindArgs (kla_fn name q (kf x p) (kg x cn p1 p2 p3) (iI x cn) [(cn,cc)] pm (.ref c') gf) ⟨[.int k u],[]⟩=pure [(x,.int k u)])
  (eL:(cn == x)=false) (q_:(x == ("__debug__":Str))=false) (hd2:(cn == ("__debug__":Str))=false) (yC:(cn == ("__classdict__":Str))=false) :
  wpAny (model prog w) A (call (.ref f) [.int k u]) (KskEnd h₀ L m news z s) (fun _ _=>False) s:=by
 refine wpAny_call (kla_callFunE UR hf rfl rfl rfl rfl eF ?_);rw [q8];refine dB (wpAny_newFunctionEnv ?_ ?_ (fun h₁ A6 md=>?_) rfl)
 ·intro y hy
  rcases bh.mp hy with rfl | hy;·intro z;cases z
  ·rcases bh.mp hy with rfl | hy
   ·intro z;cases z
   ·cases hy
 ·intro y hy
  obtain rfl:y=(x,Value.int k u):=bS.mp hy;show List.lookup x [(x,NameKind.local),(cn,NameKind.free)]=_;simp [List.lookup]
 ·have yE:∀b o,s.heap.get? b=some o→h₁.get? b=some o:=fun b o e=>md.extBut b o (cq (aZ e)) (cg _ e)
  refine ⟨lim.fresh _ md,kla_codeExpr ?_⟩;refine Subscript_ (wpAny_Name (wpAny_loadName_free (c:=cc) (v:=.ref cnt) rfl ?_ ?_ ?_ ?_ yC) hd2)
  ·show List.lookup cn [(x,NameKind.local),(cn,NameKind.free)]=_
   simp [List.lookup,eL]
  ·show List.lookup cn [(cn,cc)]=_
   simp [List.lookup]
  ·obtain ⟨o,ho,hd⟩:=m8
   exact ⟨o,yE _ _ ho,hd⟩
  ·refine wpAny_Name (wpAny_loadName_local (v:=.int k u) rfl ?_ A6 ?_ ?_) q_
   ·show List.lookup x [(x,NameKind.local),(cn,NameKind.free)]=_
    simp [List.lookup]
   ·show List.lookup x [(x,Value.int k u)]=_
    simp [List.lookup]
   ·refine item_listR (x:=.int z t) ?_ h0 DM hx ?_
    ·obtain ⟨o,ho,r⟩:=hl
     exact ⟨o,yE _ _ ho,r⟩
    ·exact ⟨h₁,_,t,rfl,rfl,⟨by obtain ⟨o,es,ep,ho,r⟩:=F.ns;exact ⟨o,es,ep,yE _ _ ho,r⟩,fun b o e=>yE b o (F.keep b o e),F.above⟩,fun p hp=>⟨yE _ _ (N p hp).1,(N p hp).2⟩⟩
open PySem PySem.Spec PyProof.Rows PySem.W Att
variable {X:Cx} {pins:aK} {σ:St} {h':Heap}
theorem Inv.US{t':Nat}(I:Inv X pins σ H s)(hm:s.heap.Ns X.env.locals m)(dM:h'.Ns X.env.locals m)
  (k:∀b o,b≠X.env.locals→s.heap.get? b=some o→h'.get? b=some o):Inv X pins σ H {s with heap:=h',toks:=t'}:=by
 have lN:∀b u,H b=some u→b≠X.env.locals:=fun b u e z=>by rw [z,I.free] at e;cases e
 refine I.step (g':=s.gens) (d':=s.drawn) (ch:=[]) (fun _ z=>nomatch z) (fun b o n _ _ e _=>k b o n e) (fun b o n _ _ e _=>⟨o.slots,k b o n e⟩) (fun _ _ _ _ n=>n) (fun b o _ e=>?_) (fun _ _ e=>e) (fun _ _ _ e=>e) (fun b ps e=>⟨#[],by rw [e];simp⟩) (fun m2 uL=>?_) (fun b u e=>?_) I.bare
 ·by_cases n:b=X.env.locals
  ·obtain ⟨o',_,_,ho,_⟩:=dM
   exact ⟨o',by rw [n];exact ho⟩
  ·exact ⟨o,k b o n e⟩
 ·obtain ⟨o,es,ep,ho,hd,hs,r⟩:=hm
  obtain ⟨o2,es2,ep2,mE,hd2,qt,r2⟩:=uL;rw [ho] at mE;cases mE;rw [hd] at hd2;cases hd2;have:m2=m:=funext fun x=>(r2 x).symm.trans (r x);rw [this];exact dM
 ·refine (I.ay b u e).jh (fun c v hc q=>k c v ?_ q) (fun _ q=>q) fun _ _ q=>q
  rcases hc with z | z;·rw [z];exact lN b u e
  ·exact lN c _ z
theorem Inv.lN(I:Inv X pins σ H s){b:Addr}{o:Obj}(e:s.heap.get? b=some o)(hd:∀es ep,o.data≠.dict es ep):b≠X.env.locals:=fun z=>by obtain ⟨m,⟨o',es,ep,m7,De,_⟩,_⟩:=I.loc;rw [z,m7] at e;cases e;exact hd es ep De
def La(xs:List Nat)(cs:List Int)(m:Nat):Prop:=m∈xs∧∀y∈xs,cs.getD y 0≤cs.getD m 0
variable {l:Addr}
theorem UT{p2 p3:Pos}{xs:List Nat}{cs:List Int}{Q:aM}
  (I:Inv X pins σ H s) (hr:dJ 1 X.A)
  (hf:s.heap.get? f=some (kla_obj name q (kf x p) (kg x cn p1 p2 p3) (iI x cn) [(cn,cc)] pm c' gf)) (eF:s.heap.CodeRec (.ref c') q)
  (m8:s.heap.IsCell cc (some (.ref cnt))) (hl:a7 X.K H l (xs.map fun(k:Nat)=>V.int (k:Int))) (eL:xs≠[]) (hc:a7 X.K H cnt (cs.map V.int)) (Fc:∀y∈xs,y<cs.length)
  (q8:∀(k:Int) (u:Tok),bindArgs (kla_fn name q (kf x p) (kg x cn p1 p2 p3) (iI x cn) [(cn,cc)] pm (.ref c') gf) ⟨[.int k u],[]⟩=pure [(x,.int k u)])
  (Fd:(cn == x)=false) (q_:(x == ("__debug__":Str))=false) (hd2:(cn == ("__debug__":Str))=false) (yC:(cn == ("__classdict__":Str))=false)
  (hQ:∀(k:Nat) (t:Tok) (s':Shared),La xs cs k→Inv X pins σ H s'→Q (.int k t) s') :
  wpAny (model X.prog X.w) X.A (call (.builtin "max") [.ref l] [(Str.ofString "key",.ref f)]) Q X.xe s:=by
 obtain ⟨m,hm,_⟩:=id I.loc;obtain ⟨its,rv,pl,hz⟩:=I.list hl;obtain ⟨UU,rc,pc,Lb⟩:=I.list hc;have yF:its.length=xs.length:=by have:=rv.length;rw [aC] at this;exact this.symm
 have acR:UU.length=cs.length:=by have:=rc.length;rw [aC] at this;exact this.symm
 have fL:f≠X.env.locals:=I.lN hf fun _ _ z=>by cases z
 have at':∀{h:Heap} {own:aK},News (qC s.heap) X.env.locals h (([]++(f,kla_obj name q (kf x p) (kg x cn p1 p2 p3) (iI x cn) [(cn,cc)] pm c' gf)::ledger s.heap X.env.locals f)++own)→
   ∀b o,b≠X.env.locals→s.heap.get? b=some o→h.get? b=some o:=fun{h own} N b o n e=>by
  by_cases hb:b=f
  ·subst hb
   rw [hf] at e;cases e;exact (N _ (kj _ (bV))).1
  ·exact (N (b,o) (kj _ (bX _ (IV.mpr ⟨n,hb,e⟩)))).1
 have Lc:∀{h:Heap},News (qC s.heap) X.env.locals h ([]++(f,kla_obj name q (kf x p) (kg x cn p1 p2 p3) (iI x cn) [(cn,cc)] pm c' gf)::ledger s.heap X.env.locals f)→
   ∀b o,b≠X.env.locals→s.heap.get? b=some o→h.get? b=some o:=fun{h} N=>at' (own:=[]) (by rw [ko];exact N)
 have listAt:∀{h:Heap} {a:Addr} {vs:Array Value},(∀b o,b≠X.env.locals→s.heap.get? b=some o→h.get? b=some o)→PlainL s.heap a vs→h.IsList a vs:=fun{h a vs} k pl=>by obtain ⟨o,n,e,c,d,dd⟩:=pl;exact PlainL.isList ⟨o,n,k a o (I.lN e fun _ _ z=>by rw [dd] at z;cases z) e,c,d,dd⟩
 have kn:∀i,i<xs.length→∃t,its[i]?=some (.int ((xs.getD i 0:Nat):Int) t):=fun i hi=>by
  have e:(xs.map fun(k:Nat)=>V.int (k:Int))[i]?=some (.int ((xs.getD i 0:Nat):Int)):=by rw [bq,bu hi,du,bu hi];rfl
  obtain ⟨u,eu,ru⟩:=rv.get e;obtain ⟨t,rfl⟩:=ru;exact ⟨t,eu⟩
 have Ld:∀i,i<xs.length→xs.getD i 0∈xs:=fun i hi=>by rw [du,bu hi];exact bT hi
 refine kmk_max (h₀:=qC s.heap) (L:=X.env.locals) (m:=m) (vs:=its) (fun i=>cs.getD (xs.getD i 0) 0) hr.hd (QF hm) (QE fL hf) (fun h F N=>listAt (Lc N) pl) (by rw [yF];exact List.length_pos_iff.mpr eL) (fun i v hv h tk own F N=>?_) fun i v h' Jh hv hb F N=>?_
 ·have hi:i<xs.length:=by rw [←yF];exact (cu.mp hv).1
  obtain ⟨t,et⟩:=kn i hi;rw [et] at hv;cases hv;have aV:=Fc _ (Ld i hi);have ec:(cs.map V.int)[xs.getD i 0]?=some (.int (cs.getD (xs.getD i 0) 0)):=by rw [bq,bu aV,du (l:=cs),bu aV];rfl
  obtain ⟨u,eu,ru⟩:=rc.get ec;obtain ⟨t2,rfl⟩:=ru;have k:=at' N;refine UQ (A:=X.A.in1) (by have:=hr.dp;show X.A.depth<_;lia) F N (k _ _ fL hf) ?_ ?_ (listAt k pc) ?_ (Int.natCast_nonneg _) ?_ (by simpa using eu) (q8 _ _) Fd q_ hd2 yC
  ·obtain ⟨c2,o,vs,tt,e,g,dd,r⟩:=eF
   exact ⟨c2,o,vs,tt,e,k _ _ (I.lN g fun _ _ z=>by rw [dd] at z;cases z) g,dd,r⟩
  ·obtain ⟨o,ho,hd⟩:=m8
   exact ⟨o,k _ _ (I.lN ho fun _ _ z=>by rw [hd] at z;cases z) ho,hd⟩
  ·exact I.ok.mod.nolimit.keeps fun b o e=>k b o (fun z=>by have:=aZ e;have h1:=I.ok.jl;have h2:=I.ok.above;rw [z] at this;exact absurd (dX this (bR h1 h2)) (eE _)) (I.bk b o e)
  ·have h1:cs.length≤sizeLine:=by rw [aC] at Lb;exact Lb
   have h2:=qy;lia
 ·have hi:i<xs.length:=by rw [←yF];exact (cu.mp hv).1
  obtain ⟨t,et⟩:=kn i hi;rw [et] at hv;cases hv;refine hQ (xs.getD i 0) t _ ⟨Ld i hi,fun y hy=>?_⟩ (I.US hm F.ns (Lc N));obtain ⟨j,hj,ej⟩:=tu hy;have Le:=(hb j (by rw [yF];exact hj)).1
  have e2:xs.getD j 0=y:=by rw [←ej,du,bu hj];rfl
  simp only [e2] at Le;exact Le
variable {ps:Array Value}
theorem Inv.Lf(I:Inv X pins σ H s)(hB:ke X.base X.mg)(hP:H Pt=some (.dq ps)):s.heap.BuiltinsAt X.mg Pt∧mainGlobals≠Pt:=by
 obtain ⟨bm,o,e1,e2,e3,e4,e5,e6⟩:=hB;refine ⟨⟨bm,o,e1,e2,fun z=>?_,fun z=>?_,I.bk _ _ e3,e4,e5,e6⟩,fun z=>?_⟩
 ·obtain ⟨o',es,ep,ho,hd,_⟩:=I.ok.mod.glob
  rw [z,ho] at e3;cases e3;rw [hd] at e6;cases e6
 ·have:=(I.bs _ _ e3).2
  rw [z,hP] at this;cases this
 ·obtain ⟨o',es,ep,ho,hd,_⟩:=I.ok.mod.glob
  have:=(I.bs _ _ ho).2;rw [z,hP] at this;cases this
variable {pl:Pos}
theorem Inv.grown{fo:Obj}{tk:Nat}(I:Inv X pins σ H s)(hP:H Pt=some (.dq #[]))(hx:Heap.ExtBut Pt s.heap h')(yG:s.heap.objs.size≤c')(uN:h'.CodeRec (.ref c') q)
  (Fe:h'.get? Pt=some (tabObj #[rawInt pl.line,rawInt pl.col,.ref c'])) :
  ∃H',cO Pt H H'∧cG Pt pl q H'∧Inv X pins σ H' {s with heap:=h'.push fo,toks:=tk}:=by
 have cP:c'≠Pt:=fun z=>by have e:s.heap.get? Pt=some (tabObj #[]):=I.ay Pt _ hP;have:=aZ e;rw [←z] at this;exact absurd (dX this yG) (eE _)
 have cN:H c'=none:=I.ay.fresh yG;have kp:∀b o,b≠Pt→s.heap.get? b=some o→(h'.push fo).get? b=some o:=fun b o n e=>cg _ (hx b o n e);have UW:(h'.push fo).CodeRec (.ref c') q:=uN.push _;have Lg:(h'.push fo).get? Pt=some (tabObj #[rawInt pl.line,rawInt pl.col,.ref c']):=cg _ Fe;refine ⟨upd (upd H Pt (.dq #[rawInt pl.line,rawInt pl.col,.ref c'])) c' (yB c' q),fun b o n e=>?_,.inr ⟨c',cP,by rw [aH (Ne.symm cP),av],av⟩,I.un ⟨fun b o e n _ _=>?_,fun b o e n hb _=>?_,fun b o e n _=>?_,fun b o e _=>?_,fun b xs e=>?_,fun b o u e=>?_,fun b ps e=>?_⟩ fun b u e=>?_⟩
 ·rw [aH (fT e cN),aH n];exact e
 ·exact kp b o (fun z=>by rw [z,hP] at n;cases n) e
 ·exact ⟨o.slots,kp b o (fun z=>by rw [z,hP] at n;cases n) e⟩
 ·rw [aH (cq (dX (aZ e) yG)),aH (fun z=>by rw [z,hP] at n;cases n)];exact n
 ·by_cases n:b=Pt
  ·exact ⟨_,by rw [n];exact Lg⟩
  ·exact ⟨o,kp b o n e⟩
 ·rw [aH (fT e cN),aH (fun z=>by rw [z,hP] at e;cases e)];exact e
 ·rw [aH (fT e cN),aH (fun z=>by rw [z,hP] at e;cases e)];exact e
 ·by_cases n:b=Pt
  ·subst n
   rw [hP] at e;cases e;exact ⟨#[rawInt pl.line,rawInt pl.col,.ref c'],by rw [aH (Ne.symm cP),av];simp⟩
  ·exact ⟨#[],by rw [aH (fT e cN),aH n,e];simp⟩
 ·by_cases hc:b=c'
  ·subst hc
   rw [av] at e;cases e;exact yB.ok UW
  ·rw [aH hc] at e
   by_cases n:b=Pt
   ·subst n
    rw [av] at e;cases e;exact Lg
   ·rw [aH n] at e
    refine (I.ay b u e).jh (fun d v hd g=>kp d v ?_ g) (fun d g=>?_) fun d xs g=>?_
    ·rcases hd with z | z
     ·rw [z];exact n
     ·intro y;rw [y,hP] at z;cases z
    ·rw [aH (fT g cN),aH (fun z=>by rw [z,hP] at g;cases g)];exact g
    ·rw [aH (fT g cN),aH (fun z=>by rw [z,hP] at g;cases g)];exact g
def UX(K:aE)(t:TA)(i:Nat)(Pt:Addr)(pl:Pos)(q:Str):TE:=fun σ H Q=>t σ H fun vs H1=>
 ∃(l cnt:Addr) (xs:List Nat) (cs:List Int),vs=[.ref l]∧a7 K H1 l (xs.map fun(k:Nat)=>V.int (k:Int))∧xs≠[]∧σ[i]?=some (some (.ref cnt))∧a7 K H1 cnt (cs.map V.int)∧(∀y∈xs,y<cs.length) ∧
  cG Pt pl q H1∧∀(k:Nat) (H2:Hp),La xs cs k→cO Pt H1 H2→cG Pt pl q H2→Q (.int k) H2
theorem a7.st{H':Hp}{xs:List V}(h:a7 K H l xs)(hP:H Pt=some (.dq ps))(s:cO Pt H H'):a7 K H' l xs:=by
 have ne:∀o,H l=some o→(∀UY,o≠.dq UY)→l≠Pt:=fun o e n z=>by rw [z,hP] at e;exact n ps (Option.some.inj e).symm
 rcases h with (h | ⟨o,h⟩) | h;·exact .inl (.inl (s _ _ (ne _ h fun _ z=>by cases z) h))
 ·exact .inl (.inr ⟨o,s _ _ (ne _ h fun _ z=>by cases z) h⟩)
 ·exact .inr h
theorem UZ{e:Expr}{t:TA}{i:Nat}{pos kp pa p2 p3:Pos}(ha:PA X [e] t)(hg:Gl X (Str.ofString "max"))(hm:X.mg (Str.ofString "max")=none)(hv:bootBuiltins (Str.ofString "max")=some (.builtin "max"))
  (hr:dJ 1 X.A) (hB:ke X.base X.mg) (Lh:X.env.code=.ref c) (hC:codeHdIn X.K c Pt=true) (hN:X.N[i]?=some cn) (Ff:X.env.kindOf cn=some .cell)
  (q8:∀(cc c':Addr) (q:Str) (pm gf:Value) (k:Int) (u:Tok),bindArgs (kla_fn "<lambda>" q (kf x pa) (kg x cn p1 p2 p3) (iI x cn) [(cn,cc)] pm (.ref c') gf) ⟨[.int k u],[]⟩=pure [(x,.int k u)])
  (Fd:(cn == x)=false) (q_:(x == ("__debug__":Str))=false) (hd2:(cn == ("__debug__":Str))=false) (yC:(cn == ("__classdict__":Str))=false)
  (he:backTo pos (starEach [e] X.env)=(false,eval e X.env)::backTo pos (starEach [] X.env):=by rfl) (lW:(backTo pos (starEach [e] X.env)).any (·.1)=false:=by rfl) :
  PE X (.Call (.Name (Str.ofString "max") p) [e] [⟨some (Str.ofString "key"),.Lambda (kf x pa) (kg x cn p1 p2 p3) (iI x cn) pl,kp⟩] pos) (UX X.K t i Pt pl (X.env.qual ++ "<lambda>")):=by
 intro pins s σ H Q I h
 refine zE (m9 I hg hm hv ?_)
 refine callWith_kw (aJ (ha pos pins s σ H _ I h) fun us s1 ⟨xs,H1,I1,r1,q1⟩=>?_) he lW
 obtain ⟨l,cnt,xs,cs,rfl,hl,eL,hσ,hc,Fc,hT,k⟩:=q1
 obtain ⟨u,rfl,ru⟩:=vals1 r1
 cases ru
 show wpAny _ _ (evalAll [(do let v ←eval (.Lambda (kf x pa) (kg x cn p1 p2 p3) (iI x cn) pl) X.env;standAt pos;pure v)]) _ _ s1
 obtain ⟨cc,xm⟩:=I1.ok.has cn (.inl Ff)
 have m8:s1.heap.IsCell cc (some (.ref cnt)):=by
  obtain ⟨m,_,hl⟩:=I1.loc
  obtain ⟨u,ru,lk⟩:=hl i cn _ hN hσ (.inr (.inl Ff))
  cases ru
  rcases lk with ⟨z,_⟩ | ⟨_,c2,z,g⟩
  ·rw [Ff] at z;cases z
  ·rw [xm] at z;cases z;exact g
 have Li:closureFor (iI x cn) X.env=pure [(cn,cc)]:=UP xm
 have Lj:s1.heap.Ns mainGlobals X.mg:=I1.mod.glob.keeps I1.bk
 have Ll:CodeHd s1.heap c Pt:=codeHd_of_K I1.ft hC
 refine wpAny_evalAll_cons (bo (kla_eval rfl ?_))
 have fin:∀(f c':Addr) (pm gf:Value) (s2:Shared) (H2:Hp),cO Pt H1 H2→cG Pt pl (X.env.qual ++ "<lambda>") H2→Inv X pins σ H2 s2→s2.heap.IsCell cc (some (.ref cnt))→(∃ps,H1 Pt=some (.dq ps))→
   s2.heap.get? f=some (kla_obj "<lambda>" (X.env.qual ++ "<lambda>") (kf x pa) (kg x cn p1 p2 p3) (iI x cn) [(cn,cc)] pm c' gf)→s2.heap.CodeRec (.ref c') (X.env.qual ++ "<lambda>")→
   wpAny (model X.prog X.w) X.A (call (.builtin "max") [.ref l] [(Str.ofString "key",.ref f)]) (EP X pins σ Q) X.xe s2:=fun f c' pm gf s2 H2 sm st I2 U0 uO hf eF=>by
  obtain ⟨ps,uO⟩:=uO
  exact UT I2 hr hf eF U0 (hl.st uO sm) eL (hc.st uO sm) Fc (fun k u=>q8 _ _ _ _ _ k u) Fd q_ hd2 yC fun k' t s' mk I3=>⟨.int k',H2,I3,⟨_,rfl⟩,k k' H2 mk sm st⟩
 have U1:∀{b:Addr} {o:Obj} {v:Option Value},s1.heap.get? b=some o→o.data=.cell v→∀ps,H1 Pt=some (.dq ps)→b≠Pt:=fun{b o v} g d ps hP z=>by
  have:s1.heap.get? Pt=some (tabObj ps):=I1.ay Pt _ hP
  rw [z,this] at g;cases g;cases d
 rcases hT with hP | ⟨c',cP,hP,Lm⟩
 ·obtain ⟨hb,Ln⟩:=I1.Lf hB hP
  refine kla_makeFunction (ps:=#[]) (mg:=X.mg) Li I1.ok.glob Lj Lh Ll (I1.ay Pt _ hP) trivial rfl Ln hb fun c' gf h' tk hx yG aV uN Fe=>?_
  refine bo (wR (dB (wpAny_evalAll_nil ?_)))
  obtain ⟨H2,sm,st,I2⟩:=I1.grown (fo:=kla_obj "<lambda>" (X.env.qual ++ "<lambda>") (kf x pa) (kg x cn p1 p2 p3) (iI x cn) [(cn,cc)] ((X.mg "__name__").getD .none) c' gf) (tk:=tk) hP hx yG uN Fe
  refine fin h'.objs.size c' _ gf _ H2 sm st I2 ?_ ⟨_,hP⟩ (eX _ rfl) (uN.push _)
  obtain ⟨o,ho,hd⟩:=m8
  exact ⟨o,cg _ (hx cc o (U1 ho hd _ hP) ho),hd⟩
 ·obtain ⟨hb,Ln⟩:=I1.Lf hB hP
  refine kla_makeFunctionHit (cv:=.ref c') (ps:=#[rawInt pl.line,rawInt pl.col,.ref c']) (mg:=X.mg) Li I1.ok.glob Lj Lh Ll (I1.ay Pt _ hP) trivial ?_ hb fun gf h' tk hk hsz=>?_
  ·show codeAmong pl [rawInt pl.line,rawInt pl.col,.ref c']=_
   simp [codeAmong,rawInt]
  refine bo (wR (dB (wpAny_evalAll_nil ?_)))
  have kp:∀b o,s1.heap.get? b=some o→(h'.push {cls:=.type "function",data:=.func (kla_fn "<lambda>" (X.env.qual ++ "<lambda>") (kf x pa) (kg x cn p1 p2 p3) (iI x cn) [(cn,cc)] ((X.mg "__name__").getD .none) (.ref c') gf)}).get? b=some o:=fun b o e=>cg _ (hk b o e)
  have uN:s1.heap.CodeRec (.ref c') (X.env.qual ++ "<lambda>"):=(I1.ay c' _ Lm).1
  refine fin h'.objs.size c' _ gf _ H1 (fun _ _ _ e=>e) (.inr ⟨c',cP,hP,Lm⟩) (I1.kept (t':=tk) kp) ?_ ⟨_,hP⟩ (eX _ rfl) (uN.keeps kp)
  obtain ⟨o,ho,hd⟩:=m8
  exact ⟨o,kp _ _ ho,hd⟩
section
variable {prog:Program} {w:World} {A:Around} {E:aM} {s:Shared}
theorem U2:typeLookup (.type "list_reverseiterator") "__len__"=pure none:=by rw [typeLookup_type,builtinLookup_eq_fast];kernel_rfl
theorem U3:typeLookup (.type "list_reverseiterator") "__length_hint__"=pure (some (.builtin "list_reverseiterator.__length_hint__")):=by rw [typeLookup_type,builtinLookup_eq_fast];kernel_rfl
theorem U4{r:Addr}{Q:Bool→Shared→Prop}(hT:s.TypeIs (.ref r) "list_reverseiterator")(h:Q false s):wpAny (model prog w) A (Builtin.List.listLengthHint (.ref r)) Q E s:=by
 unfold Builtin.List.listLengthHint;refine bo (wpAny_specialOf hT U2 ?_);refine tK (fun k_=>absurd k_ (by decide)) (fun _=>?_)
 refine tK (fun k_=>absurd k_ (by decide)) (fun _=>?_)
 refine bo (wpAny_specialOf hT U3 ?_);generalize Lo:("list_reverseiterator.__length_hint__":String)=U5
 wp_delta
 rw [show splitId U5=some ("list_reverseiterator","__length_hint__") from by subst Lo;decide +kernel]
 subst Lo;refine bo (wpAny_isInstance (T:="list_reverseiterator") (b:=true) hT (by rw [isSubtype_type];kernel_rfl) ?_)
 refine tK (fun k_=>absurd k_ (by decide)) (fun _=>?_)
 refine tK (fun _=>?_) (fun k_=>absurd (by decide +kernel) k_)
 refine tK (fun k_=>absurd k_ (by decide +kernel)) (fun _=>?_)
 exact dB h
def A9(its acc:Array Value):Prop:=acc.toList=its.toList.reverse
variable {its:Array Value}
theorem U6{acc:Array Value}(h:ItemsOf (fun i v=>its[its.size-1-i]?=some v) acc its.size):A9 its acc:=by
 refine w5 fun i=>?_;have ha:=h.1;by_cases hi:i<acc.size
 ·have e1:=h.2 i _ (Array.getElem?_eq_getElem hi)
  rw [wW,Array.getElem?_eq_getElem hi,List.getElem?_reverse (by simpa using (by lia:i<its.size)),gM,wW,e1]
 ·rw [wW,Array.getElem?_eq_none (by lia),zG (by rw [List.length_reverse,gM];lia)]
variable {R:Result→Shared→Prop} {it:Addr}
theorem U7(hh:A.handled=none)(hit:s.heap.IsRevIter it l ((its.size:Int)-1))(hl:s.heap.IsList l its)(eL:l≠it)(hlen:its.size≤2 ^ 24)(S:Addr)(res:Value)(c₀:Nat)
  (hS:s.heap.get? S=some {cls:=.type "list",data:=.seq #[] c₀}) (uP:S≠l)
  (hR:∀h' tk i_ c',(∀b o,b≠S→b≠it→s.heap.get? b=some o→h'.get? b=some o)→h'.get? S=some {cls:=.type "list",dict:=none,data:=.seq i_ c',slots:=#[]}→A9 its i_→R (.ok (.ret res)) {s with heap:=h',toks:=tk}) :
  wpAny (model prog w) A.in1 (Builtin.List.listExtendWith (.ref S) (.ref it) res)
   (fun fin s'=>match fin with | .done f=>R (.ok f) s' | .again c'=>c'.quiet=true∧codeAny (model prog w) A c' R s') (fun e s'=>R (.error e) s') s:=by
 have hT:=hit.typeIs;have A_:S≠it:=fun e=>by obtain ⟨o,ho,hc,Fg⟩:=hit;rw [e,ho] at hS;cases hS;cases Fg
 have U8:S∉[it,l]:=fun U9=>by
  rcases bh.mp U9 with e | e;·exact A_ e
  ·exact uP (bS.mp e)
 have W:=(Walks.listRev (prog:=prog) (w:=w) (A:=A.in1) hh it l eL its).toS
 have key:∀(h:Heap) (c₁ tk:Nat),h.IsRevIter it l ((its.size:Int)-1-((0:Nat):Int))∧h.IsList l its→(∀b o,b≠S→s.heap.get? b=some o→h.get? b=some o)→
   h.get? S=some {cls:=.type "list",data:=.seq #[] c₁}→codeAny (model prog w) A (.builtin "list.extend.loop" ⟨[.ref S,.ref it,res],[]⟩) R {s with heap:=h,toks:=tk}:=by
  intro h c₁ tk hit hk U_;refine codeAny_extend_loopS W (by rw [n_];lia) S U8 res its.size 0 _ #[] c₁ rfl (bY _) ⟨bY _,hit⟩ U_ (ItemsOf.nil _) fun s' i_ c' Lp fJ rb=>?_
  rw [Moved.eq_with Lp];refine hR s'.heap s'.toks i_ c' (fun b o hb pj e=>Lp.heap b o (fun Fh=>?_) (hk b o hb e)) fJ (U6 rb);rcases bh.mp Fh with e' | Fh;·exact hb e'
  ·exact pj (bS.mp Fh)
 have Va:s.heap.IsRevIter it l ((its.size:Int)-1-((0:Nat):Int)):=by
  have e:(its.size:Int)-1-((0:Nat):Int)=(its.size:Int)-1:=by lia
  rw [e];exact hit
 unfold Builtin.List.listExtendWith;refine bo (wpAny_typeOf (T:="list_reverseiterator") hT ?_);simp only [show Builtin.List.listSameRef (.ref S) (.ref it)=false from by simp [Builtin.List.listSameRef,A_],show (Value.type "list_reverseiterator" == Value.type "list")=false from by decide,show (Value.type "list_reverseiterator" == Value.type "tuple")=false from by decide,Bool.or_false,Bool.false_eq_true,if_false]
 refine bo (wpAny_pyIter_revIter hit ?_);refine bo (sX (U4 hT ?_));refine tK (fun k_=>absurd k_ (by decide)) (fun _=>dB ⟨plainId_quiet F.plain_extend_loop _,key _ c₀ _ ⟨Va,hl⟩ (fun b o _ e=>e) hS⟩)
theorem Vb(hh:A.handled=none)(hit:s.heap.IsRevIter it l ((its.size:Int)-1))(hl:s.heap.IsList l its)(eL:l≠it)(hlen:its.size≤2 ^ 24)(S:Addr)
  (hS:s.heap.get? S=some {cls:=.type "list",data:=.seq #[]}) (uP:S≠l)
  (hR:∀h' tk i_ c',(∀b o,b≠S→b≠it→s.heap.get? b=some o→h'.get? b=some o)→h'.get? S=some {cls:=.type "list",dict:=none,data:=.seq i_ c',slots:=#[]}→A9 its i_→R (.ok (.ret .none)) {s with heap:=h',toks:=tk}) :
  wpAny (model prog w) A.in1 (Builtin.«list.__init__» ⟨[.ref S,.ref it],[]⟩)
   (fun fin s'=>match fin with | .done f=>R (.ok f) s' | .again c'=>c'.quiet=true∧codeAny (model prog w) A c' R s') (fun e s'=>R (.error e) s') s:=by
 have A_:S≠it:=fun e=>by
  obtain ⟨o,ho,hc,Fg⟩:=hit
  rw [e,ho] at hS
  cases hS
  cases Fg
 show wpAny _ _ (do let old ←Builtin.List.listItems (.ref S);Builtin.List.listUpdate (.ref S) (fun _=>#[]);letGo old.toList.reverse;Builtin.List.listExtendWith (.ref S) (.ref it) .none) _ _ s
 refine bo ?_
 unfold Builtin.List.listItems
 refine bo (wpAny_seqItems hS rfl (dB ?_))
 show wpAny _ _ (updateSeq S (fun _=>#[]) >>= fun _=>letGo (#[]:Array Value).toList.reverse >>= fun _=>Builtin.List.listExtendWith (.ref S) (.ref it) .none) _ _ s
 refine bo (wpAny_updateSeq hS rfl ?_)
 have Vc:=Heap.get?_update_self (Obj.mapSeq (fun _=>(#[]:Array Value))) hS rfl
 have Fi:∀b o,b≠S→s.heap.get? b=some o→(s.heap.update S (Obj.mapSeq (fun _=>(#[]:Array Value)))).get? b=some o:=fun b o hb e=>(CS _ _ (Ne.symm hb)).trans e
 refine bo (wpAny_letGo ?_)
 exact U7 (s:={s with heap:=s.heap.update S (Obj.mapSeq (fun _=>(#[]:Array Value)))}) hh (hit.at fun o e=>Fi it o (Ne.symm A_) e) (hl.at fun o e=>Fi l o (Ne.symm uP) e) eL hlen S .none _ Vc uP fun h' tk i_ c' hk fJ rb=>hR h' tk i_ c' (fun b o hb pj e=>hk b o hb pj (Fi b o hb e)) fJ rb
theorem Vd{Q:aM}(hh:A.handled=none)(hit:s.heap.IsRevIter it l ((its.size:Int)-1))(hl:s.heap.IsList l its)(eL:l≠it)(hlen:its.size≤2 ^ 24)
  (hQ:∀h' tk i_ c',(∀b o,b≠it→s.heap.get? b=some o→h'.get? b=some o)→h'.get? s.heap.objs.size=some {cls:=.type "list",dict:=none,data:=.seq i_ c',slots:=#[]}→A9 its i_→Q (.ref s.heap.objs.size) {s with heap:=h',toks:=tk}) :
  wpAny (model prog w) A (call (.type "list") [.ref it]) Q E s:=by
 refine callType_codes (Q₁:=fun obj s₁=>obj=.ref s.heap.objs.size∧s₁={s with heap:=s.heap.push {cls:=.type "list",data:=.seq #[]}}) F.called_list (F.typeCall_list_1 _) F.entry_list_init (code_list_new _ ⟨rfl,rfl⟩) fun obj s₁ h₁=>?_;obtain ⟨rfl,rfl⟩:=h₁;have hS:(s.heap.push {cls:=.type "list",data:=.seq #[]}).get? s.heap.objs.size=some {cls:=.type "list",data:=.seq #[]}:=eX _ rfl;have uP:s.heap.objs.size≠l:=fun e=>by obtain ⟨o,ho,_⟩:=hl;exact eE _ (e▸aZ ho)
 refine ⟨⟨_,hS,rfl⟩,F.args_list_init_2 _ _,Vb (s:={s with heap:=s.heap.push {cls:=.type "list",data:=.seq #[]}}) (A:=A.in1) hh (hit.at fun o e=>cg _ e) (hl.at fun o e=>cg _ e) eL hlen _ hS uP fun h' tk i_ c' hk fJ rb=>?_⟩;exact ⟨rfl,hQ h' tk i_ c' (fun b o hb e=>hk b o (cq (aZ e)) hb (cg _ e)) fJ rb⟩
end
section
variable {X:Cx}
def Ve(K:aE)(ta:TA):TE:=fun σ H Q=>ta σ H fun vs H1=>∃(l:Addr) (xs:List V),vs=[.ref l]∧a7 K H1 l xs∧xs.length≤10000∧∀D,H1 D=none→Q (.ref D) (upd H1 D (.lst xs.reverse))
theorem Vf{a:Expr}{ta:TA}{pos p2 Ba:Pos}(hc:X.calm=true)(hg:Gl X "list")(hm:X.mg "list"=none)(Vg:Gl X "reversed")(uL:X.mg "reversed"=none)(ha:PA X [a] ta)(hs:starEach [a] X.env=[(false,eval a X.env)]:=by rfl)
  (qt:starEach [.Call (.Name "reversed" p2) [a] [] Ba] X.env=[(false,eval (.Call (.Name "reversed" p2) [a] [] Ba) X.env)]:=by rfl):PE X (.Call (.Name "list" p) [.Call (.Name "reversed" p2) [a] [] Ba] [] pos) (Ve X.K ta):=by
 intro pins s σ H Q I h;refine PyProof.Rows.Call_Name1 (m9 I hg hm boot_list (callWith_type1 ?_)) qt;refine Call_ (m9 I Vg uL boot_reversed (wV (aJ (ha Ba pins s σ H _ I h) fun us s1 ⟨vs,H1,I1,r1,q1⟩=>?_) hs rfl));obtain ⟨l,xs,e,hq,hx,q⟩:=q1;subst e;cases r1 with
 | cons r rr=>
  cases rr;cases r;obtain ⟨its,rv,pl,hz⟩:=I1.list hq;have yF:=rv.length;obtain ⟨o,n,go,c1,c2,c3⟩:=id pl;refine call_reversed_list pl.isList ?_;refine Vd (its:=its.toArray) (l:=l) (I1.ok.hd hc) ⟨_,eX _ rfl,rfl,rfl⟩ ?_ (cq (aZ go)) (by rw [bZ];lia) fun h' tk acc c hk hD rb=>?_
  ·exact (show PlainL _ l _ from ⟨o,n,cg _ go,c1,c2,c3⟩).isList
  ·have I2:Inv X pins σ H1 {s1 with heap:=s1.heap.push (revObj l ((its.toArray.size:Int)-1))}:=I1.kept (t':=s1.toks) fun b o e=>cg _ e
   have kp:∀b o,s1.heap.get? b=some o→h'.get? b=some o:=fun b o e=>hk b o (cq (aZ e)) (cg _ e);have hsz:s1.heap.objs.size≤(s1.heap.push (revObj l ((its.toArray.size:Int)-1))).objs.size:=by rw [Heap.size_push];exact jJ _
   refine ⟨.ref _,_,I1.laid (o:=.lst xs.reverse) kp hsz ⟨?_,acc.toList,c,?_,?_⟩,rfl,q _ (I1.ay.fresh hsz)⟩
   ·rw [List.length_reverse]
    exact bR hx (by decide)
   ·have e:acc.toList=its.reverse:=by rw [rb]
    rw [e];exact rv.reverse
   ·rw [hD]
end
theorem gT.A8{base:Heap}{qual:Str}{st:Stmt}{N ps:List Str}(F:gT K x qual st f fd)(Lq:tabIn K fd Pt=true)(S:b8 N ps (bj st))(len:∀vs H Q E,sp vs H Q E→vs.length=ps.length)
  (kK:∀(c:Addr) (A:Around) (outer:List Env) (s:Shared) (H:Hp) (vs:List V) (Q:VK) (E:XK),codeHdIn K c Pt=true→dJ k (A.deeper (envOfC qual (bj st) s.heap.objs.size f (.ref c)))→sp vs H Q E→
   ∃t,fE (jT cB P w K mg base N qual (bj st) f (.ref c) A outer s H E).m_ (l8 st) t∧t {nx:=fun _ H'=>Q .aN H',rt:=Q} (start N vs) H):bK P w K mg base cB (k+1) f fd ps sp:=by
 obtain ⟨oc,od,kV,doc,pm,an,bW,ct,kJ,rfl,lk,eF⟩:=F.ex;cases bW with
 | ref c=>have h2:codeHdIn K c Pt=true:=Lq;refine DC lk eF S len fun A outer s H vs Q E hr lY=>?_;obtain ⟨t,h,q⟩:=kK c A outer s H vs Q E h2 hr lY;exact ⟨t,h.m_,q⟩
 | _=>cases Lq
def Bb(K:aE)(Pt:Addr):Sp:=fun vs H Q E=>H Pt=some (.dq #[])∧My.Q_ K vs H Q E
theorem Vh{l:PySem.W.OpenLaw}{q:Program}{loose:List Str}{XP:(Str→Option Value)→Heap→Prop}{YP:World→Heap→Prop}{d:DefRec}{K:Params→PySem.W.Frag}(hn:l.most=some 63)(xM:d.params.defaults=[])(hr:dJ k callerA)
  (hY:∀(w:World) (h:Heap),YP w h→(K w.params).In h) (hP:∀(w:World) (h:Heap),YP w h→h.get? Pt=some (tabObj #[]))
  (F:∀(w:World) (mg:cJ) (fa:Addr) (h:Heap),(K w.params).In h→h.Ns mainGlobals mg→mg d.name=some (.ref fa)→
   (K w.params).lookup Pt=none∧(∃uQ,tabIn (K w.params) uQ Pt=true)∧∃fd:FuncData,(∀(s:Shared) (u:Value),BindsTo s fd ⟨[u],[]⟩ [("script",u)])∧∀base:Heap,(K w.params).In base→base.Ns mainGlobals mg→ke base mg→bK l.prog w (K w.params) mg base cB k fa fd ["script"] (Bb (K w.params) Pt)) :
  PySem.W.WalkO q loose XP YP l.row.toRowW d [] (fun f vs=>PySem.call f vs):=by
 refine Att.QD hn xM fun w s₀ s₁ mg mb fa o pm cd doc a vs ns G Y ho hd eF xN DP hints hlen hg=>?_;have KX:=hY w _ Y;obtain ⟨E9,⟨uQ,Bc⟩,fd,hb,hF⟩:=F w mg fa _ KX G.T.g xN;have hT:=hP w _ Y;have E_:isCodeTable s₁.heap Pt:=by
  unfold tabIn at Bc
  split at Bc
  ·exact ((codeHd_of_K KX Bc).tab hT).isCodeTable
  ·cases Bc
 obtain ⟨bm,ob,b1,b2,b3,b4,b5,b6⟩:=G.T.bmain;exact UJ KX G.T.g G.T.b G.T.builtins G.T.nolimit hg hT E9 E_ DP hints (bR hlen (by decide)) hr ⟨bm,ob,b1,b2,b3,b4,b5,b6⟩ hF hb (fun H hO hP hS=>⟨hP,a,ns,rfl,hS,hlen,fun _=>rfl⟩) fun H e s' z=>z
end L2
namespace My
open PySem L2
abbrev gg:Str:=(Str.ofString "likely_order"++Str.ofString ".<locals>.")++Str.ofString "<lambda>"
def fB(L:au)(P:List Nat)(a:Nat):Nat:=(P.filter (rL L a)).length
variable {P:List Nat}
theorem Vi{L:au}{a b:Nat}:fB L (P++[b]) a=fB L P a+if rL L a b=true then 1 else 0:=by
 unfold fB;rw [mY,di]
 congr 1
 by_cases h:rL L a b=true;·rw [ae h,tL h];rfl
 ·rw [aa h,zP h];rfl
variable {n:Nat} {r:Nat→Nat→Bool}
theorem mC.nil:mC n r []:=fun A b B e=>by have:=dP List.length e;simp at this
theorem mC.snoc{p:Nat}(h:mC n r P)(hp:∀a,a<n→a∉P→(P.filter (r a)).length≤(P.filter (r p)).length):mC n r (P++[p]):=fun A b B e a an aA=>by
 rcases List.eq_nil_or_concat B with rfl | ⟨B',x,rfl⟩
 ·have e2:P++[p]=A++[b]:=e
  obtain ⟨rfl,e3⟩:=List.append_inj' e2 rfl;cases e3;exact hp a an aA
 ·have e2:P++[p]=(A++b::B')++[x]:=by rw [e];simp
  obtain ⟨e3,_⟩:=List.append_inj' e2 rfl;exact h A b B' e3 a an aA
theorem Vj{α:Type}{j:Nat}{g:Nat→α}{v:α}:((List.range n).map g).set j v=(List.range n).map fun a=>if a=j then v else g a:=by
 refine w5 fun i=>?_;rw [List.getElem?_set,aC,dI,bq,bq];by_cases hi:i<n
 ·rw [jK hi]
  by_cases e:j=i
  ·subst e
   simp [hi]
  ·rw [aa e]
   simp [Ne.symm e]
 ·rw [zG (by rw [dI];lia)]
  by_cases e:j=i
  ·subst e
   simp [hi]
  ·rw [aa e]
   rfl
theorem getD_map{y:Nat}{g:Nat→Int}(h:y<n):((List.range n).map g).getD y 0=g y:=by rw [du,bq,jK h];rfl
def Vk(Pt:Addr)(pl:Pos):Sp:=fun vs H Q _=>∃(tp:Addr) (n:Nat) (L:au),vs=[.ref tp]∧cY H tp n L∧eB n L∧n≤1000∧cG Pt pl gg H ∧
 ∀(H':Hp) (D:Addr) (Pk:List Nat),cO Pt H H'→cG Pt pl gg H'→H D=none→H' D=some (.lst (Pk.reverse.map fun k:Nat=>V.int (k:Int)))→Pk.Perm (List.range n)→mC n (rL L) Pk→Q (.ref D) H'
end My
namespace L2
open PySem
variable {Pt:Addr} {pl:Pos} {q:Str} {H H':Hp}
theorem cG.mono(h:cG Pt pl q H)(s:aj H H'):cG Pt pl q H':=by
 rcases h with h | ⟨c,n,h1,h2⟩;·exact .inl (s _ _ h)
 ·exact .inr ⟨c,n,s _ _ h1,s _ _ h2⟩
theorem cG.at(h:cG Pt pl q H):∃ps,H Pt=some (.dq ps):=by
 rcases h with h | ⟨c,n,h1,h2⟩;·exact ⟨_,h⟩
 ·exact ⟨_,h1⟩
theorem cG.off{a:Addr}{u:HO}(h:cG Pt pl q H)(ea:H a=some u)(n1:∀ps,u≠.dq ps)(n2:∀φ,u≠.ext φ)(s:∀b o,b≠a→H b=some o→H' b=some o):cG Pt pl q H':=by
 have nP:∀ps,H Pt=some (.dq ps)→Pt≠a:=fun ps e z=>by rw [z,ea] at e;exact n1 ps (Option.some.inj e)
 rcases h with h | ⟨c,n,h1,h2⟩;·exact .inl (s _ _ (nP _ h) h)
 ·exact .inr ⟨c,n,s _ _ (nP _ h1) h1,s _ _ (fun z=>by rw [z,ea] at h2;exact n2 _ (Option.some.inj h2)) h2⟩
end L2
namespace My
open PySem L2
theorem Lr{Pt t:Addr}{H H':Hp}{n:Nat}{L:au}{ps:Array Value}(h:cY H t n L)(hP:H Pt=some (.dq ps))(s:cO Pt H H'):cY H' t n L:=by
 have at':∀{b:Addr} {xs:List V},H b=some (.tup xs)→H' b=some (.tup xs):=fun{b xs} e=>s b _ (fun z=>by rw [z,hP] at e;cases e) e
 obtain ⟨lt,us,e1,e2,e3,e4⟩:=h;exact ⟨lt,us,at' e1,at' e2,e3,fun k x p h1 h2=>let ⟨b,q1,q2⟩:=e4 k x p h1 h2;⟨b,q1,at' q2⟩⟩
end My
namespace L2
open PySem My
variable {Pt P a:Addr} {pl:Pos} {q:Str} {H H':Hp}
theorem cG.Ls(h:cG Pt pl q H)(p:bG H P a)(s:aI P H H'):cG Pt pl q H':=by
 obtain ⟨x,y,eP,_⟩:=p;have ne:∀{b:Addr} {o:HO},H b=some o→(∀xs,o≠.lst xs)→b≠P:=fun{b o} e n z=>by rw [z,eP] at e;exact n _ (Option.some.inj e).symm
 rcases h with h | ⟨c,n,h1,h2⟩;·exact .inl (s.at (ne h fun _ z=>by cases z) h)
 ·exact .inr ⟨c,n,s.at (ne h1 fun _ z=>by cases z) h1,s.at (ne h2 fun _ z=>by cases z) h2⟩
theorem cG.Vl(h:cG Pt pl q H)(p:bG H P a):P≠Pt:=fun z=>by obtain ⟨x,y,eP,_⟩:=p;obtain ⟨ps,e⟩:=h.at;rw [z,e] at eP;cases eP
theorem cO.jX(s:cO Pt H H')(n:P≠Pt)(p:bG H P a):bG H' P a:=by obtain ⟨x,y,eP,r⟩:=p;exact ⟨x,y,s _ _ n eP,r⟩
theorem cO.er(s:cO Pt H H'):cO Pt (My.er P H) (My.er P H'):=fun b o n e=>by
 unfold My.er at e ⊢;by_cases z:b=P;·rw [ae z] at e;cases e
 ·rw [aa z] at e ⊢
  exact s b o n e
end L2
namespace My
open PySem L2
section
variable {E:Nat→Nat→Prop}
def pA(E:Nat→Nat→Prop)(V:List Nat)(x c:Nat):Prop:=c∈V∧c≠x∧¬E x c
structure mF (E:Nat→Nat→Prop) (V:List Nat) (x y z:Nat):Prop where
 xV:x∈V
 yV:y∈V
 zV:z∈V
 xy:E x y
 xz:E x z
 ne:y≠z
 no:¬E y z
 wk:Wk E (pA E V x) y z
def Simp(E:Nat→Nat→Prop)(V:List Nat)(s:Nat):Prop:=∀b c,b∈V→c∈V→b≠c→E s b→E s c→E b c
open Classical in
theorem Fj(sy:∀a b,E a b→E b a)(ir:∀a,¬E a a):∀(m:Nat) (V:List Nat),V.length≤m→(∀x y z,¬mF E V x y z)→∀x v,x∈V→v∈V→v≠x→¬E x v→∃s,pA E V x s∧Simp E V s
 | 0,V,hm,_,x,_,hx,_,_,_=>by
  cases V with
  | nil=>cases hx
  | cons=>simp at hm
 | m+1,V,hm,nh,x,v,hx,hv,vx,nv=>by
  have tv:pA E V x v:=⟨hv,vx,nv⟩
  let C:Nat→Prop:=fun c=>pA E V x c∧(c=v∨Wk E (pA E V x) v c)
  let S:Nat→Prop:=fun y=>y∈V∧E x y∧∃c,C c∧E c y
  have toV:∀y c,C c→E c y→Wk E (pA E V x) y v:=fun y c hc e=>by
   rcases hc.2 with rfl | h;·exact .one (sy _ _ e)
   ·exact (Wk.one (sy _ _ e)).trans hc.1 (h.symm sy)
  have Sc:∀y z,S y→S z→y≠z→E y z:=fun y z hy hz ne=>by refine gB fun no=>?_;obtain ⟨c,hc,ec⟩:=hy.2.2;obtain ⟨d,hd,ed⟩:=hz.2.2;exact nh x y z ⟨hx,hy.1,hz.1,hy.2.1,hz.2.1,ne,no,(toV y c hc ec).trans tv ((toV z d hd ed).symm sy)⟩
  have Lu:∀t b,C t→b∈V→E t b→C b∨S b:=fun t b ht hb e=>by
   by_cases h:E x b;·exact .inr ⟨hb,h,t,ht,e⟩
   ·have bx:b≠x:=fun z=>ht.1.2.2 (by rw [←z];exact sy _ _ e)
    refine .inl ⟨⟨hb,bx,h⟩,.inr ?_⟩;rcases ht.2 with rfl | w;·exact .one e
    ·exact .more w ht.1 e
  have nCS:∀s,C s→¬S s:=fun s hc hs=>hc.1.2.2 hs.2.1
  let V':=V.filter fun c=>decide (C c∨S c)
  have ja:∀c,c∈V'↔c∈V∧(C c∨S c):=fun c=>by show c∈V.filter _↔_;rw [bI,fk]
  have CV:∀c,C c→c∈V':=fun c h=>(ja c).mpr ⟨h.1.1,.inl h⟩;have SV:∀c,S c→c∈V':=fun c h=>(ja c).mpr ⟨h.1,.inr h⟩;have Vm:x∉V':=fun h=>by
   rcases ((ja x).mp h).2 with h | h;·exact h.1.2.1 rfl
   ·exact ir x h.2.1
  have lt:V'.length≤m:=by
   have h1:V'.length<V.length:=by
    have h2:=List.length_filter_lt_length_iff_exists (l:=V) (p:=fun c=>decide (C c∨S c)) |>.mpr ⟨x,hx,by rw [fk];intro h;exact Vm ((ja x).mpr ⟨hx,h⟩)⟩
    exact h2
   lia
  have Lv:∀x y z,¬mF E V' x y z:=fun a b c h=>nh a b c ⟨((ja _).mp h.xV).1,((ja _).mp h.yV).1,((ja _).mp h.zV).1,h.xy,h.xz,h.ne,h.no,h.wk.mono fun d hd=>⟨((ja _).mp hd.1).1,hd.2⟩⟩;have fin:∀t,C t→Simp E V' t→∃s,pA E V x s∧Simp E V s:=fun t ht hs=>by
   refine ⟨t,ht.1,fun b c hb hc ne eb ec=>hs b c ?_ ?_ ne eb ec⟩;·exact (ja b).mpr ⟨hb,Lu t b ht hb eb⟩
   ·exact (ja c).mpr ⟨hc,Lu t c ht hc ec⟩
  by_cases ha:∃s u,S s∧u∈V'∧u≠s∧¬E s u
  ·obtain ⟨s,u,hs,hu,us,nu⟩:=ha
   obtain ⟨t,ht,st⟩:=Fj sy ir m V' lt Lv s u (SV s hs) hu us nu;refine fin t ?_ st;rcases ((ja t).mp ht.1).2 with h | h;·exact h
   ·exact absurd (Sc s t hs h (Ne.symm ht.2.1)) ht.2.2
  ·have full:∀s u,S s→u∈V'→u≠s→E s u:=fun s u hs hu us=>gB fun z=>ha ⟨s,u,hs,hu,us,z⟩
   by_cases hb:∃u w,C u∧C w∧w≠u∧¬E u w
   ·obtain ⟨u,w,hu,hw,uw,nu⟩:=hb
    obtain ⟨t,ht,st⟩:=Fj sy ir m V' lt Lv u w (CV u hu) (CV w hw) uw nu;refine fin t ?_ st;rcases ((ja t).mp ht.1).2 with h | h;·exact h
    ·exact absurd (sy _ _ (full t u h (CV u hu) (Ne.symm ht.2.1))) ht.2.2
   ·have vC:C v:=⟨tv,.inl rfl⟩
    refine fin v vC fun b c i8 fU ne eb ec=>?_;rcases ((ja b).mp i8).2 with h | h
    ·rcases ((ja c).mp fU).2 with h2 | h2
     ·exact gB fun z=>hb ⟨b,c,h,h2,Ne.symm ne,z⟩
     ·exact sy _ _ (full c b h2 i8 ne)
    ·exact full b c h fU (Ne.symm ne)
theorem Vn(sy:∀a b,E a b→E b a)(ir:∀a,¬E a a){V:List Nat}(hV:V≠[])(nh:∀x y z,¬mF E V x y z):∃s,s∈V∧Simp E V s:=by
 by_cases h:∃x v,x∈V∧v∈V∧v≠x∧¬E x v
 ·obtain ⟨x,v,hx,hv,vx,nv⟩:=h
  obtain ⟨s,hs,ss⟩:=Fj sy ir _ V (ax _) nh x v hx hv vx nv;exact ⟨s,hs.1,ss⟩
 ·cases V with
  | nil=>exact absurd rfl hV
  | cons a V=>exact ⟨a,bV,fun b c hb hc ne _ _=>gB fun z=>h ⟨b,c,hb,hc,Ne.symm ne,z⟩⟩
theorem Lw(sy:∀a b,E a b→E b a)(ir:∀a,¬E a a):∀(m:Nat) (V:List Nat),V.length=m→(∀x y z,¬mF E V x y z)→∃o:List Nat,o.Perm V∧∀A x B,o=A++x::B→∀b c,b∈B→c∈B→b≠c→E x b→E x c→E b c
 | 0,V,hm,_=>by
  cases V with
  | nil=>exact ⟨[],List.Perm.refl _,fun A x B e=>by simp at e⟩
  | cons=>simp at hm
 | m+1,V,hm,nh=>by
  have hV:V≠[]:=fun z=>by rw [z] at hm;simp at hm
  obtain ⟨s,hs,ss⟩:=Vn sy ir hV nh;have sub:∀c,c∈V.erase s→c∈V:=fun c h=>List.mem_of_mem_erase h;obtain ⟨o,po,ho⟩:=Lw sy ir m (V.erase s) (by rw [C3 hs];lia) fun a b c h=>nh a b c ⟨sub _ h.xV,sub _ h.yV,sub _ h.zV,h.xy,h.xz,h.ne,h.no,h.wk.mono fun d hd=>⟨sub _ hd.1,hd.2⟩⟩
  refine ⟨s::o,(po.cons s).trans (List.perm_cons_erase hs).symm,fun A x B e b c hb hc ne eb ec=>?_⟩;cases A with
  | nil=>injection e with e1 e2;subst e1;subst e2;exact ss b c (sub _ (po.mem_iff.mp hb)) (sub _ (po.mem_iff.mp hc)) ne eb ec
  | cons a A=>injection e with e1 e2;exact ho A x B e2 b c hb hc ne eb ec
end
variable {n:Nat} {L:au}
theorem Vo(pw:L.Pairwise lexLt)(lt:∀z∈L,0≤z.1∧z.1<z.2∧z.2<(n:Int))(no:∀o:List Nat,o.Perm (List.range n)→¬b9 n L o L):∃x y z,mF (aL n L) (List.range n) x y z:=by
 refine gB fun nh=>?_;have ir:∀a,¬aL n L a a:=fun a h=>by rcases h.2.2 with e | e <;> (have:=lt _ e;lia)
 obtain ⟨o,po,ho⟩:=Lw gc ir _ (List.range n) rfl fun x y z h=>nh ⟨x,y,z,h⟩;refine no o po (E7 po pw lt fun a b c an bn cn ab ac ne e1 e2=>?_);obtain ⟨A,B,e⟩:=List.append_of_mem ((fI po).mpr an);have nd:=nJ po;have Lx:∀d,d<n→o.idxOf a<o.idxOf d→d∈B:=fun d dn lt=>by
  have hm:=(fI po).mpr dn;rw [e] at hm lt nd;rw [jL] at nd;have aA:a∉A:=fun z=>nd.2.2 a z a bV rfl;rw [jM,aa aA,jg] at lt;rcases cZ.mp hm with h | h
  ·rw [jM,ae h] at lt
   have:=m5 h;lia
  ·rcases bh.mp h with rfl | h
   ·rw [jM,aa aA,jg] at lt
    lia
   ·exact h
 exact ho A a B e b c (Lx b bn ab) (Lx c cn ac) ne e1 e2
def yH(E:Nat→Nat→Prop):List Nat→Prop
 | []=>True
 | a::r=>(∀b,r.head?=some b→E a b)∧(∀d∈r.drop 1,¬E a d)∧yH E r
theorem yH.at{E:Nat→Nat→Prop}:∀{p:List Nat},yH E p→∀(i j:Nat) (hi:i<p.length) (hj:j<p.length),i<j→(E p[i] p[j]↔j=i+1)
 | [],_,i,_,hi,_,_=>by simp at hi
 | a::r,⟨h1,h2,h3⟩,0,j,_,hj,ij=>by
  obtain ⟨j,rfl⟩:∃k,j=k+1:=⟨j-1,by lia⟩
  have d6:j<r.length:=by simpa using hj
  simp only [C6,xc];constructor
  ·intro e
   refine gB fun z=>h2 r[j] ?_ e;rw [zQ];exact ⟨j-1,by rw [List.length_drop];lia,by rw [List.getElem_drop];congr 1;lia⟩
  ·intro e
   have:j=0:=by lia
   subst this;exact h1 _ (by rw [List.head?_eq_getElem?,bu d6])
 | a::r,⟨h1,h2,h3⟩,i+1,j,hi,hj,ij=>by
  obtain ⟨j,rfl⟩:∃k,j=k+1:=⟨j-1,by lia⟩
  simp only [xc];rw [h3.at i j (by simpa using hi) (by simpa using hj) (by lia)]
  lia
theorem Vp(pw:L.Pairwise lexLt)(lt:∀z∈L,0≤z.1∧z.1<z.2∧z.2<(n:Int)){r:List Nat}(m4:4≤r.length)(nd:r.Nodup)(rn:∀d∈r,d<n)
  (h:∀(i j:Nat) (hi:i<r.length) (hj:j<r.length),i<j→(aL n L r[i] r[j]↔j=i+1∨(i=0∧j=r.length-1))):qV L (r.map iN):=by
 have lm:(r.map iN).length=r.length:=aC ..;have gz:∀(k:Nat) (hk:k<r.length),(r.map iN).getD k 0=((r[k]:Nat):Int):=fun k hk=>by rw [du,bq,bu hk];rfl
 have inj:∀(i j:Nat) (hi:i<r.length) (hj:j<r.length),r[i]=r[j]→i=j:=fun i j hi hj e=>(lC nd).mp e;have nx:∀k,k<r.length→(k+1) % r.length<r.length:=fun k _=>Nat.mod_lt _ (by lia)
 have rd:∀k,k<r.length→(k+1<r.length∧(k+1) % r.length=k+1)∨(k=r.length-1∧(k+1) % r.length=0):=fun k hk=>by
  by_cases z:k+1<r.length;·exact .inl ⟨z,Nat.mod_eq_of_lt z⟩
  ·exact .inr ⟨by lia,by rw [show k+1=r.length by lia,Nat.mod_self]⟩
 have lk:∀(i j:Nat) (hi:i<r.length) (hj:j<r.length),i≠j→(aL n L r[i] r[j]↔j=(i+1) % r.length∨i=(j+1) % r.length):=fun i j hi hj ne=>by
  by_cases ij:i<j
  ·rw [h i j hi hj ij]
   rcases rd i hi with ⟨a1,a2⟩ | ⟨a1,a2⟩ <;> rcases rd j hj with ⟨b1,b2⟩ | ⟨b1,b2⟩ <;> lia
  ·have:aL n L r[i] r[j]↔aL n L r[j] r[i]:=⟨gc _ _,gc _ _⟩
   rw [this,h j i hj hi (by lia)]
   rcases rd i hi with ⟨a1,a2⟩ | ⟨a1,a2⟩ <;> rcases rd j hj with ⟨b1,b2⟩ | ⟨b1,b2⟩ <;> lia
 have uR:(r.map iN).Nodup:=nd.map (f:=iN) fun a b ne e=>ne (by have:(a:Int)=(b:Int):=e;lia)
 refine ⟨by rw [lm];exact m4,uR,?_⟩
 have Vq:L.Nodup:=pw.imp fun h e=>by subst e;unfold lexLt at h;lia
 have Vr:(yt (r.map iN)).Nodup:=by
  unfold yt;rw [lm];refine mZ.mpr (C4 (fun{a b} ha hb ab=>?_) (hI (n:=r.length)));have ha:=bb.mp ha;have hb:=bb.mp hb;intro e;rw [gz a ha,gz b hb,gz _ (nx a ha),gz _ (nx b hb)] at e;injection e with e1 e2;have key:(r[a]=r[b]∧r[(a+1) % r.length]'(nx a ha)=r[(b+1) % r.length]'(nx b hb))∨(r[a]=r[(b+1) % r.length]'(nx b hb)∧r[(a+1) % r.length]'(nx a ha)=r[b]):=by lia
  rcases key with ⟨k1,_⟩ | ⟨k1,k2⟩;·exact ab (inj a b ha hb k1)
  ·have q1:=inj _ _ ha (nx b hb) k1
   have q2:=inj _ _ (nx a ha) hb k2;rcases rd a ha with ⟨a1,a2⟩ | ⟨a1,a2⟩ <;> rcases rd b hb with ⟨b1,b2⟩ | ⟨b1,b2⟩ <;> lia
 refine (qa Vr (Vq.filter _)).mpr fun p=>?_;constructor
 ·intro hp
  unfold yt at hp;rw [lm] at hp;obtain ⟨k,hk,rfl⟩:=bD.mp hp;have hk:=bb.mp hk;rw [gz k hk,gz _ (nx k hk)];have ne:k≠(k+1) % r.length:=by rcases rd k hk with ⟨a1,a2⟩ | ⟨a1,a2⟩ <;> lia
  have e:=(lk k _ hk (nx k hk) ne).mpr (.inl rfl);have mz:∀(i:Nat) (hi:i<r.length),((r[i]:Nat):Int)∈r.map iN:=fun i hi=>bD.mpr ⟨r[i],bT hi,rfl⟩;have m1:=mz k hk;have m2:=mz _ (nx k hk);rcases e.2.2 with q | q
  ·have l:=lt _ q
   dsimp only at l;rw [Int.min_eq_left (by lia),Int.max_eq_right (by lia)]
   exact bI.mpr ⟨q,by simp only [m1,m2,decide_true,Bool.and_self]⟩
  ·have l:=lt _ q
   dsimp only at l;rw [Int.min_eq_right (by lia),Int.max_eq_left (by lia)]
   exact bI.mpr ⟨q,by simp only [m1,m2,decide_true,Bool.and_self]⟩
 ·intro hp
  obtain ⟨hL,hz⟩:=bI.mp hp;rw [lF] at hz;obtain ⟨i',hi,e1⟩:=tu (bD.mp (df hz.1)).choose_spec.1;obtain ⟨j',hj,e2⟩:=tu (bD.mp (df hz.2)).choose_spec.1;have f1:=(bD.mp (df hz.1)).choose_spec.2;have f2:=(bD.mp (df hz.2)).choose_spec.2;rw [←e1] at f1;rw [←e2] at f2;have f1:((r[i']:Nat):Int)=p.1:=f1;have f2:((r[j']:Nat):Int)=p.2:=f2;have l:=lt _ hL;have ne:i'≠j':=fun z=>by subst z;lia
  have ep:(((r[i']:Nat):Int),((r[j']:Nat):Int))=p:=Prod.ext f1 f2;have e:aL n L r[i'] r[j']:=⟨rn _ (bT hi),rn _ (bT hj),.inl (by rw [ep];exact hL)⟩
  unfold yt;rw [lm];rcases (lk i' j' hi hj ne).mp e with q | q
  ·refine bD.mpr ⟨i',bb.mpr hi,?_⟩
   subst q;rw [gz i' hi,gz _ hj,Int.min_eq_left (by lia),Int.max_eq_right (by lia)]
   exact ep
  ·refine bD.mpr ⟨j',bb.mpr hj,?_⟩
   subst q;rw [gz j' hj,gz _ hi,Int.min_eq_right (by lia),Int.max_eq_left (by lia)]
   exact ep
def oV:Option Nat→V
 | none=>.aN
 | some p=>.int (p:Int)
def dy(wl:List (Nat×Option Nat)):List (Key×V):=wl.map fun q=>((Sum.inl (q.1:Int):Key),oV q.2)
def bO(wl:List (Nat×Option Nat)):List Nat:=wl.map (·.1)
theorem Vs(wl:List (Nat×Option Nat)):(dy wl).length=wl.length:=aC ..
theorem kys_len(wl:List (Nat×Option Nat)):(bO wl).length=wl.length:=aC ..
variable {wl:List (Nat×Option Nat)} {k:Nat}
theorem lookup_mem:(wl.lookup k).isSome=true↔k∈bO wl:=by
 induction wl with
 | nil=>simp [bO]
 | cons q r ih=>
  obtain ⟨a,b⟩:=q;unfold bO at ih ⊢;rw [cR,bh,pX];by_cases e:k=a;·subst e;simp
  ·rw [show (k == a)=false from by simpa using e,←ih]
   simp [e]
theorem Bd(wl:List (Nat×Option Nat))(k:Nat):gb (dy wl) (Sum.inl (k:Int):Key)=(wl.lookup k).map oV:=by
 induction wl with
 | nil=>rfl
 | cons q r ih=>
  obtain ⟨a,b⟩:=q;unfold gb dy at ih ⊢;rw [cR,p_,pX];by_cases e:k=a;·subst e;simp
  ·rw [show (k == a)=false from by simpa using e,show decide ((Sum.inl (a:Int):Key)=Sum.inl (k:Int))=false from bL (by simp;lia)]
   exact ih
variable {p:Option Nat}
theorem Fl(h:k∉bO wl):putK (dy wl) (Sum.inl (k:Int):Key) (oV p)=dy (wl++[(k,p)]):=by
 have ha:((dy wl).any fun kv=>decide (kv.1=(Sum.inl (k:Int):Key)))=false:=by
  rw [zD];intro x hx e;obtain ⟨q,hq,rfl⟩:=bD.mp hx;have e:=df e;simp at e;have:q.1=k:=by lia
  exact h (bD.mpr ⟨q,hq,this⟩)
 unfold putK;rw [aa (by rw [ha];decide)]
 unfold dy;rw [fj];rfl
theorem Ly{v:Nat}{o:Option Nat}(h:wl.lookup v=some o):(wl++[(k,p)]).lookup v=some o:=by rw [List.lookup_append,h];rfl
theorem Lz(h:k∉bO wl):(wl++[(k,p)]).lookup k=some p:=by
 have:wl.lookup k=none:=by
  cases e:wl.lookup k with
  | none=>rfl
  | some o=>exact absurd (lookup_mem.mp (by rw [e];rfl)) h
 rw [List.lookup_append,this];simp [List.lookup]
inductive Back (wl:List (Nat×Option Nat)):Nat→List Nat→Prop where
 | last {v:Nat}:wl.lookup v=some none→Back wl v [v]
 | step {v p:Nat} {ws:List Nat}:wl.lookup v=some (some p)→Back wl p ws→Back wl v (v::ws)
variable {ws:List Nat}
theorem Back.more{v:Nat}(h:Back wl v ws):Back (wl++[(k,p)]) v ws:=by
 induction h with
 | last h=>exact .last (Ly h)
 | step h _ ih=>exact .step (Ly h) ih
def mG(E:Nat→Nat→Prop)(wl:List (Nat×Option Nat))(d:Nat):Prop:=∀u,E d u→u∈bO wl
variable {E:Nat→Nat→Prop}
theorem mG.more{q:Nat×Option Nat}{d:Nat}(h:mG E wl d):mG E (wl++[q]) d:=fun u e=>by unfold bO;rw [fj];exact kj _ (h u e)
structure gh (n:Nat) (E:Nat→Nat→Prop) (wl:List (Nat×Option Nat)) (x s:Nat) (c:Option Nat) (h:Nat) (ws:List Nat):Prop where
 bk:Back wl h (h::ws)
 ind:yH E (h::ws)
 nd:(h::ws).Nodup
 away:∀d∈h::ws,d=s∨¬E x d
 nx:x∉h::ws
 lt:∀d∈h::ws,d<n
 lst:(h::ws).getLast?=some s
 sh:∀d∈ws,some d=c∨mG E wl d
variable {x s h:Nat}
theorem gh.more{c:Option Nat}(w:gh n E wl x s c h ws)(q:Nat×Option Nat):gh n E (wl++[q]) x s c h ws:=
 ⟨w.bk.more,w.ind,w.nd,w.away,w.nx,w.lt,w.lst,fun d hd=>(w.sh d hd).imp id mG.more⟩
theorem gh.Fm{c:Nat}(w:gh n E wl x s (some c) h ws)(sc:mG E wl c)(c':Option Nat):gh n E wl x s c' h ws:=
 ⟨w.bk,w.ind,w.nd,w.away,w.nx,w.lt,w.lst,fun d hd=>.inr ((w.sh d hd).elim (fun e=>by cases e;exact sc) id)⟩
theorem gh.Vt(w:gh n E wl x s none h ws)(c':Option Nat):gh n E wl x s c' h ws:=
 ⟨w.bk,w.ind,w.nd,w.away,w.nx,w.lt,w.lst,fun d hd=>.inr ((w.sh d hd).elim (fun e=>by cases e) id)⟩
theorem Back.keys{v:Nat}(h:Back wl v ws):∀d∈ws,d∈bO wl:=by
 induction h with
 | last h=>intro d hd;rw [bS.mp hd];exact lookup_mem.mp (by rw [h];rfl)
 | step h _ ih=>
  intro d hd;rcases bh.mp hd with rfl | hd;·exact lookup_mem.mp (by rw [h];rfl)
  ·exact ih d hd
variable {o:Nat}
theorem gh.fresh(sy:∀a b,E a b→E b a)(w:gh n E wl x s none h ws)(ho:o∉bO wl):(∀d∈ws,¬E o d)∧o∉h::ws:=by
 refine ⟨fun d hd e=>?_,fun z=>ho (w.bk.keys o z)⟩;rcases w.sh d hd with e' | e';·cases e'
 ·exact ho (e' o (sy _ _ e))
structure fK (n:Nat) (E:Nat→Nat→Prop) (wl:List (Nat×Option Nat)) (x s:Nat) (pend:List Nat) (c:Option Nat):Prop where
 xk:x∈bO wl
 sk:s∈bO wl
 nd:(bO wl).Nodup
 lt:∀k∈bO wl,k<n
 near:∀u∈bO wl,u≠x→u≠s→E x u→E s u
 walk:∀u∈bO wl,u≠x→(u=s∨¬E x u)→some u=c∨mG E wl u∨u∈pend
 way:∀h∈pend,∃ws,gh n E wl x s c h ws
theorem Fn{ks:List Nat}(nd:ks.Nodup)(lt:∀k∈ks,k<n):ks.length≤n:=i7.len ⟨nd,lt⟩
section
variable {n:Nat} {E:Nat→Nat→Prop} {wl:List (Nat×Option Nat)} {x s:Nat} {pend:List Nat} {c:Option Nat}
theorem fK.len(b:fK n E wl x s pend c):wl.length≤n:=by rw [←kys_len];exact Fn b.nd b.lt
theorem fK.start(xs:x≠s)(xn:x<n)(sn:s<n):fK n E [(x,none),(s,none)] x s [s] none:=by
 have ks:bO [(x,none),(s,none)]=[x,s]:=rfl;refine ⟨by rw [ks];simp,by rw [ks];simp,by rw [ks];simp [xs],fun k hk=>?_,fun u hu ux us=>?_,fun u hu ux h=>?_,fun h hh=>?_⟩
 ·rw [ks] at hk
  simp at hk;rcases hk with rfl | rfl <;> assumption
 ·rw [ks] at hu
  simp at hu;rcases hu with rfl | rfl;·exact absurd rfl ux
  ·exact absurd rfl us
 ·rw [ks] at hu
  simp at hu;rcases hu with rfl | rfl;·exact absurd rfl ux
  ·exact .inr (.inr (by simp))
 ·rw [bS.mp hh]
  refine ⟨[],.last ?_,⟨(fun b e=>by cases e),(fun d hd=>by simp at hd),trivial⟩,by simp,fun d hd=>.inl (bS.mp hd),fun z=>xs (bS.mp z),fun d hd=>by rw [bS.mp hd];exact sn,rfl,fun d hd=>nomatch hd⟩
  rw [pX,show (s == x)=false from by simpa using Ne.symm xs]
  simp [List.lookup]
theorem fK.opened(b:fK n E wl x s (h::pend) none):fK n E wl x s pend (some h):=
 ⟨b.xk,b.sk,b.nd,b.lt,b.near,fun u hu ux q=>by
  rcases b.walk u hu ux q with e | e | e;·cases e
  ·exact .inr (.inl e)
  ·rcases bh.mp e with rfl | e
   ·exact .inl rfl
   ·exact .inr (.inr e),fun g hg=>let ⟨ws,w⟩:=b.way g (bX _ hg);⟨ws,w.Vt _⟩⟩
theorem fK.Fm(b:fK n E wl x s pend (some h))(sc:mG E wl h):fK n E wl x s pend none:=
 ⟨b.xk,b.sk,b.nd,b.lt,b.near,fun u hu ux q=>by
  rcases b.walk u hu ux q with e | e | e
  ·cases e
   exact .inr (.inl sc)
  ·exact .inr (.inl e)
  ·exact .inr (.inr e),fun g hg=>let ⟨ws,w⟩:=b.way g hg;⟨ws,w.Fm sc _⟩⟩
theorem yI{q:Nat×Option Nat}{u:Nat}:u∈bO (wl++[q])↔u∈bO wl∨u=q.1:=by unfold bO;rw [fj,cZ];simp
theorem fK.met(b:fK n E wl x s pend (some h))(ho:o∉bO wl)(on:o<n)(eo:E x o→E s o)(wo:¬E x o→∃ws,gh n E (wl++[(o,some h)]) x s (some h) o ws){uC:List Nat}(hp:∀u,u∈uC↔u∈pend∨(u=o∧¬E x o)):fK n E (wl++[(o,some h)]) x s uC (some h):=by
 refine ⟨yI.mpr (.inl b.xk),yI.mpr (.inl b.sk),?_,fun k hk=>?_,fun u hu ux us e=>?_,fun u hu ux q=>?_,fun g hg=>?_⟩
 ·unfold bO
  rw [fj,jL];refine ⟨b.nd,by simp,fun a ha b' i8 e=>?_⟩
  have:b'=o:=by simpa using i8
  subst this;subst e;exact ho ha
 ·rcases yI.mp hk with h | rfl
  ·exact b.lt k h
  ·exact on
 ·rcases yI.mp hu with h | rfl
  ·exact b.near u h ux us e
  ·exact eo e
 ·rcases yI.mp hu with h | rfl
  ·rcases b.walk u h ux q with e | e | e
   ·exact .inl e
   ·exact .inr (.inl e.more)
   ·exact .inr (.inr ((hp u).mpr (.inl e)))
  ·rcases q with q | q
   ·exact absurd b.sk (by rw [←q];exact ho)
   ·exact .inr (.inr ((hp _).mpr (.inr ⟨rfl,q⟩)))
 ·rcases (hp g).mp hg with h | ⟨rfl,h⟩
  ·obtain ⟨ws,w⟩:=b.way g h
   exact ⟨ws,w.more _⟩
  ·exact wo h
theorem gh.next(sy:∀a b,E a b→E b a)(w:gh n E wl x s none h ws)(ho:o∉bO wl)(on:o<n)(xk:x∈bO wl)(e:E h o)(nx:¬E x o):gh n E (wl++[(o,some h)]) x s (some h) o (h::ws):=by
 obtain ⟨f1,f2⟩:=w.fresh sy ho;refine ⟨.step (Lz ho) w.bk.more,⟨fun b eb=>?_,fun d hd=>?_,w.ind⟩,gq.mpr ⟨f2,w.nd⟩,fun d hd=>?_,fun hx=>?_,fun d hd=>?_,?_,fun d hd=>?_⟩
 ·have:h=b:=Option.some.inj eb
  rw [←this];exact sy _ _ e
 ·exact f1 d (by simpa using hd)
 ·rcases bh.mp hd with rfl | hd
  ·exact .inr nx
  ·exact w.away d hd
 ·rcases bh.mp hx with rfl | hx
  ·exact ho xk
  ·exact w.nx hx
 ·rcases bh.mp hd with rfl | hd
  ·exact on
  ·exact w.lt d hd
 ·rw [List.getLast?_cons_cons]
  exact w.lst
 ·rcases bh.mp hd with rfl | hd
  ·exact .inl rfl
  ·rcases w.sh d hd with e | e
   ·cases e
   ·exact .inr e.more
theorem fK.no(ir:∀a,¬E a a)(b:fK n E wl x s [] none)(V:List Nat)(z:Nat):¬mF E V x s z:=fun h=>by
 have sx:s≠x:=fun e=>ir x (by have:=h.xy;rw [e] at this;exact this)
 have sh:∀u∈bO wl,u≠x→(u=s∨¬E x u)→mG E wl u:=fun u hu ux q=>by
  rcases b.walk u hu ux q with e | e | e;·cases e
  ·exact e
  ·cases e
 have all:∀u,Wk E (pA E V x) s u→u∈bO wl:=fun u w=>by
  induction w with
  | one e=>exact sh s b.sk sx (.inl rfl) _ e
  | more _ t e ih=>exact sh _ ih t.2.1 (.inr t.2.2) _ e
 exact h.no (b.near z (all z h.wk) (fun e=>ir x (by have:=h.xz;rw [e] at this;exact this)) (Ne.symm h.ne) h.xz)
end
theorem Vu(pw:L.Pairwise lexLt)(lt:∀z∈L,0≤z.1∧z.1<z.2∧z.2<(n:Int))(w:gh n (aL n L) wl x s none h ws)(ho:o∉bO wl)(xk:x∈bO wl)(xs:aL n L x s)(xo:aL n L x o)(so:¬aL n L s o)(e:aL n L h o) :
  qV L ((x::o::h::ws).map iN)∧(x::o::h::ws).Nodup∧∀d∈x::o::h::ws,d<n:=by
 obtain ⟨f1,f2⟩:=w.fresh gc ho;have hs:h≠s:=fun z=>so (by rw [←z];exact e)
 have uS:ws≠[]:=fun z=>by have:=w.lst;rw [z] at this;exact hs (Option.some.inj this)
 have nd:(x::o::h::ws).Nodup:=gq.mpr ⟨fun hx=>by
  rcases bh.mp hx with rfl | hx;·exact ho xk
  ·exact w.nx hx,gq.mpr ⟨f2,w.nd⟩⟩
 have rn:∀d∈x::o::h::ws,d<n:=fun d hd=>by
  rcases bh.mp hd with rfl | hd;·exact xs.1
  ·rcases bh.mp hd with rfl | hd
   ·exact xo.2.1
   ·exact w.lt d hd
 have ind:yH (aL n L) (o::h::ws):=⟨fun b eb=>by have:h=b:=Option.some.inj eb;rw [←this];exact gc _ _ e,fun d hd=>f1 d (by simpa using hd),w.ind⟩
 have lw:1≤ws.length:=Nat.pos_of_ne_zero fun z=>uS (List.eq_nil_of_length_eq_zero z);refine ⟨Vp pw lt (by simp;lia) nd rn fun i j hi hj ij=>?_,nd,rn⟩
 have ls:(h::ws)[ws.length]?=some s:=by have:=w.lst;rw [List.getLast?_eq_getElem?] at this;simpa using this
 cases i with
 | zero=>
  obtain ⟨j,rfl⟩:∃k,j=k+1:=⟨j-1,by lia⟩
  simp only [C6,xc];have d6:j<(o::h::ws).length:=by simpa using hj
  have hl:(x::o::h::ws).length-1=ws.length+2:=by simp
  rw [hl];cases j with
  | zero=>simp only [C6];simp [xo]
  | succ j=>
   simp only [xc];have yJ:j<(h::ws).length:=by simpa using d6
   have lj:j≤ws.length:=by simp at yJ;lia
   constructor
   ·intro q
    refine .inr ⟨trivial,?_⟩;rcases w.away _ (bT yJ) with z | z
    ·have e1:(h::ws)[j]?=some s:=by rw [bu yJ,z]
     have:j=ws.length:=(List.getElem?_inj yJ w.nd).mp (e1.trans ls.symm);lia
    ·exact absurd q z
   ·rintro (q | ⟨_,q⟩)
    ·lia
    ·have:j=ws.length:=by lia
     subst this;rw [bu yJ] at ls;rw [Option.some.inj ls];exact xs
 | succ i=>
  obtain ⟨j,rfl⟩:∃k,j=k+1:=⟨j-1,by lia⟩
  simp only [xc];rw [ind.at i j (by simpa using hi) (by simpa using hj) (by lia)]
  lia
structure Fo (n:Nat) (L:au) (D:Addr) (ds:Nat→Addr) (f:Nat→List Nat):Prop where
 inj:∀i j,i<n→j<n→ds i=ds j→i=j
 ne:∀i,i<n→ds i≠D
 pl:∀i,i<n→i7 n (f i)
 nb:d7 n L f
def iJ(n:Nat)(ds:Nat→Addr)(H H':Hp):Prop:=∀b o,H b=some o→((∀i,i<n→b≠ds i)∨∃ob u,o=.bg ob u)→H' b=some o
theorem LA{tl:TE}{σ:St}{H:Hp}{R:It→Hp→Prop}{a:Addr}{kvs:List (Key×V)}(hp:∀Q:VK,Q (.ref a) H→tl σ H Q)(h:H a=some (.dK kvs)∨∃ob,H a=some (.bg ob (.dK kvs)))
  (k:∀(ob:Obj) (Hf:Hp),Hf a=some (.bg ob (.dK kvs))→(∀b u,b≠a→H b=some u→Hf b=some u)→(∀yK u,H a=some (.bg yK u)→Hf a=some (.bg yK u))→R (i5 a ob kvs) Hf):EE tl σ H R:=hp _ ⟨a,kvs,rfl,by
 rcases h with e | ⟨ob,e⟩;·exact .inl ⟨e,fun o=>k o _ av (fun b u ne hb=>by rw [aH ne];exact hb) fun yK u e'=>by rw [e] at e';cases e'⟩
 ·exact .inr ⟨ob,e,k ob H e (fun _ _ _ h=>h) fun _ _ h=>h⟩⟩
def Vv:Sp:=fun vs H Q _=>∃(D wd:Addr) (n:Nat) (L:au) (ds:Nat→Addr) (f:Nat→List Nat) (wl:List (Nat×Option Nat)) (p:Nat),vs=[.ref D,.ref wd,.int (p:Int)]∧Fo n L D ds f∧dO H D n ds f∧H wd=some (.dK (dy wl))∧(∀i,i<n→wd≠ds i)∧p<n∧n≤900 ∧
 ∀(H':Hp) (r:Addr),iJ n ds H H'→dO H' D n ds f→H r=none→H' r=some (.lst (((f p).filter fun q=>!decide (q∈bO wl)).map fun k:Nat=>V.int (k:Int)))→Q (.ref r) H'
def Vw:Sp:=fun vs H Q _=>∃(wd:Addr) (wl:List (Nat×Option Nat)) (v:Nat) (ws:List Nat),vs=[.ref wd,.int (v:Int)]∧H wd=some (.dK (dy wl))∧Back wl v ws∧ws.length≤900 ∧
 ∀(H':Hp) (r:Addr),aj H H'→H r=none→H' r=some (.lst (ws.map fun k:Nat=>V.int (k:Int)))→Q (.ref r) H'
def Vx:Sp:=fun vs H Q _=>∃(D:Addr) (n:Nat) (L:au) (ds:Nat→Addr) (f:Nat→List Nat) (x s:Nat),vs=[.ref D,.int (x:Int),.int (s:Int)]∧Fo n L D ds f∧dO H D n ds f∧L.Pairwise lexLt∧(∀z∈L,0≤z.1∧z.1<z.2∧z.2<(n:Int))∧aL n L x s∧n≤900 ∧
 (∀H',iJ n ds H H'→dO H' D n ds f→(∀V z,¬mF (aL n L) V x s z)→Q .aN H') ∧
 ∀(H':Hp) (r:Addr) (zs:List Nat),iJ n ds H H'→H r=none→H' r=some (.lst (zs.map fun k:Nat=>V.int (k:Int)))→qV L (zs.map iN)→zs.Nodup→(∀d∈zs,d<n)→Q (.ref r) H'
def Vy:Sp:=fun vs H Q _=>∃(tp:Addr) (n:Nat) (L:au),vs=[.ref tp]∧cY H tp n L∧L.Pairwise lexLt∧(∀z∈L,0≤z.1∧z.1<z.2∧z.2<(n:Int))∧n≤900 ∧
 (∀H',aj H H'→(∀x y z,¬mF (aL n L) (List.range n) x y z)→Q .aN H') ∧
 ∀(H':Hp) (r:Addr) (zs:List Nat),aj H H'→H r=none→H' r=some (.lst (zs.map fun k:Nat=>V.int (k:Int)))→qV L (zs.map iN)→zs.Nodup→(∀d∈zs,d<n)→Q (.ref r) H'
def Vz(Pt:Addr)(pl:Pos):Sp:=fun vs H Q _=>∃(tp:Addr) (n:Nat) (L:au),vs=[.ref tp]∧cY H tp n L∧L.Pairwise lexLt∧(∀z∈L,0≤z.1∧z.1<z.2∧z.2<(n:Int))∧n≤30∧cG Pt pl gg H ∧
 (∀(H':Hp) (T D:Addr) (o:List Nat),cO Pt H H'→cG Pt pl gg H'→H T=none→H D=none→H' T=some (.tup [.str "order",.ref D])→H' D=some (.lst (o.map fun k:Nat=>V.int (k:Int)))→o.Perm (List.range n)→b9 n L o L→Q (.ref T) H') ∧
 ∀(H':Hp) (T D:Addr) (zs:List Nat),cO Pt H H'→cG Pt pl gg H'→H T=none→H D=none→H' T=some (.tup [.str "ring",.ref D])→H' D=some (.lst (zs.map fun k:Nat=>V.int (k:Int)))→qV L (zs.map iN)→zs.Nodup→(∀d∈zs,d<n)→(∀o:List Nat,o.Perm (List.range n)→¬b9 n L o L)→Q (.ref T) H'
end My
namespace L2
open PySem PySem.Spec PyProof.Rows
end L2
namespace My
open PySem L2 Classical
noncomputable def uT (n:Nat) (L:au) (i:Nat):List Nat:=(List.range n).filter fun j=>decide (aL n L i j)
variable {n:Nat} {L:au}
theorem VA(cm:eB n L):d7 n L (uT n L):=fun i j hi=>by
 unfold uT;rw [bI,bb,fk];constructor;·exact fun h=>h.2.2.2
 ·intro h
  have:j<n:=by rcases h with h | h <;> (have:=cm _ h;lia)
  exact ⟨this,hi,this,h⟩
variable {S:List Nat} {p:Nat}
theorem LB(cm:eB n L)(pn:p<n)(l:List Nat)(nd:l.Nodup)(h:∀x,x∈l↔x≠p∧x∉S∧fh (aL n L) (·∈S) p x):iH n L S p=(l.length:Int)*l.length+3*l.length+1:=by
 have ra:∀{x},fh (g8 n (uT n L)) (·∈S) p x↔fh (aL n L) (·∈S) p x:=fun{x}=>by
  have e:∀a b,g8 n (uT n L) a b↔aL n L a b:=fun a b=>by unfold g8 uT;rw [bI,bb,fk];exact ⟨fun h=>h.2.2,fun h=>⟨h.1,h.2.1,h⟩⟩
  constructor
  ·intro h
   induction h with
   | start=>exact .start
   | step _ t a ih=>exact .step ih t ((e _ _).mp a)
  ·intro h
   induction h with
   | start=>exact .start
   | step _ t a ih=>exact .step ih t ((e _ _).mpr a)
 have rn:∀{x},fh (aL n L) (·∈S) p x→x<n:=fun h=>by
  cases h with
  | start=>exact pn
  | step _ _ a=>exact a.2.1
 refine (E5 (VA cm) ⟨(List.range n).filter fun x=>decide (fh (g8 n (uT n L)) (·∈S) p x),⟨hI.filter _,fun k hk=>bb.mp (bI.mp hk).1⟩,fun x=>?_,?_⟩).symm
 ·rw [bI,bb,fk]
  exact ⟨fun h=>h.2,fun h=>⟨rn (ra.mp h),h⟩⟩
 ·refine List.Perm.length_eq ((qa nd ((hI.filter _).filter _)).mpr fun x=>?_)
  rw [h,bI,bI,bb,fk,ra,lF,Bool.not_eq_true',Bool.not_eq_true',decide_eq_false_iff_not,decide_eq_false_iff_not];exact ⟨fun⟨a,b,c⟩=>⟨⟨rn c,c⟩,a,b⟩,fun⟨⟨_,c⟩,a,b⟩=>⟨a,b,c⟩⟩
open PySem L2
structure Fp (n:Nat) (L L':au) (f:Nat→Nat):Prop where
 lt:∀k,k<n→f k<n
 inj:∀j k,j<n→k<n→f j=f k→j=k
 VB:∀x,x<n→∃k,k<n∧f k=x
 a9:∀j k,j<n→k<n→(aL n L' (f j) (f k)↔aL n L j k)
theorem Fp.cost{L':au}{f:Nat→Nat}(r:Fp n L L' f)(cm:eB n L)(VC:eB n L'){S':List Nat}(hS:∀x,x<n→(f x∈S'↔x∈S))(pn:p<n):iH n L' S' (f p)=iH n L S p:=by
 let l:=(List.range n).filter fun x=>decide (x≠p∧x∉S∧fh (aL n L) (·∈S) p x)
 have rn:∀{x},fh (aL n L) (·∈S) p x→x<n:=fun h=>by
  cases h with
  | start=>exact pn
  | step _ _ a=>exact a.2.1
 have hl:∀x,x∈l↔x≠p∧x∉S∧fh (aL n L) (·∈S) p x:=fun x=>by show x∈(List.range n).filter _↔_;rw [bI,bb,fk];exact ⟨fun h=>h.2,fun h=>⟨rn h.2.2,h⟩⟩
 have nd:l.Nodup:=hI.filter _;have to:∀{x},fh (aL n L) (·∈S) p x→fh (aL n L') (·∈S') (f p) (f x):=fun h=>by
  induction h with
  | start=>exact .start
  | @step y z hy t a ih=>
   refine .step ih ?_ ((r.a9 y z a.1 a.2.1).mpr a);rcases t with t | t;·exact .inl (by rw [t])
   ·exact .inr ((hS y a.1).mpr t)
 have VD:∀{y},fh (aL n L') (·∈S') (f p) y→∃x,x<n∧y=f x∧fh (aL n L) (·∈S) p x:=fun h=>by
  induction h with
  | start=>exact ⟨p,pn,rfl,.start⟩
  | @step y z hy t a ih=>
   obtain ⟨x,xn,rfl,hx⟩:=ih;obtain ⟨u,un,rfl⟩:=r.VB z a.2.1;refine ⟨u,un,rfl,.step hx ?_ ((r.a9 x u xn un).mp a)⟩;rcases t with t | t;·exact .inl (r.inj x p xn pn t)
   ·exact .inr ((hS x xn).mp t)
 have VE:(l.map f).Nodup:=by rw [ou,mZ];exact (ou.mp nd).imp_of_mem fun{a b} ha hb ne e=>ne (r.inj a b (rn ((hl a).mp ha).2.2) (rn ((hl b).mp hb).2.2) e)
 rw [LB cm pn l nd hl,LB VC (r.lt p pn) (l.map f) VE fun y=>?_,aC];rw [bD];constructor
 ·rintro ⟨x,hx,rfl⟩
  obtain ⟨h1,h2,h3⟩:=(hl x).mp hx;exact ⟨fun e=>h1 (r.inj x p (rn h3) pn e),fun h=>h2 ((hS x (rn h3)).mp h),to h3⟩
 ·rintro ⟨h1,h2,h3⟩
  obtain ⟨x,xn,rfl,hx⟩:=VD h3;exact ⟨x,(hl x).mpr ⟨fun e=>h1 (by rw [e]),fun h=>h2 ((hS x xn).mpr h),hx⟩,rfl⟩
end My
namespace L2
open PySem PySem.Spec PyProof.Rows My
section
variable {X:Cx}
end
end L2
namespace My
open PySem L2
end My
namespace L2
open PySem PySem.Spec PyProof.Rows My
end L2
namespace My
open PySem L2
end My
namespace L2
open PySem PySem.W PyProof.Rows My
section
variable {prog:Program} {w:World} {A:Around} {E:aM} {s:Shared}
end
end L2
namespace My
open PySem L2 Classical
open PySem L2
end My
namespace L2
open PySem PySem.Spec PyProof.Rows
end L2
namespace My
open PySem L2
open PySem L2 Classical
def LC:R2:=fun x y H Q=>∃(b lt:Addr) (us:List V) (L:au) (p:Int×Int),x=.ref b∧y=.ref lt∧H b=some (.tup [.int p.1,.int p.2])∧H lt=some (.tup us)∧aY H us L∧Q (.bl (!decide (p∈L))) H
variable {X:Cx}
theorem VF(hu:X.A.units+64<cLine):da X (compareOp .NotIn) LC:=by
 intro pins s σ H x y v u Q I rx ry h;obtain ⟨b,lt,us,L,p,rfl,rfl,hb,hl,hL,q⟩:=h;cases rx;cases ry;obtain ⟨its,rv,t1,_⟩:=I.tuple (.of hl);have at':∀(i:Nat) (v:Value),its[i]?=some v→∃b' q',v=.ref b'∧H b'=some (.tup [.int (q':Int×Int).1,.int q'.2])∧L[i]?=some q':=fun i v hi=>by
  have hlen:=rv.length;have bF:=(cu.mp hi).1;have Fq:i<L.length:=by rw [←hL.1];lia
  have l7:us[i]?=some us[i]:=bu (by lia)
  obtain ⟨b',e1,e2⟩:=hL.2 i us[i] L[i] l7 (bu Fq);obtain ⟨w',ew,eI⟩:=rv.get l7;rw [hi] at ew;cases ew;rw [e1] at eI;exact ⟨b',L[i],eI,e2,bu Fq⟩
 let e:Value→Bool:=fun v=>decide (∃b',v=.ref b'∧H b'=some (.tup [.int p.1,.int p.2]))
 have ev:∀{b':Addr} {q':Int×Int},H b'=some (.tup [.int q'.1,.int q'.2])→e (.ref b')=decide (q'=p):=fun{b' q'} h=>by
  show decide _=decide _;refine mW.mpr ⟨fun⟨b2,e1,e2⟩=>?_,fun h'=>⟨b',rfl,by rw [h,h']⟩⟩
  cases e1;rw [h] at e2;simp only [tH,HO.tup.injEq,List.cons.injEq,V.int.injEq,and_true] at e2;exact Prod.ext e2.1 e2.2
 refine SeqAt.notIn_tupleAt e t1 (fun y hy=>?_) ?_
 ·obtain ⟨i,hi⟩:=xf (by simpa using hy)
  obtain ⟨b',q',rfl,e2,_⟩:=at' i y hi;rw [ev e2];exact Kn I (by rw [zN];lia) e2 hb
 ·have:its.toArray.any e=decide (p∈L):=by
   rw [List.any_toArray];cases hd:decide (p∈L) with
   | true=>
    obtain ⟨i,hi⟩:=xf (df hd);have Fq:=(cu.mp hi).1;have LD:i<its.length:=by have:=rv.length;have:=hL.1;lia
    obtain ⟨b',q',e1,e2,e3⟩:=at' i its[i] (bu LD);rw [hi] at e3;cases e3;refine zM.mpr ⟨its[i],bT LD,?_⟩;rw [e1,ev e2];exact a_ rfl
   | false=>rw [zD];intro v hv;obtain ⟨i,hi⟩:=xf hv;obtain ⟨b',q',rfl,e2,e3⟩:=at' i v hi;rw [ev e2];intro h;have:=df h;subst this;exact of_decide_eq_false hd (kq e3)
  rw [this];exact ⟨.bl _,H,I,rfl,q⟩
theorem LF{K:aE}(hu:X.A.units+64<cLine)(_hk:X.K=K:=by rfl):da X (compareOp .NotIn) LC:=VF hu
variable {o:List Nat}
theorem VG{n:Nat}{L M:au}(ho:o.Perm (List.range n))(f:b9 n L o M)(lt:∀z∈L,0≤z.1∧z.1<z.2∧z.2<(n:Int)):∀z∈L,z∈M:=fun z hz=>by
 have h:=lt z hz;obtain ⟨i,j⟩:=z;obtain ⟨a,rfl⟩:=gA h.1;obtain ⟨b,rfl⟩:=gA (show 0≤j by have:=h.2;simp only at this;lia)
 simp only at h;have ha:a<n:=by lia
 have hb:b<n:=by lia
 have ne:=k6 ho ha hb (by lia)
 have:rL M a b=true:=by
  by_cases ab:o.idxOf a<o.idxOf b;·exact (mB f ha hb ab).mpr (.one ⟨ha,hb,.inl hz⟩)
  ·rw [yw]
   exact (mB f hb ha (by lia)).mpr (.one ⟨hb,ha,.inr hz⟩)
 rcases iG.mp this with h' | h';·exact h'
 ·have:=f.lt _ h'
  simp only at this;lia
variable {a b:Nat}
theorem LG(h:a<b):dt a b=((a:Int),(b:Int)):=by unfold dt;rw [aa (by lia),ae (by lia)]
theorem LH(h:b<a):dt a b=((b:Int),(a:Int)):=by unfold dt;rw [ae (by lia),aa (by lia)]
theorem pB{o':List Nat}(e':o.map iN=o'.map iN):o'=o:=by
 have:=dP (List.map Int.toNat) e'
 rw [cI,cI] at this
 have LI:∀l:List Nat,l.map (Int.toNat ∘ iN)=l:=fun l=>by
  conv=>rhs;rw [←tI l]
  exact hE fun k _=>cQ k
 rw [LI,LI] at this
 exact this.symm
end My
namespace L2
open PySem PySem.Spec PyProof.Rows
section
variable {prog:Program} {w:World} {A:Around} {E:aM} {s:Shared}
end
section
variable {X:Cx} {tg:Expr}
end
section
variable {prog:Program} {w:World} {K:Type} [DecidableEq K] {knd:HeapKind prog w K} {A:Around} {E:aM} {s:Shared}
end
section
variable {prog:Program} {w:World} {A:Around} {E:aM} {s:Shared}
end
section
variable {X:Cx} {pins:aK} {σ:St} {H:Hp} {s:Shared}
end
section
variable {X:Cx} {tg:Expr}
end
open PySem PySem.W PyProof.Rows My
end L2
namespace My
open PySem L2
end My
namespace L2
open PySem
end L2
namespace My
end My
namespace L2
open PySem My
open PySem
theorem Be{t:TE}{a b:TS}{D:Ends}{σ:St}{H:Hp}(h:tB t σ H fun b' H1=>if b'=true then a D σ H1 else b D σ H1):zY (tB t) a b D σ H:=h
open PySem PySem.Spec PyProof.Rows
section
variable {prog:Program} {w:World} {A:Around} {E:aM} {s:Shared}
end
section
variable {X:Cx}
end
section
variable {X:Cx} {tg:Expr}
end
end L2
namespace My
open PySem L2
variable {f:Nat→Nat}
theorem Wk.map{a9 yu:Nat→Nat→Prop}{bA pb:Nat→Prop}(ha:∀x y,a9 x y→yu (f x) (f y))(ht:∀x,bA x→pb (f x)){s b:Nat}(h:Wk a9 bA s b):Wk yu pb (f s) (f b):=by
 induction h with
 | one h=>exact .one (ha _ _ h)
 | more _ t a ih=>exact .more ih (ht _ t) (ha _ _ a)
theorem idx_map{f:Nat→Nat}{x:Nat}:∀{o:List Nat},(∀y∈o,f y=f x→y=x)→(o.map f).idxOf (f x)=o.idxOf x
 | [],_=>rfl
 | y::o,h=>by
  rw [cR,tJ,tJ];by_cases e:y=x
  ·subst e
   rw [pW,pW];rfl
  ·have e':¬f y=f x:=fun z=>e (h y bV z)
   rw [idx_map fun z hz=>h z (bX _ hz)];rw [n5.mpr e,n5.mpr e']
theorem LJ{ws:List Int}{l:List Nat}(pm:ws.Perm (l.map iN))(so:ws.Pairwise (·≤·))(up:l.Pairwise (· < ·)):ws=l.map iN:=by
 refine List.Perm.eq_of_pairwise (le:=(·≤·)) (fun a b _ _ h1 h2=>by lia) so ?_ pm
 rw [mZ];exact up.imp fun h=>by unfold iN;lia
variable {n:Nat}
theorem Bf{S:List Nat}(h:S∈g9 n):S.length≤n:=Fn ((eV.mp h).1.imp fun z e=>by lia) (eV.mp h).2
theorem VH{K:aE}{wi:TI}{ρ:St→St}{σ:St}{H:Hp}{Q:VK}{l:Addr}{o:List Nat}(dR:∀R:It→Hp→Prop,(∀J H1,aj H H1→iX J (o.map fun k:Nat=>V.int (k:Int)) H1→R J H1)→wi σ H R)(hρ:ρ σ=[some (.ref l)])
  (el:H l=some (.lst ((List.range n).map fun k=>V.int (f k:Int)))) (ho:∀x∈o,x<n) (len:o.length≤1000) (fin:∀D Hc,H D=none→aj H Hc→Hc D=some (.lst ((o.map f).map fun k:Nat=>V.int (k:Int)))→Q (.ref D) Hc):e_ wi ρ (fun _ H Q=>Q true H) (lR (DF K) (zW 1) (zW 0)) σ H Q:=by
 refine x6 (xs:=o.map fun k:Nat=>V.int (k:Int)) dR (by rw [aC];exact cj len) (fun _ i y _=>∃k,o[i]?=some k∧y=.int (f k:Int)) (fun _ _ _ _ _ _ h _ _=>h) ?_ ?_
 ·intro D i x hx Hc R sc _ kc
  rw [bq] at hx;cases e:o[i]? with
  | none=>rw [e] at hx;cases hx
  | some k=>rw [e] at hx;cases hx;have hk:=ho k (kq e);rw [hρ];refine ⟨_,rfl,_,rfl,l,_,(k:Int),.int (f k:Int),rfl,rfl,.of (sc _ _ el),iU ?_,kc _ Hc (aj.refl _) ⟨k,e,rfl⟩⟩;rw [bq,jK hk];rfl
 ·intro D ys Hc nD sc ly hP eD
  refine fin D Hc nD sc ?_;rw [eD]
  congr 2
  rw [aC] at ly;refine hG (by rw [aC,aC,ly]) fun i h1 h2=>?_
  obtain ⟨k,e1,e2⟩:=hP i _ (bu h1);rw [e2,fD,fD];rw [bu (by lia)] at e1
  rw [Option.some.inj e1]
theorem LK:∀l:List Nat,p2 (fun _ _=>1) l≤l.length*l.length / 2
 | []=>bY _
 | x::l=>by
  have ih:=LK l;show (l.map fun _=>1).sum+p2 (fun _ _=>1) l≤(l.length+1)*(l.length+1) / 2;have e:(l.map fun _=>1).sum=l.length:=by
   clear ih
   induction l with
   | nil=>rfl
   | cons y l ih=>rw [cR,fm,ih,dY];lia
  rw [e];have:(l.length+1)*(l.length+1)=l.length*l.length+2*l.length+1:=by rw [Nat.add_mul,Nat.mul_add];lia
  rw [this];generalize l.length*l.length=q at ih ⊢;lia
theorem Fs{M:au}(nd:M.Nodup)(lt:∀z∈M,0≤z.1∧z.1<z.2∧z.2<(n:Int)):M.length≤n*n / 2:=by
 rw [yy nd lt];refine bR (A1 (g':=fun _ _=>1) fun x _ y _=>?_) ?_
 ·unfold kd
  split <;> decide
 ·have:=LK (List.range n)
  rw [dI] at this;exact this
end My
namespace L2
open PySem
theorem Ft{te:TE}{t:TA}{σ:St}{H:Hp}{Q:List V→Hp→Prop}(h:te σ H fun x H1=>t σ H1 fun xs H2=>Q (x::xs) H2):qz te t σ H Q:=h
end L2
namespace My
open PySem L2
theorem VI{K:aE}{a:Addr}{xs:List V}{H1:Hp}(h:H1 a=some (.tup xs)):iX (ni K a) xs H1 where
 go:=fun i Hc s hi=>⟨xs,xs[i],.of (s _ _ h),by simp [hi]⟩
 eY:=fun i Hc x H' s y=>⟨y.1,fun _=>y.2 xs (.of (s _ _ h))⟩
 stop:=fun i Hc s hi=>⟨xs,.of (s _ _ h),hi⟩
variable {n:Nat} {L M M1:au} {o:List Nat}
theorem VJ{L1:au}(sub:∀z∈L1,z∈L)(f:b9 n L o M)(f1:b9 n L1 o M1):∀z∈M1,z∈M:=fun z hz=>by obtain ⟨p,q,hp,hq,i,w,e⟩:=(f1.2 z).mp hz;exact (f.2 z).mpr ⟨p,q,hp,hq,i,w.imp fun a b h=>⟨h.1,h.2.1,h.2.2.imp (sub _) (sub _)⟩,e⟩
theorem VL(sub:∀z∈M1,z∈M)(nd:M.Nodup)(LL:M1.Nodup)(lt:∀z∈M,0≤z.1∧z.1<z.2∧z.2<(n:Int)):nK n M1≤nK n M:=by
 have sr:∀a b:Nat,rL M1 a b=true→rL M a b=true:=fun a b h=>iG.mpr ((iG.mp h).imp (sub _) (sub _));have h1:p2 (kd (rL M1)) (List.range n)≤p2 (kd (rL M)) (List.range n):=A1 fun x _ y _=>by
  unfold kd;by_cases h:rL M1 x y
  ·rw [ae h,ae (sr x y h)]
   exact ax _
  ·rw [aa h]
   exact bY _
 have h2:A2 n M1≤A2 n M:=Ul fun x _ y _ z _=>by
  unfold jz;by_cases h:(rL M1 x y && rL M1 x z && rL M1 y z)=true
  ·rw [ae h]
   rw [lF,lF] at h;rw [sr x y h.1.1,sr x z h.1.2,sr y z h.2];exact ax _
  ·rw [aa h]
   exact bY _
 unfold nK;rw [yy LL fun z hz=>lt z (sub z hz),yy nd lt];lia
structure mH (L:au) (S:List Nat) (L2:au):Prop where
 pw:L2.Pairwise lexLt
 mem:∀z,z∈L2↔∃(a b:Nat) (ha:a<S.length) (hb:b<S.length),a<b∧z=((a:Int),(b:Int))∧((S[a]:Int),(S[b]:Int))∈L
variable {S:List Nat} {L2:au}
theorem mH.lt(s:mH L S L2):∀z∈L2,0≤z.1∧z.1<z.2∧z.2<(S.length:Int):=fun z hz=>by obtain ⟨a,b,ha,hb,ab,rfl,_⟩:=(s.mem z).mp hz;simp only;lia
variable {a b:Nat}
theorem Bg(h:S∈g9 n)(ha:a<S.length)(hb:b<S.length):S[a]<S[b]↔a<b:=by
 have up:=(eV.mp h).1;constructor
 ·intro z
  refine gB fun c=>?_;rcases Nat.lt_trichotomy a b with y | y | y;·exact c y
  ·subst y
   lia
  ·have:=oq.mp up b a hb ha y
   lia
 ·exact oq.mp up a b ha hb
theorem mH.a9(s:mH L S L2)(hS:S∈g9 n)(lt:∀z∈L,0≤z.1∧z.1<z.2∧z.2<(n:Int))(ha:a<S.length)(hb:b<S.length):aL S.length L2 a b↔aL n L S[a] S[b]:=by
 have fJ:=(eV.mp hS).2;have key:∀(x y:Nat) (hx:x<S.length) (hy:y<S.length),((x:Int),(y:Int))∈L2↔((S[x]:Int),(S[y]:Int))∈L:=fun x y hx hy=>by
  rw [s.mem];constructor
  ·rintro ⟨p,q,hp,hq,pq,e,h⟩
   injection e with e1 e2;have:x=p:=by lia
   have:y=q:=by lia
   subst x y;exact h
  ·intro h
   have:=lt _ h;simp only at this;exact ⟨x,y,hx,hy,(Bg hS hx hy).mp (by lia),rfl,h⟩
 unfold aL;rw [key a b ha hb,key b a hb ha];exact ⟨fun h=>⟨fJ _ (bT ha),fJ _ (bT hb),h.2.2⟩,fun h=>⟨ha,hb,h.2.2⟩⟩
def jA(S o:List Nat):List Nat:=(o.filter fun p=>decide (p∈S)).map fun p=>S.idxOf p
theorem mI(nd:S.Nodup)(ha:a<S.length):S.idxOf S[a]=a:=by have h1:S.idxOf S[a]<S.length:=qb.mpr (bT ha);exact (lC nd).mp (tG h1)
theorem mJ{x y:Nat}{l:List Nat}(h:x≠y):(x::l).idxOf y=l.idxOf y+1:=by rw [tJ,n5.mpr h];rfl
theorem LM{pr:Nat→Bool}:∀{o:List Nat} {x y:Nat},x∈o→y∈o→pr x=true→pr y=true→((o.filter pr).idxOf x<(o.filter pr).idxOf y↔o.idxOf x<o.idxOf y)
 | [],_,_,h,_,_,_=>absurd h (mR)
 | z::o,x,y,hx,hy,px,py=>by
  by_cases e:z=x
  ·subst e
   rw [tL px];by_cases e2:z=y
   ·subst e2
    exact ⟨fun h=>absurd h (eE _),fun h=>absurd h (eE _)⟩
   ·rw [jg,mJ e2,jg,mJ e2]
    exact ⟨fun _=>Nat.succ_pos _,fun _=>Nat.succ_pos _⟩
  ·by_cases e2:z=y
   ·subst e2
    rw [tL py,jg,jg];exact ⟨fun h=>absurd h (je _),fun h=>absurd h (je _)⟩
   ·have VM:x∈o:=(bh.mp hx).resolve_left (Ne.symm e)
    have qB:y∈o:=(bh.mp hy).resolve_left (Ne.symm e2);have ih:=LM (pr:=pr) VM qB px py;rw [mJ e,mJ e2];by_cases pz:pr z=true
    ·rw [tL pz,mJ e,mJ e2]
     lia
    ·rw [zP pz]
     lia
section
variable {n:Nat} {S o:List Nat} (hS:S∈g9 n) (ho:o.Perm (List.range n))
include hS ho
theorem LN(ha:a<S.length)(hb:b<S.length):(jA S o).idxOf a<(jA S o).idxOf b↔o.idxOf S[a]<o.idxOf S[b]:=by
 have nd:S.Nodup:=(eV.mp hS).1.imp fun z e=>by lia
 have hl:=(eV.mp hS).2;have e:∀(c:Nat) (hc:c<S.length),(jA S o).idxOf c=(o.filter fun p=>decide (p∈S)).idxOf S[c]:=fun c hc=>by
  unfold jA;have:=idx_map (f:=fun p=>S.idxOf p) (x:=S[c]) (o:=o.filter fun p=>decide (p∈S)) fun y hy e=>by have qB:y∈S:=df (bI.mp hy).2;have h1:S.idxOf y<S.length:=qb.mpr qB;rw [mI nd hc] at e;have:=tG h1;simp only [e] at this;exact this.symm
  rw [mI nd hc] at this;exact this
 rw [e a ha,e b hb];exact LM (ho.mem_iff.mpr (bb.mpr (hl _ (bT ha)))) (ho.mem_iff.mpr (bb.mpr (hl _ (bT hb)))) (a_ (bT ha)) (a_ (bT hb))
theorem Fu:(jA S o).Perm (List.range S.length):=by
 have nd:S.Nodup:=(eV.mp hS).1.imp fun z e=>by lia
 have hl:=(eV.mp hS).2;have Bh:o.Nodup:=ho.nodup_iff.mpr hI;have VN:(o.filter fun p=>decide (p∈S)).Nodup:=Bh.filter _;refine (qa ?_ hI).mpr fun x=>?_
 ·unfold jA
  rw [ou,mZ];refine (ou.mp VN).imp_of_mem fun{a b} ha hb ne e=>ne ?_;have h1:S.idxOf a<S.length:=qb.mpr (df (bI.mp ha).2);have h2:S.idxOf b<S.length:=qb.mpr (df (bI.mp hb).2);have g1:=tG h1;have g2:=tG h2;simp only [e] at g1;exact g1.symm.trans g2
 ·unfold jA
  rw [bD,bb];constructor
  ·rintro ⟨y,hy,rfl⟩
   exact qb.mpr (df (bI.mp hy).2)
  ·intro hx
   exact ⟨S[x],bI.mpr ⟨ho.mem_iff.mpr (bb.mpr (hl _ (bT hx))),a_ (bT hx)⟩,mI nd hx⟩
theorem LO{M2 M3:au}(s:mH L S L2)(s3:mH M S M3)(lt:∀z∈L,0≤z.1∧z.1<z.2∧z.2<(n:Int))(f:b9 n L o M)(f2:b9 S.length L2 (jA S o) M2):∀z∈M2,z∈M3:=fun z hz=>by
 have hl:=(eV.mp hS).2;obtain ⟨p,q,hp,hq,i,w,rfl⟩:=(f2.2 z).mp hz
 let g:Nat→Nat:=fun x=>S.getD x 0
 have gx:∀x (hx:x<S.length),g x=S[x]:=fun x hx=>by show S.getD x 0=_;rw [du,bu hx];rfl
 have w':Wk (aL n L) (dH n o (o.idxOf (g p))) (g p) (g q):=Wk.map (f:=g) (fun x y h=>by
  rw [gx x h.1,gx y h.2.1];exact (s.a9 hS lt h.1 h.2.1).mp h) (fun x ⟨x1,x2⟩=>by
  rw [gx x x1,gx p hp];exact ⟨hl _ (bT x1),(LN hS ho x1 hp).mp x2⟩) w
 rw [gx p hp,gx q hq] at w';have hM:dt S[p] S[q]∈M:=(f.2 _).mpr ⟨S[p],S[q],hl _ (bT hp),hl _ (bT hq),(LN hS ho hp hq).mp i,w',rfl⟩;have ne:p≠q:=fun e=>by subst e;lia
 rw [s3.mem];rcases Nat.lt_or_ge p q with h | h
 ·rw [LG ((Bg hS hp hq).mpr h)] at hM
  exact ⟨p,q,hp,hq,h,by rw [LG h],hM⟩
 ·have h:q<p:=by lia
  rw [LH ((Bg hS hq hp).mpr h)] at hM;exact ⟨q,p,hq,hp,h,by rw [LH h],hM⟩
theorem VO(s:mH L S L2)(lt:∀z∈L,0≤z.1∧z.1<z.2∧z.2<(n:Int))(f:b9 n L o L):b9 S.length L2 (jA S o) L2:=by obtain ⟨M2,f2⟩:=KW S.length L2 (jA S o);have h1:=LO hS ho s s lt f f2;have h2:=VG (Fu hS ho) f2 s.lt;have e:M2=L2:=Et f2.1 s.pw fun z=>⟨h1 z,h2 z⟩;rw [e] at f2;exact f2
end
variable {p:Nat}
theorem LP{v u:Nat}{g:Nat→List Nat}(hg:∀p,p<n→g7 n o p (g p)∧jy n L o p (g p))(hp:p<n)(hv:v∈g p)(hu:u∈g p)(uv:o.idxOf v<o.idxOf u):u∈g v:=by
 have h1:=((hg p hp).2 v).mp hv;have h2:=((hg p hp).2 u).mp hu;refine ((hg v h1.1).2 u).mpr ⟨h2.1,uv,?_⟩;have up:∀x,dH n o (o.idxOf p) x→dH n o (o.idxOf v) x:=fun x ⟨a,b⟩=>⟨a,by lia⟩
 exact ((h1.2.2.mono up).symm gc).trans ⟨hp,h1.2.1⟩ (h2.2.2.mono up)
theorem LQ(pw:L.Pairwise lexLt)(lt:∀z∈L,0≤z.1∧z.1<z.2∧z.2<(n:Int))(hp:p<n)(hS:S∈g9 n)(mS:∀x,x∈S↔x<n∧x≠p)(s:mH L S L2)(free:∀x y,x≠y→aL n L p x→aL n L p y→aL n L x y){o2:List Nat}(mE:o2.Perm (List.range S.length))(f2:b9 S.length L2 o2 L2) :
  (p::o2.map fun k=>S.getD k 0).Perm (List.range n)∧b9 n L (p::o2.map fun k=>S.getD k 0) L:=by
 have nd:S.Nodup:=(eV.mp hS).1.imp fun z e=>by lia
 have hl:=(eV.mp hS).2;have gx:∀x (hx:x<S.length),S.getD x 0=S[x]:=fun x hx=>by rw [du,bu hx];rfl
 have Bi:∀x∈o2,x<S.length:=fun x hx=>bb.mp (mE.mem_iff.mp hx);have LR:∀x,x∈(o2.map fun k=>S.getD k 0)↔x∈S:=fun x=>by
  rw [bD];constructor
  ·rintro ⟨y,hy,rfl⟩
   rw [gx y (Bi y hy)];exact bT _
  ·intro hx
   obtain ⟨k,hk,e⟩:=zQ.mp hx;exact ⟨k,mE.mem_iff.mpr (bb.mpr hk),by rw [gx k hk,e]⟩
 have VP:(o2.map fun k=>S.getD k 0).Nodup:=by rw [ou,mZ];refine (ou.mp (mE.nodup_iff.mpr hI)).imp_of_mem fun{a b} ha hb ne e=>ne ?_;rw [gx a (Bi a ha),gx b (Bi b hb)] at e;exact (lC nd).mp e
 have VQ:p∉(o2.map fun k=>S.getD k 0):=fun h=>((mS p).mp ((LR p).mp h)).2 rfl;have ho:(p::o2.map fun k=>S.getD k 0).Perm (List.range n):=(qa (gq.mpr ⟨VQ,VP⟩) hI).mpr fun x=>by
  rw [bh,LR,mS,bb];constructor
  ·rintro (rfl | h)
   ·exact hp
   ·exact h.1
  ·intro h
   by_cases e:x=p;·exact .inl e
   ·exact .inr ⟨h,e⟩
 refine ⟨ho,E7 ho pw lt fun a b c an bn cn ab ac bc e1 e2=>?_⟩;have VR:=KR mE f2;dsimp only at ab ac;by_cases ea:a=p
 ·subst ea
  exact free b c bc e1 e2
 ·have idx:∀x,x≠p→x<n→∃k,∃hk:k<S.length,x=S[k]∧(p::o2.map fun k=>S.getD k 0).idxOf x=o2.idxOf k+1:=fun x xp xn=>by
   obtain ⟨k,hk,e⟩:=zQ.mp ((mS x).mpr ⟨xn,xp⟩);refine ⟨k,hk,e.symm,?_⟩;rw [mJ (Ne.symm xp)];have:=idx_map (f:=fun k=>S.getD k 0) (x:=k) (o:=o2) fun y hy e=>by rw [gx y (Bi y hy),gx k hk] at e;exact (lC nd).mp e
   rw [gx k hk,e] at this;rw [this]
  have bp:b≠p:=fun z=>by rw [z,jg] at ab;exact absurd ab (je _)
  have cp:c≠p:=fun z=>by rw [z,jg] at ac;exact absurd ac (je _)
  obtain ⟨i,hi,rfl,ei⟩:=idx a ea an;obtain ⟨j,hj,rfl,ej⟩:=idx b bp bn;obtain ⟨k,hk,rfl,ek⟩:=idx c cp cn;simp only [ei,ej,ek] at ab ac;exact (s.a9 hS lt hj hk).mp (VR i j k hi hj hk (by show o2.idxOf i<o2.idxOf j;lia) (by show o2.idxOf i<o2.idxOf k;lia) (fun e=>bc (by subst e;rfl)) ((s.a9 hS lt hi hj).mpr e1) ((s.a9 hS lt hi hk).mpr e2))
end My
namespace L2
open PySem My
variable {wi:TI} {ρ:St→St} {tt:TT} {te:TE} {σ:St} {H:Hp} {Q:VK}
theorem VS{xs:List V}(c:V→Bool)(val:V→V)(dR:∀R:It→Hp→Prop,(∀J H1,aj H H1→iX J xs H1→R J H1)→wi σ H R)(hn:xs.length<sizeLine)
  (test:∀x∈xs,∀(Hc:Hp) (R:Bool→Hp→Prop),aj H Hc→(∀Hd,aj Hc Hd→R (c x) Hd)→tt (some x::ρ σ) Hc R)
  (elem:∀x∈xs,c x=true→∀(Hc:Hp) (R:VK),aj H Hc→(∀Hd,aj Hc Hd→R (val x) Hd)→te (some x::ρ σ) Hc R)
  (fin:∀D Hc,H D=none→aj H Hc→Hc D=some (.lst ((xs.filter c).map val))→Q (.ref D) Hc):e_ wi ρ tt te σ H Q:=by
 refine dR _ fun J H1 s1 js=>?_;intro D nD;refine ⟨fun i m ys Hc=>m=xs.length-i∧i≤xs.length∧Hc D=some (.lst ys)∧aj H1 Hc∧ys.length≤i∧ys=((xs.take i).filter c).map val,⟨_,rfl,bY _,av,eN (aj.refl H1) nD,ax _,rfl⟩,?_⟩;rintro i m ys Hc ⟨rfl,hi,eD,sH,ly,hP⟩;refine ⟨eD,?_⟩;by_cases aV:i<xs.length
 ·refine .inr ⟨js.go i Hc sH aV,fun x H' hy=>?_⟩
  obtain ⟨rfl,hx⟩:=js.eY i Hc x H' sH hy;have ex:=hx aV;have mx:x∈xs:=kq ex;have tk:xs.take (i+1)=xs.take i++[x]:=by rw [kA,ex];rfl
  refine test x mx _ _ (s1.trans sH) fun Hd sd=>?_;have nM:=sd _ _ eD;have uK:=sH.trans sd;by_cases hb:c x=true
  ·rw [ae hb]
   refine elem x mx hb _ _ (s1.trans uK) fun He se=>⟨se _ _ nM,by lia,xs.length-(i+1),by lia,rfl,aV,av,eN (uK.trans se) nD,by simp;lia,?_⟩
   rw [tk,mY,fj,←hP,kB,ae hb];rfl
  ·rw [aa hb]
   refine ⟨xs.length-(i+1),by lia,rfl,aV,nM,uK,by lia,?_⟩
   rw [tk,mY,kB,aa hb,zO,ko,←hP]
 ·have e:i=xs.length:=by lia
  subst e;rw [gu] at hP;subst hP;exact .inl ⟨js.stop _ Hc sH (ax _),fin D Hc (none_of s1 nD) (s1.trans sH) eD⟩
variable {P a:Addr}
theorem VT{n:Nat}(hn:n<sizeLine)(pc:bG H P a)
  (dR:∀R:It→Hp→Prop,R (nk 0 n) H→wi σ H R)
  (test:∀(i:Nat),i<n→∀(Hc:Hp) (R:Bool→Hp→Prop),aI P H Hc→bG Hc P a→(∀b H3,aI P Hc H3→bG H3 P a→R b H3)→tt (some (.int (0+(i:Int)))::ρ σ) Hc R)
  (elem:∀(x:V) (Hc:Hp) (R:VK),R x Hc→te (some x::ρ σ) Hc R)
  (fin:∀(D:Addr) (ms:List Nat) (Hc:Hp),D≠P→er P H D=none→aI P H Hc→bG Hc P a→ms∈g9 n→Hc D=some (.lst (ms.map fun k:Nat=>V.int (k:Int)))→Q (.ref D) Hc):e_ wi ρ tt te σ H Q:=by
 refine dR _ fun D nD=>?_;have nP:=pc.ne nD;refine ⟨fun i m ys Hc=>m=n-i∧i≤n∧Hc D=some (.lst ys)∧aI P H Hc∧bG Hc P a∧∃ms:List Nat,ys=ms.map (fun k:Nat=>V.int (k:Int))∧ms.length≤i∧ms.Pairwise (· < ·)∧∀k∈ms,k<i,⟨_,rfl,bY _,av,(aI.refl H).but nD,pc.upd nP,[],rfl,ax _,.nil,fun k h=>by cases h⟩,?_⟩
 rintro i m ys Hc ⟨rfl,hi,eD,sH,oZ,ms,rfl,lms,up,mn⟩;refine ⟨eD,?_⟩;by_cases aV:i<n
 ·refine .inr ⟨aV,fun x H' hy=>?_⟩
  obtain ⟨rfl,rfl⟩:=hy;refine test i aV _ _ sH oZ fun b H3 s3 p3=>?_;have e3:=s3.at nP eD;cases b with
  | true=>
   rw [ae rfl];refine elem _ H3 _ ⟨e3,?_,n-(i+1),by lia,rfl,aV,av,(sH.trans s3).but nD,p3.upd nP,ms++[i],by rw [fj,oz];rfl,by rw [di,kr];lia,?_,fun k hk=>?_⟩
   ·rw [aC];lia
   ·exact tj.mpr ⟨up,C5 ..,fun x hx y hy=>by rw [bS.mp hy];exact mn x hx⟩
   ·rcases cZ.mp hk with h | h
    ·have:=mn k h;lia
    ·rw [bS.mp h];lia
  | false=>
   rw [aa (by simp)]
   exact ⟨n-(i+1),by lia,rfl,aV,e3,sH.trans s3,p3,ms,rfl,by lia,up,fun k hk=>by have:=mn k hk;lia⟩
 ·have e:i=n:=by lia
  subst e;exact .inl ⟨ax _,fin D ms Hc nP (by rw [eO nP];exact nD) sH oZ (eV.mpr ⟨up,mn⟩) eD⟩
theorem VU{K:aE}{l:Addr}{us:List V}{Z:au}(pc:bG H P a)(el:er P H l=some (.tup us))(hZ:aY (er P H) us Z)(hn:Z.length<sizeLine)
  (dR:∀R:It→Hp→Prop,R (ni K l) H→wi σ H R)
  (test:∀(T:Addr) (Hc:Hp) (R:Bool→Hp→Prop),aI P H Hc→bG Hc P a→(∀b H3,aI P Hc H3→bG H3 P a→R b H3)→tt (some (.ref T)::ρ σ) Hc R)
  (elem:∀(x:V) (Hc:Hp) (R:VK),R x Hc→te (some x::ρ σ) Hc R)
  (fin:∀(D:Addr) (ws:List V) (Z1:au) (Hc:Hp),D≠P→er P H D=none→aI P H Hc→bG Hc P a→Z1.Sublist Z→aY (er P Hc) ws Z1→Hc D=some (.lst ws)→Q (.ref D) Hc):e_ wi ρ tt te σ H Q:=by
 refine dR _ fun D nD=>?_;have nP:=pc.ne nD;have lZ:=hZ.1;refine ⟨fun i m ys Hc=>m=us.length-i∧i≤us.length∧Hc D=some (.lst ys)∧aI P H Hc∧bG Hc P a∧ys.length≤i∧∃Z1:List (Int×Int),Z1.Sublist (Z.take i)∧aY (er P Hc) ys Z1,⟨_,rfl,bY _,av,(aI.refl H).but nD,pc.upd nP,ax _,[],List.nil_sublist _,aY.nil _⟩,?_⟩;rintro i m ys Hc ⟨rfl,hi,eD,sH,oZ,ly,Z1,sub,hL⟩;refine ⟨eD,?_⟩;have d8:Hc l=some (.tup us):=me _ _ (sH _ _ el);by_cases aV:i<us.length
 ·refine .inr ⟨⟨us,us[i],.of d8,by simp [aV]⟩,fun x H' hy=>?_⟩
  obtain ⟨rfl,hx⟩:=hy;have ex:=hx us (.of d8);have LS:i<Z.length:=by lia
  obtain ⟨T,rfl,eT⟩:=(hZ.mono sH).2 i x Z[i] ex (bu LS);have tk:Z.take (i+1)=Z.take i++[Z[i]]:=by rw [kA,bu LS];rfl
  refine test T _ _ sH oZ fun b H3 s3 p3=>?_;have e3:=s3.at nP eD;cases b with
  | true=>
   rw [ae rfl];have fr:∀b o,b≠D→er P H3 b=some o→er P (upd H3 D (.lst (ys++[.ref T]))) b=some o:=fun b o nb e=>by
    have bP:b≠P:=fun z=>by rw [z] at e;unfold er at e;rw [ae rfl] at e;cases e
    rw [eO bP] at e ⊢;exact (aH nb).trans e
   refine elem _ H3 _ ⟨e3,by lia,us.length-(i+1),by lia,rfl,aV,av,(sH.trans s3).but nD,p3.upd nP,by rw [di,kr];lia,Z1++[Z[i]],?_,?_⟩
   ·rw [tk]
    exact sub.append (List.Sublist.refl _)
   ·exact ((hL.mono s3).push (s3 _ _ eT)).cf (r:=D) (x8 nP e3) fr
  | false=>
   rw [aa (by simp)]
   exact ⟨us.length-(i+1),by lia,rfl,aV,e3,sH.trans s3,p3,by lia,Z1,by rw [tk];exact sub.trans (List.sublist_append_left _ _),hL.mono s3⟩
 ·have e:i=us.length:=by lia
  subst e;rw [lZ,gu] at sub;exact .inl ⟨⟨us,.of d8,ax _⟩,fin D ys Z1 Hc nP (by rw [eO nP];exact nD) sH oZ sub hL eD⟩
end L2
namespace My
open PySem L2
def fN(S:List Nat)(z:Int×Int):Bool:=decide (z.1∈S.map iN) && decide (z.2∈S.map iN)
def gG(S:List Nat)(z:Int×Int):Int×Int:=((S.idxOf z.1.toNat:Int),(S.idxOf z.2.toNat:Int))
theorem nN{S:List Nat}{z:Int}:z∈S.map iN↔∃a,∃ha:a<S.length,z=((S[a]:Nat):Int):=by
 rw [bD];constructor
 ·rintro ⟨x,hx,rfl⟩
  obtain ⟨a,ha,e⟩:=zQ.mp hx;exact ⟨a,ha,by rw [e];rfl⟩
 ·rintro ⟨a,ha,rfl⟩
  exact ⟨_,bT ha,rfl⟩
section
variable {n:Nat} {L:au} {S:List Nat} (hS:S∈g9 n) (lt:∀z∈L,0≤z.1∧z.1<z.2∧z.2<(n:Int))
include hS lt
theorem VW(z:Int×Int):z∈(L.filter (fN S)).map (gG S)↔∃(a b:Nat) (ha:a<S.length) (hb:b<S.length),a<b∧z=((a:Int),(b:Int))∧((S[a]:Int),(S[b]:Int))∈L:=by
 have nd:S.Nodup:=(eV.mp hS).1.imp fun z e=>by lia
 have ix:∀(a b:Nat) (ha:a<S.length) (hb:b<S.length),gG S ((S[a]:Int),(S[b]:Int))=((a:Int),(b:Int)):=fun a b ha hb=>by unfold gG;simp only [cQ];rw [mI nd ha,mI nd hb]
 rw [bD];constructor
 ·rintro ⟨w,hw,rfl⟩
  obtain ⟨wL,wS⟩:=bI.mp hw;unfold fN at wS;rw [lF,zR,zR] at wS;obtain ⟨a,ha,e1⟩:=nN.mp wS.1;obtain ⟨b,hb,e2⟩:=nN.mp wS.2;have ew:w=((S[a]:Int),(S[b]:Int)):=Prod.ext e1 e2;subst ew;have:=lt _ wL;simp only at this;exact ⟨a,b,ha,hb,(Bg hS ha hb).mp (by lia),ix a b ha hb,wL⟩
 ·rintro ⟨a,b,ha,hb,ab,rfl,h⟩
  refine ⟨_,bI.mpr ⟨h,?_⟩,ix a b ha hb⟩;unfold fN;rw [a_ (nN.mpr ⟨a,ha,rfl⟩),a_ (nN.mpr ⟨b,hb,rfl⟩)];rfl
theorem VX(nl:L.Nodup):((L.filter (fN S)).map (gG S)).Nodup:=by
 have nd:S.Nodup:=(eV.mp hS).1.imp fun z e=>by lia
 refine uD (nl.filter _) fun p q hp hq e=>?_;have key:∀w,w∈L.filter (fN S)→∃(a b:Nat) (ha:a<S.length) (hb:b<S.length),w=((S[a]:Int),(S[b]:Int))∧gG S w=((a:Int),(b:Int)):=fun w hw=>by obtain ⟨wL,wS⟩:=bI.mp hw;unfold fN at wS;rw [lF,zR,zR] at wS;obtain ⟨a,ha,e1⟩:=nN.mp wS.1;obtain ⟨b,hb,e2⟩:=nN.mp wS.2;have ew:w=((S[a]:Int),(S[b]:Int)):=Prod.ext e1 e2;refine ⟨a,b,ha,hb,ew,?_⟩;rw [ew];unfold gG;simp only [cQ];rw [mI nd ha,mI nd hb]
 obtain ⟨a,b,ha,hb,e1,i1⟩:=key p hp;obtain ⟨c,d,hc,hd,e2,i2⟩:=key q hq;rw [i1,i2] at e;injection e with h1 h2;have:a=c:=by lia
 have:b=d:=by lia
 subst c d;rw [e1,e2]
end
def VY:Sp:=fun vs H Q _=>∃(tp a:Addr) (n:Nat) (L:au) (S:List Nat),vs=[.ref tp,.ref a]∧cY H tp n L∧L.Nodup∧(∀z∈L,0≤z.1∧z.1<z.2∧z.2<(n:Int))∧n≤30∧H a=some (.lst (S.map fun k:Nat=>V.int (k:Int)))∧S∈g9 n ∧
 ∀(H':Hp) (t:Addr) (L2:au),aj H H'→H t=none→cY H' t S.length L2→mH L S L2→jx S.length L2→Q (.ref t) H'
def VZ:Sp:=fun vs H Q _=>∃(ro a:Addr) (n:Nat) (o S:List Nat),vs=[.ref ro,.ref a]∧H ro=some (.lst (o.map fun k:Nat=>V.int (k:Int)))∧o.Perm (List.range n)∧n≤30∧H a=some (.lst (S.map fun k:Nat=>V.int (k:Int)))∧S∈g9 n ∧
 ∀(H':Hp) (D:Addr),aj H H'→H D=none→H' D=some (.lst ((jA S o).map fun k:Nat=>V.int (k:Int)))→Q (.ref D) H'
end My
namespace L2
open PySem PySem.Spec PyProof.Rows
theorem V0{X:Cx}{K:aE}{o e:Expr}{es:List Expr}{to:TE}{t:TA}{name:Str}{apos eZ:Pos}{T id:String}{r:V→List V→Hp→VK→Prop}(pa:PlainAttrs T)(slot:Slot T name id)(xH:typeOf (.builtin id)=pure (.type "method_descriptor"))(hm:DE X id r)(ho:PE X o to)(ha:PA X (e::es) t)(hk:X.K=K:=by rfl)
  (xI:attributeBase o name X.env (eval o X.env)=eval o X.env:=by rfl)
  (DH:((backTo eZ (starEach (e::es) X.env)).all (fun x=>!x.1) && (backToKw eZ (keywordEach [] X.env)).all (fun x=>x.1.isSome)
   && decide ((e::es).length+([]:List Keyword).length+(if ([]:List Keyword).isEmpty then 0 else 1)<30))=true:=by rfl)
  (xJ:(apos.endLine == eZ.line)=true:=by rfl) (hs:starEach (e::es) X.env=(false,eval e X.env)::starEach es X.env:=by rfl) (DI:(backTo eZ (starEach es X.env)).any (·.1)=false:=by rfl) :
  PE X (.Call (.Attribute o name apos) (e::es) [] eZ) (IP K T r to t):=by
 subst hk;exact fF pa slot xH hm ho ha xI DH xJ hs DI
end L2
namespace My
open PySem L2
theorem V1{N:au}(nd:N.Nodup)(b:∀q∈N,0≤q.2∧q.2<1000)(o:N.Pairwise uH):N.Pairwise lexLt:=by
 refine (o.and nd).imp_of_mem fun{p q} hp hq h=>?_;have h1:=h.1;have h2:=h.2;have b1:=b p hp;have b2:=b q hq;unfold uH at h1;unfold lexLt;by_cases e:p.1=q.1
 ·by_cases e2:p.2=q.2
  ·exact absurd (Prod.ext e e2) h2
  ·lia
 ·lia
def V2:Sp:=fun vs H Q _=>∃(tp ro:Addr) (n:Nat) (L:au) (o:List Nat),vs=[.ref tp,.ref ro]∧cY H tp n L∧eB n L∧k8 L∧n≤30∧H ro=some (.lst (o.map fun k:Nat=>V.int (k:Int)))∧o.Perm (List.range n)∧∀H',aj H H'→Q (.bl true) H'
theorem Fv{pr:Nat→Bool}{v:Nat}{r:List Nat}:∀{o:List Nat},o.Nodup→o.filter pr=v::r→∀u∈r,o.idxOf v<o.idxOf u
 | [],_,e,_,_=>by simp at e
 | z::o,nd,e,u,hu=>by
  have qY:=gq.mp nd;by_cases pz:pr z=true
  ·rw [tL pz] at e
   injection e with e1 e2;subst e1 e2;have uo:=(bI.mp hu).1;have ne:z≠u:=fun h=>qY.1 (h▸uo);rw [jg,mJ ne];exact Nat.succ_pos _
  ·rw [zP pz] at e
   have h1:=Fv qY.2 e u hu;have vo:v∈o:=(bI.mp (show v∈o.filter pr by rw [e];exact bV)).1
   have uo:u∈o:=(bI.mp (show u∈o.filter pr by rw [e];exact bX _ hu)).1
   have n1:z≠v:=fun h=>qY.1 (h▸vo);have n2:z≠u:=fun h=>qY.1 (h▸uo);rw [mJ n1,mJ n2];lia
end My
namespace L2
open PySem My
variable {σ:St} {H:Hp}
theorem any_none{K:aE}{wi:TI}{ρ:St→St}{te:TE}{R:Bool→Hp→Prop}{xs:List V}(dR:∀R:It→Hp→Prop,(∀J H1,aj H H1→iX J xs H1→R J H1)→wi σ H R)(hn:xs.length<sizeLine)
  (step:∀x∈xs,∀(Hc:Hp) (R:VK),aj H Hc→(∀Hd,aj Hc Hd→R (.bl false) Hd)→te (some x::ρ σ) Hc R) (fin:∀Hc,aj H Hc→R false Hc) :
  tB (xC (anyR K) (qz (e_ wi ρ (fun _ H Q=>Q true H) te) tX)) σ H R:=by
 refine qH (x6 (xs:=xs) dR hn (fun _ i y _=>y=.bl false) (fun _ _ _ _ _ _ h _ _=>h) ?_ ?_)
 ·intro D i x hx Hc R sc _ kc
  exact step x (kq hx) Hc R sc fun Hd sd=>kc _ Hd sd rfl
 ·intro D ys Hc nD sc ly hP eD
  have ey:ys=(List.replicate ys.length false).map V.bl:=by rw [List.map_replicate];exact List.eq_replicate_iff.mpr ⟨rfl,fun y hy=>by obtain ⟨i,hi⟩:=xf hy;exact hP i y hi⟩
  refine ⟨D,List.replicate ys.length false,rfl,.of (by rw [eD,←ey]),false,?_,fin Hc sc⟩
  congr 1
  generalize ys.length=m
  induction m with
  | zero=>rfl
  | succ m ih=>rw [mQ,oj,ih];rfl
open PySem
theorem Fw{r:R2}{ta tb:TE}{Q:VK}(h:ta σ H fun x H1=>tb σ H1 fun y H2=>r x y H2 Q):lR r ta tb σ H Q:=h
end L2
namespace My
open PySem L2
def V3(Pt:Addr)(pl:Pos):Sp:=fun vs H Q _=>∃(tp:Addr) (n:Nat) (L:au),vs=[.ref tp]∧cY H tp n L∧L.Pairwise lexLt∧(∀z∈L,0≤z.1∧z.1<z.2∧z.2<(n:Int))∧n≤10∧cG Pt pl gg H∧∀H',cO Pt H H'→cG Pt pl gg H'→Q (.bl true) H'
theorem aY.V4{H:Hp}{us:List V}{M:au}(h:aY H us M){x:V}(hx:x∈us):∃(b:Addr) (z:Int×Int),x=.ref b∧H b=some (.tup [.int z.1,.int z.2])∧z∈M:=by
 obtain ⟨i,hi⟩:=xf hx;have bF:=(cu.mp hi).1;have hm:i<M.length:=by rw [←h.1];exact bF
 obtain ⟨b,e1,e2⟩:=h.2 i x M[i] hi (bu hm);exact ⟨b,M[i],e1,e2,bT hm⟩
theorem LU:∀{l S:List Nat} {x:Nat},x∈l.foldl eC S↔x∈l∨x∈S
 | [],S,x=>by simp
 | p::l,S,x=>by
  rw [List.foldl_cons,LU,E6,bh];constructor
  ·rintro (h | h | h)
   ·exact .inl (.inr h)
   ·exact .inl (.inl h)
   ·exact .inr h
  ·rintro ((h | h) | h)
   ·exact .inr (.inl h)
   ·exact .inl h
   ·exact .inr (.inr h)
end My
namespace L2
open PySem My
variable {K:aE} {σ:St} {H:Hp}
theorem LV{wi:TI}{ρ:St→St}{te:TE}{R:Bool→Hp→Prop}{M:au}(dR:∀R:It→Hp→Prop,(∀J H1,aj H H1→∀(l:Addr) (us:List V),J=ni K l→H1 l=some (.tup us)→aY H1 us M→R J H1)→wi σ H R)(hn:M.length≤1000)
  (step:∀(b:Addr) (z:Int×Int),z∈M→∀(Hc:Hp) (R:VK),aj H Hc→Hc b=some (.tup [.int z.1,.int z.2])→(∀Hd,aj Hc Hd→R (.bl false) Hd)→te (some (.ref b)::ρ σ) Hc R) (fin:∀Hc,aj H Hc→R false Hc) :
  tB (xC (anyR K) (qz (e_ wi ρ (fun _ H Q=>Q true H) te) tX)) σ H R:=by
 refine qH (yq (dR _ fun J H1 s1 l us eJ el hM=>?_));subst eJ;have:=any_none (K:=K) (wi:=fun _ H R=>R (ni K l) H) (ρ:=ρ) (te:=te) (σ:=σ) (H:=H1) (R:=R) (xs:=us) (fun R h=>h _ _ (aj.refl _) (VI el)) (by rw [hM.1];exact cj hn) (fun x hx Hc R' sc kR=>by obtain ⟨b,z,rfl,eb,hz⟩:=hM.V4 hx;exact step b z hz Hc R' (s1.trans sc) (sc _ _ eb) kR) fun Hc sc=>fin Hc (s1.trans sc)
 exact this
open PySem
theorem V5{ta tb:TE}{Q:VK}(h:ta σ H fun x H1=>∃p xs,x=.ref p∧a7 K H1 p xs∧(if xs.isEmpty=true then tb σ H1 Q else Q x H1)):Kq K ta tb σ H Q:=h
end L2
set_option maxRecDepth 100000
set_option maxHeartbeats 4000000
namespace My
open PySem L2
def top(i:Nat):Stmt:=PySem.Challenge.pw_bandwright_k97_whole_filling_grows.main.body.getD i (.Pass ⟨0,0,0,0⟩)
abbrev Bj:Stmt:=top 5
abbrev Bk:Stmt:=top 7
abbrev Bl:Stmt:=top 9
abbrev Bm:Stmt:=top 10
abbrev Bn:Stmt:=top 11
abbrev Bo:Stmt:=top 12
abbrev Bp:Stmt:=top 13
abbrev Bq:Stmt:=top 14
abbrev Br:Stmt:=top 15
abbrev Bs:Stmt:=top 16
abbrev Bt:Stmt:=top 19
abbrev Bu:Stmt:=top 20
abbrev Bv:Stmt:=top 21
abbrev Bw:Stmt:=top 23
abbrev Bx:Stmt:=top 24
abbrev By:Stmt:=top 25
abbrev Bz:Stmt:=top 26
abbrev BA:Stmt:=top 27
abbrev BB:Stmt:=top 28
abbrev BC:Stmt:=top 29
abbrev BD:Stmt:=top 31
abbrev BE:Stmt:=top 32
abbrev BF:Stmt:=top 33
abbrev BG:Stmt:=top 34
abbrev BH:Stmt:=top 35
abbrev BI:Stmt:=top 36
abbrev BJ:Stmt:=top 37
abbrev BK:Stmt:=top 38
abbrev BL:Stmt:=top 39
abbrev BM:Stmt:=top 40
abbrev BN:Stmt:=top 41
abbrev BO:Stmt:=top 42
abbrev BP:Stmt:=top 43
set_option genInjectivity false in
set_option genSizeOf false in
structure Fx where
 rf:Addr
 uU:FuncData
 rg:Addr
 uV:FuncData
 rh:Addr
 uW:FuncData
 rj:Addr
 uX:FuncData
 rm:Addr
 uY:FuncData
 rp:Addr
 uZ:FuncData
 rq:Addr
 u0:FuncData
 rA:Addr
 u4:FuncData
 rB:Addr
 u5:FuncData
 rC:Addr
 u6:FuncData
 rE:Addr
 u7:FuncData
 rF:Addr
 u_:FuncData
 rG:Addr
 va:FuncData
 rH:Addr
 vb:FuncData
 rJ:Addr
 pC:FuncData
 rK:Addr
 vc:FuncData
 rN:Addr
 vd:FuncData
 rO:Addr
 ve:FuncData
 rP:Addr
 vf:FuncData
 rQ:Addr
 vg:FuncData
 rR:Addr
 vh:FuncData
 rS:Addr
 vi:FuncData
 rT:Addr
 vj:FuncData
 rV:Addr
 vk:FuncData
 rW:Addr
 vp:FuncData
 rX:Addr
 vt:FuncData
 rY:Addr
 vv:FuncData
 rZ:Addr
 vw:FuncData
 r6:Addr
 vy:FuncData
 r_:Addr
 vz:FuncData
 si:Addr
 vB:FuncData
 sj:Addr
 vD:FuncData
 pD:Addr
 su:FuncData
 lh:Addr
 vE:Addr
abbrev cH (mg:cJ) (x:Str) (f:Addr):Prop:=mg x=some (.ref f)
abbrev LW (K:aE) (a:Addr):Prop:=PySem.W.excIn K a [.type "ValueError",.type "Exception",.type "BaseException",.type "object"] "ValueError.__new__"=true
structure Txt (K:aE) (mg:cJ) (t:Fx):Prop where
 vF:aS K "is_whole" Bj t.rf t.uU
 LX:Binds K t.uU ["thing"] []
 LY:cH mg "is_whole" t.rf
 nO:aS K "neighbours" Bk t.rg t.uV
 yL:Binds K t.uV ["shape"] []
 yM:cH mg "neighbours" t.rg
 vG:aS K "is_order" Bl t.rh t.uW
 LZ:Binds K t.uW ["thing","n"] []
 L0:cH mg "is_order" t.rh
 vH:aS K "check_order" Bm t.rj t.uX
 L3:Binds K t.uX ["order","n"] []
 L4:cH mg "check_order" t.rj
 vI:aS K "turns_of" Bn t.rm t.uY
 L5:Binds K t.uY ["order"] []
 L6:cH mg "turns_of" t.rm
 vJ:aS K "link_all" Bo t.rp t.uZ
 L7:Binds K t.uZ ["linked","places"] []
 L8:cH mg "link_all" t.rp
 pE:aS K "later" Bp t.rq t.u0
 BQ:Binds K t.u0 ["shape","order"] []
 BR:cH mg "later" t.rq
 nQ:aS K "filled" Bq t.rA t.u4
 yN:Binds K t.u4 ["shape","order"] []
 yO:cH mg "filled" t.rA
 sC:aS K "place_deeds" Br t.rB t.u5
 Fy:Binds K t.u5 ["many"] []
 Fz:cH mg "place_deeds" t.rB
 pF:aS K "deeds" Bs t.rC t.u6
 BS:Binds K t.u6 ["shape","order"] []
 BU:cH mg "deeds" t.rC
 vK:aS K "check_size" Bt t.rE t.u7
 L9:Binds K t.u7 ["shape"] []
 L_:cH mg "check_size" t.rE
 vL:aS K "still_near" Bu t.rF t.u_
 Ma:Binds K t.u_ ["linked","done","place"] []
 Mb:cH mg "still_near" t.rF
 vM:aS K "cost" Bv t.rG t.va
 Mc:Binds K t.va ["shape","done","place"] []
 Md:cH mg "cost" t.rG
 sD:aS K "is_perfect" Bw t.rH t.vb
 FA:Binds K t.vb ["shape","order"] []
 FC:cH mg "is_perfect" t.rH
 vO:aS K "likely_order" Bx t.rJ t.pC
 Me:Binds K t.pC ["shape"] []
 Mf:cH mg "likely_order" t.rJ
 vP:aS K "walk_back" By t.rK t.vc
 Mg:Binds K t.vc ["whence","place"] []
 Mh:cH mg "walk_back" t.rK
 vQ:aS K "unmet" Bz t.rN t.vd
 Mi:Binds K t.vd ["linked","whence","place"] []
 Mj:cH mg "unmet" t.rN
 vR:aS K "ring_over" BA t.rO t.ve
 Mk:Binds K t.ve ["linked","place","start"] []
 Ml:cH mg "ring_over" t.rO
 vS:aS K "bare_ring" BB t.rP t.vf
 Mm:Binds K t.vf ["shape"] []
 Mn:cH mg "bare_ring" t.rP
 sE:aS K "perfect" BC t.rQ t.vg
 FD:Binds K t.vg ["shape"] []
 FE:cH mg "perfect" t.rQ
 vT:aS K "_law_fill" BD t.rR t.vh
 Mo:Binds K t.vh ["_law_cell","_law_at"] []
 Mp:cH mg "_law_fill" t.rR
 gH:aS K "_law_next" BE t.rS t.vi
 jB:Binds K t.vi ["_law_pen","_law_many"] []
 jC:cH mg "_law_next" t.rS
 sF:aS K "_law_turned" BF t.rT t.vj
 FF:Binds K t.vj ["_law_pen","_law_some"] []
 FG:cH mg "_law_turned" t.rT
 vU:aS K "_law_tied_by" BG t.rV t.vk
 Mq:Binds K t.vk ["_law_pen","_law_way","_law_size","_law_wide","_law_i","_law_j"] []
 Mr:cH mg "_law_tied_by" t.rV
 vV:aS K "_law_grown_links" BH t.rW t.vp
 Ms:Binds K t.vp ["_law_pen","_law_size"] []
 Mt:cH mg "_law_grown_links" t.rW
 vW:aS K "_law_drawn" BI t.rX t.vt
 Mu:Binds K t.vt ["_law_pen","_law_most"] []
 Mv:cH mg "_law_drawn" t.rX
 vX:aS K "_law_named" BJ t.rY t.vv
 Mw:Binds K t.vv ["_law_size","_law_links","_law_names"] []
 Mx:cH mg "_law_named" t.rY
 vY:aS K "_law_beside" BK t.rZ t.vw
 Mz:Binds K t.vw ["_law_shape"] []
 MA:cH mg "_law_beside" t.rZ
 pG:aS K "_law_within" BL t.r6 t.vy
 BV:Binds K t.vy ["_law_shape","_law_places"] []
 BW:cH mg "_law_within" t.r6
 vZ:aS K "_law_cut" BM t.r_ t.vz
 MB:Binds K t.vz ["_law_order","_law_places"] []
 MC:cH mg "_law_cut" t.r_
 v9:aS K "_law_way_right" BN t.si t.vB
 MD:Binds K t.vB ["_law_shape","_law_order"] []
 ME:cH mg "_law_way_right" t.si
 v_:aS K "_law_begins_right" BO t.sj t.vD
 MF:Binds K t.vD ["_law_shape"] []
 MG:cH mg "_law_begins_right" t.sj
 wa:aS K "law" BP t.pD t.su
 V6:Binds K t.su ["script"] []
 MJ:cH mg "law" t.pD
 MK:cH mg "NoOrder" t.lh
 ML:cH mg "NoSize" t.vE
 V7:mg "ValueError"=none
 MM:mg "all"=none
 yP:mg "any"=none
 MN:mg "bool"=none
 FH:mg "enumerate"=none
 MO:mg "int"=none
 BX:mg "isinstance"=none
 iK:mg "len"=none
 pH:mg "list"=none
 BY:mg "max"=none
 FI:mg "min"=none
 gI:mg "range"=none
 MP:mg "reversed"=none
 V8:mg "set"=none
 nS:mg "sorted"=none
 MQ:mg "sum"=none
 wb:mg "tuple"=none
 V9:mg "zip"=none
 MR:∃u,mg "MOST"=some u∧RelV (.int 9) u
 MS:LW K t.lh
 MT:LW K t.vE
 tab:L2.tabIn K t.pC 139=true
 MU:K.lookup 139=none
section
variable {P:Program} {w:World} {K:aE} {mg:cJ} {base:Heap} {t:Fx}
theorem V_:b8 ["thing"] ["thing"] (bj Bj):=cV
theorem Wa(T:Txt K mg t):bK P w K mg base cB 1 t.rf t.uU ["thing"] Q9:=by
 have S:=V_;refine T.vF.dQ S (fun _ _ _ _ H _ Q _ hr h=>?_);obtain ⟨v,rfl,ha,k⟩:=h;refine ⟨_,(aF (bH (O4 (cC (DS (K:=K)) rfl T.BX boot_isinstance (ak (pv 0) (ak (Dk (v:=.ty "int") rfl T.MO boot_int rfl) ao))) (Dm (O6 (cC (DS (K:=K)) rfl T.BX boot_isinstance (ak (pv 0) (ak (Dk (v:=.ty "bool") rfl T.MN boot_bool rfl) ao)))))))),?_⟩;obtain ⟨Ty,ty,k1,k2,_⟩:=ha.DR (K:=K);refine ⟨_,rfl,_,_,_,_,rfl,rfl,ty,k1,_,rfl,dh (fun h1=>?_) (fun h1=>?_)⟩
 ·refine ⟨_,rfl,_,_,_,_,rfl,rfl,ty,k2,_,rfl,?_⟩
  have e:(!uh v)=ug v:=by
   cases h2:uh v with
   | true=>rw [Q8 h2];rfl
   | false=>rw [h2,Bool.or_false] at h1;rw [h1];rfl
  show Q (.bl (!uh v)) H;rw [e];exact k
 ·have e:ug v=false:=by
   cases h2:ug v with
   | true=>rw [h2] at h1;exact absurd rfl h1
   | false=>rfl
  rw [e] at k;exact k
theorem Wc:b8 ["shape","linked","i","j"] ["shape"] (bj Bk):=cV
theorem BZ(T:Txt K mg t):bK P w K mg base cB 1 t.rg t.uV ["shape"] S0:=by
 have S:=Wc;refine T.nO.dQ S (fun _ _ _ _ H _ _ _ hr h=>?_);obtain ⟨tp,n,L,rfl,⟨lt,us,dW,elt,hL⟩,ok,n9,kk⟩:=h;have hu:=ku (qc (show 1≤64 by decide) _) hr.units
 have FJ:((List.range n).map fun i:Nat=>V.int (0+(i:Int))).length=n:=by rw [aC,dI]
 refine ⟨_,(aB (Ap (i0:=1) (N:=["place"]) (ρ:=(fun σ=>[])) (en [] rfl) rfl S.nd rfl (Or.inl rfl) (kG rfl T.gI (ak (aR dZ (pv 0) aD) ao)) (fun _ _ _=>.nil) (fun _ _ _=>SO))
  (aB (eG dC rfl (tT (aR dZ (pv 0) aD)) (qq rfl (iR (cU (i:=2) S.nd rfl (Or.inl rfl)) (iR (cU (i:=3) S.nd rfl (Or.inl rfl)) qp)))
   (aB (yn hu (aR cz (pv 1) (pv 2)) (pv 3) fV rfl)
  (aF (yn hu (aR cz (pv 1) (pv 3)) (pv 2) fV rfl))))
  (aF (bH (pv 1))))),?_⟩
 refine dN (ma (DZ (xs:=(List.range n).map fun i:Nat=>V.int (0+(i:Int))) (n:=n) FJ (fun R h=>⟨_,rfl,tp,_,_,_,rfl,rfl,.of dW,rfl,(n:Int),rfl,by lia,by lia,h _ _ (aj.refl _) (by rw [cQ];exact DW)⟩) (cj (by lia)) (fun _ i y Hx=>Hx y=some (.dK (dk []))∧H y=none) ?_ ?_ ?_))
 ·intro D i y Ha Hb ys ⟨h1,h2⟩ hy e f
  exact ⟨f y _ hy h1,h2⟩
 ·intro D i x hx Hc R sc _ kc
  refine fun p np=>kc p _ (eN (aj.refl _) np) np ⟨_,av⟩ ⟨av,?_⟩;cases e:H p with
  | none=>rfl
  | some o=>rw [sc _ _ e] at np;cases np
 ·intro D ds H1 nD s1 inj hA eD
  have K0:dG H1 D n ds (fun _=>True) (fun _=>[]):=⟨eD,inj,fun i hi=>(hA i hi).2,fun i hi _=>(hA i hi).1.1,fun i _=>i7.nil n⟩;have fr:∀i,i<n→H (ds i)=none:=fun i hi=>(hA i hi).1.2;dsimp only [aO];refine dN ⟨_,rfl,tp,_,_,_,rfl,rfl,.of (s1 _ _ dW),rfl,lt,rfl,⟨_,.of (s1 _ _ elt)⟩,?_⟩;refine Dt (K:=K) (a:=lt) (xs:=us) (fun k σ Hc=>∃(f:Nat→List Nat) (v2 v3:Option V),σ=[some (.ref tp),some (.ref D),v2,v3]∧aj H Hc∧dG Hc D n ds (fun _=>True) f∧d7 n (L.take k) f) ⟨_,_,_,rfl,s1,K0,d7.nil n⟩ (fun k σ Hc _ ⟨_,_,_,_,sc,_⟩=>.of (sc _ _ elt)) ?_ ?_
  ·rintro k x σ Hc hx ⟨f,v2,v3,rfl,sc,KL,nb⟩
   have hk:k<L.length:=by rw [←hL.1];exact (cu.mp hx).1
   obtain ⟨b,rfl,eb⟩:=hL.2 k x L[k] hx (by simp [hk])
   have pk:=ok L[k] (bT hk);have tk:L.take (k+1)=L.take k++[L[k]]:=by rw [kA,bu hk];rfl
   generalize L[k]=p at eb pk tk;obtain ⟨p1,p2⟩:=p;dsimp only at pk eb;obtain ⟨i,rfl⟩:=gA pk.1;obtain ⟨j,rfl⟩:=gA pk.2.2.1;have hi:i<n:=by lia
   have hj:j<n:=by lia
   refine ⟨b,_,rfl,.of (sc _ _ eb),rfl,_,_,rfl,_,_,rfl,rfl,?_⟩;obtain ⟨q1,K1⟩:=KL.put hi hj trivial n9;obtain ⟨q2,K2⟩:=K1.put hj hi trivial n9;refine ⟨_,rfl,_,rfl,D,_,_,_,rfl,rfl,.of KL.lst,KL.ix hi,_,rfl,_,_,rfl,q1,?_⟩;refine ⟨_,rfl,_,rfl,D,_,_,_,rfl,rfl,.of K1.lst,K1.ix hj,_,rfl,_,_,rfl,q2,?_⟩;have off:∀(Hx:Hp) (i:Nat) (o:HO),i<n→aj H Hx→aj H (upd Hx (ds i) o):=fun Hx i o hi sx a u e=>by
    rw [aH (fun z=>by rw [z,fr i hi] at e;cases e)]
    exact sx _ _ e
   exact ⟨_,_,_,rfl,off _ _ _ hj (off _ _ _ hi sc),K2,by rw [tk];exact nb.more hi hj⟩
  ·rintro σ Hc ⟨f,v2,v3,rfl,sc,KL,nb⟩
   rw [hL.1,gu] at nb;exact ⟨_,rfl,kk _ _ _ _ sc nD fr KL nb⟩
theorem Wd:b8 ["many"] ["many"] (bj Br):=cV
theorem MV(T:Txt K mg t):bK P w K mg base cB 1 t.rB t.u5 ["many"] Tw:=by have S:=Wd;refine T.sC.dQ S (fun _ _ _ _ H _ _ _ hr h=>?_);obtain ⟨m,rfl,m1,k⟩:=h;refine ⟨_,(aF (bH (b7 jR (b7 jR (b7 kH (pv 0) (pv 0)) (b7 kH aD (pv 0))) aD))),?_⟩;exact ⟨_,rfl,_,rfl,_,_,rfl,rfl,.inl ⟨by lia,by lia⟩,_,rfl,_,_,rfl,rfl,.inl ⟨by lia,by lia⟩,_,_,rfl,rfl,_,_,rfl,rfl,k⟩
theorem We:b8 ["shape"] ["shape"] (bj Bt):=cV
theorem Wf(T:Txt K mg t):bK P w K mg base (gD P w) 1 t.rE t.u7 ["shape"] Tx:=by
 have S:=We;obtain ⟨uM,hM,rM⟩:=T.MR;refine T.vK.gU S (fun _ _ _ _ H _ _ _ hr h L=>?_);obtain ⟨tp,n,Lk,rfl,⟨lt,us,dW,elt,l7⟩,n9,k⟩:=h;refine ⟨_,(aF (cK (cL jS (aR dZ (pv 0) aD) (OY (v:=.int 9) rfl hM rM)) (aF (IZ L rfl PySem.F.excBase_ValueError T.MT rfl T.ML (ak xq ao))) cT)),?_⟩;refine ⟨_,rfl,tp,_,_,_,rfl,rfl,.of dW,rfl,_,_,rfl,rfl,_,rfl,dh (fun hc=>?_) (fun hc=>?_)⟩
 ·have hc:(9:Int)<(n:Int):=df hc
  lia
 ·exact k
theorem Wg:b8 ["thing","n"] ["thing","n"] (bj Bl):=cV
theorem Wh(T:Txt K mg t):bK P w K mg base cB 2 t.rh t.uW ["thing","n"] S6:=by
 have S:=Wg;refine T.vG.dQ S (fun _ _ _ _ H _ _ _ hr h=>?_);obtain ⟨a,zs,n,rfl,ea,lp,n1,k⟩:=h;have jb:=hr.units
 refine ⟨_,(aB (cK (PW.pt (pw_or (tP (jQ (cC (DS (K:=K)) rfl T.BX boot_isinstance (ak (pv 0) (ak (Dk (v:=.ty "list") rfl T.pH boot_list rfl) ao))))) (pw_or1 (tP (jQ (cC (Q2 (K:=K) rfl) rfl T.MM boot_all (ak (fG (N:=["place"]) (ρ:=(fun σ=>[])) (en [] rfl) rfl (fu (pv 0)) (fun _ _ _=>.nil) (fun _ _ _=>(a8 (Wa T) hr T.LY T.vF.kp T.LX bQ (ak (pv 0) ao)))) ao))))))) (aF (bH fV)) cT)
  (aF (bH (oI (S2 jb) (cC yo rfl T.nS oA (ak (pv 0) ao)) (iT (Am rfl) rfl T.pH boot_list (ak (iT Ak rfl T.gI An (ak (pv 1) ao)) ao)))))),?_⟩
 refine ⟨_,rfl,_,_,_,true,rfl,rfl,.of (.lst ea),Q7,true,rfl,fY ?_⟩;unfold HN tB;refine qH (Ra (xs:=zs.map V.int) (fun R h=>⟨_,rfl,a,rfl,⟨_,.of ea⟩,h _ _ (aj.refl _) (ju (.of ea))⟩) (by rw [aC];exact cj (by lia)) (fun _ i y _=>y=.bl true) (fun _ _ _ _ _ _ h _ _=>h) ?_ ?_)
 ·intro D i v hi Hc R sc _ kc
  obtain ⟨z,rfl⟩:∃z:Int,v=.int z:=by
   rw [bq] at hi;cases e:zs[i]? with
   | none=>rw [e] at hi;cases hi
   | some z=>rw [e] at hi;exact ⟨z,(Option.some.inj hi).symm⟩
  exact ⟨_,rfl,.int z,rfl,.int z,kc _ Hc (aj.refl _) rfl⟩
 ·intro D ys Hc sc yQ hP eD
  refine ⟨D,List.replicate ys.length true,rfl,.of (by rw [eD];exact dP _ (dP _ (Rx hP))),?_⟩
  rw [Ry];refine ⟨true,rfl,fY ?_⟩;dsimp only [iQ];have Wi:=sc _ _ ea;refine ⟨_,rfl,a,zs,rfl,Wi,lp,fun ws D2 p o n2=>?_⟩;refine ⟨_,rfl,(n:Int),rfl,fun p1 FK=>⟨p1,n,rfl,av,by lia,fun l nl=>?_⟩⟩
  have d1:D2≠p1:=fun z=>by rw [←z,av] at FK;cases FK
  have d2:D2≠l:=fun z=>by rw [←z,aH d1,av] at nl;cases nl
  refine ⟨D2,l,ws,(List.range n).map iN,rfl,rfl,.of ?_,.of ?_,?_⟩;·rw [aH d2,aH d1,av]
  ·rw [av]
   unfold dw;rw [cI];rfl
  ·rw [S5 p o]
   exact k _ (AV (AV (AV sc n2) FK) nl)
theorem Wj:b8 ["order","n"] ["order","n"] (bj Bm):=cV
theorem Wl(T:Txt K mg t):bK P w K mg base (gD P w) 3 t.rj t.uX ["order","n"] (S7 t.lh):=by
 have S:=Wj;refine T.vH.gU S (fun _ _ _ _ H _ _ _ hr h L=>?_);obtain ⟨a,zs,n,rfl,ea,lp,n1,kE,k⟩:=h;refine ⟨_,(aF (cK (tP (jQ (a8 (Wh T) hr T.L0 T.vG.kp T.LZ bQ (ak (pv 0) (ak (pv 1) ao))))) (aF (IZ L rfl PySem.F.excBase_ValueError T.MS rfl T.MK (ak xq ao))) cT)),?_⟩;refine ⟨_,rfl,_,rfl,a,zs,n,rfl,ea,lp,n1,fun H1 s1=>⟨_,rfl,dh (fun hb=>?_) (fun hb=>?_)⟩⟩;·exact ⟨by show 1≤sizeLine;decide,kE (by simpa using hb) _ s1⟩
 ·exact k (by simpa using hb) _ s1
theorem Wm:b8 ["order","turns","turn","place"] ["order"] (bj Bn):=cV
theorem Wn(T:Txt K mg t):bK P w K mg base cB 1 t.rm t.uY ["order"] S9:=by
 have S:=Wm;refine T.vI.dQ S (fun _ _ _ _ H _ _ _ hr h=>?_);obtain ⟨a,n,o,rfl,⟨ea,ho⟩,n1,kk⟩:=h;have lo:=uF ho;have lm:(o.map fun k:Nat=>V.int (k:Int)).length=n:=by rw [aC,lo]
 refine ⟨_,(aB (putL 1 S.nd (b7 IU (dD (ak aD ao)) (cC jt rfl T.iK iP (ak (pv 0) ao))))
  (aB (eG dC rfl (Ju rfl T.FH (ak (pv 0) ao)) (qq rfl (iR (cU (i:=2) S.nd rfl (Or.inl rfl)) (iR (cU (i:=3) S.nd rfl (Or.inl rfl)) qp)))
   (aF (@tQ _ _ _ _ _ _ (pv 2) (xu (pv 1) (pv 3) set_list) (by rfl) (by rfl) (by rfl))))
  (aF (bH (pv 1))))),?_⟩
 refine ⟨by show 1≤sizeLine;decide,fun l nl=>?_⟩
 have al:a≠l:=fun z=>by rw [z,nl] at ea;cases ea
 refine ⟨_,rfl,a,_,rfl,.inl (.of (by rw [aH al];exact ea)),l,_,_,rfl,rfl,av,by lia,by rw [lm];lia,?_,fun c nc=>?_⟩
 ·rw [lm,cQ]
  show 1*n≤sizeLine;rw [n_];lia
 rw [lm,cQ,Tb n o];have MW:H c=none:=none_of (aQ nl) nc;have s0:aj H (upd (upd H l (.lst [.int 0])) c (.lst ((List.range n).map fun p=>V.int (j9 o 0 p)))):=(aQ nl).trans (aQ nc);have e0:upd (upd H l (.lst [.int 0])) c (.lst ((List.range n).map fun p=>V.int (j9 o 0 p))) c=_:=av;generalize upd (upd H l (.lst [.int 0])) c (.lst ((List.range n).map fun p=>V.int (j9 o 0 p)))=H0 at s0 e0 ⊢;dsimp only [aO];refine dN ⟨_,rfl,a,rfl,⟨_,.of (s0 _ _ ea)⟩,?_⟩
 refine Jv (K:=K) (l:=a) (xs:=o.map fun k:Nat=>V.int (k:Int)) (fun i σ Hc=>aj H Hc∧∃(v2 v3:Option V),σ=[some (.ref a),some (.ref c),v2,v3]∧Hc c=some (.lst ((List.range n).map fun p=>V.int (j9 o i p))))
  ⟨s0,_,_,rfl,e0⟩ (fun i σ Hc ⟨z,_⟩=>.of (z _ _ ea)) ?_ ?_
 ·rintro i x σ Hc Tt hx ⟨sc,v2,v3,rfl,ec⟩ nT
  have hi:i<o.length:=by have:=(cu.mp hx).1;simpa using this
  have ex:x=.int ((o[i]:Nat):Int):=by rw [bq] at hx;simp [hi] at hx;exact hx.symm
  subst ex;have hp:o[i]<n:=(fI ho).mp (bT hi);have sT:aj Hc (upd Hc Tt (.tup [.int (i:Int),.int ((o[i]:Nat):Int)])):=aQ nT;have eT:upd Hc Tt (.tup [.int (i:Int),.int ((o[i]:Nat):Int)]) Tt=_:=av;generalize upd Hc Tt (.tup [.int (i:Int),.int ((o[i]:Nat):Int)])=H1 at sT eT ⊢;refine ⟨Tt,_,rfl,.of eT,rfl,_,_,rfl,_,_,rfl,rfl,?_⟩;refine ⟨_,rfl,_,rfl,_,rfl,c,_,_,o[i],rfl,rfl,sT _ _ ec,by rw [aC,dI];exact Kb hp,?_⟩
  exact ⟨eN (sc.trans sT) MW,_,_,rfl,by rw [av,Ta ho hi]⟩
 ·rintro σ Hc ⟨sc,v2,v3,rfl,ec⟩
  rw [aC,Tc ho] at ec;exact ⟨_,rfl,kk c Hc sc MW ec⟩
theorem Wo:b8 ["linked","places","one","other"] ["linked","places"] (bj Bo):=cV
theorem Wq(T:Txt K mg t):bK P w K mg base cB 1 t.rp t.uZ ["linked","places"] Td:=by
 have S:=Wo;refine T.vJ.dQ S (fun _ _ _ _ H _ _ _ hr h=>?_);obtain ⟨D,pl,n,ds,un,f,ps,rfl,KL,wc,Wr,n9,kk⟩:=h;have hu:=ku (qc (show 1≤64 by decide) _) hr.units
 have cf:∀i,i<n→un i→pl≠ds i:=fun i hi ui z=>by rw [z,KL.at' i hi ui] at wc;cases wc
 have MX:∀{i:Nat} {x:V},(ps.map fun k:Nat=>V.int (k:Int))[i]?=some x→∃p:Nat,ps[i]?=some p∧x=.int (p:Int)∧p<n∧un p:=fun{i x} hx=>by
  rw [bq] at hx;cases e:ps[i]? with
  | none=>rw [e] at hx;cases hx
  | some p=>rw [e] at hx;exact ⟨p,rfl,(Option.some.inj hx).symm,Wr p (kq e)⟩
 refine ⟨_,(aF (eG dC rfl (fu (pv 1)) (cU (i:=2) S.nd rfl (Or.inl rfl))
   (aF (eG dC rfl (fu (pv 1)) (cU (i:=3) S.nd rfl (Or.inl rfl))
   (aF (cK (cL tW (pv 2) (pv 3)) (aF (yn hu (aR cz (pv 0) (pv 2)) (pv 3) fV rfl)) cT)))))),?_⟩
 refine ⟨_,rfl,pl,rfl,⟨_,.of wc⟩,?_⟩;refine tV (K:=K) (a:=pl) (xs:=ps.map fun k:Nat=>V.int (k:Int)) (fun i σ Hc=>∃(g:Nat→List Nat) (v2 v3:Option V),σ=[some (.ref D),some (.ref pl),v2,v3]∧o9 n ds un H Hc∧dG Hc D n ds un g∧g6 n f ps i 0 g) ⟨f,_,_,rfl,.refl,KL,g6.start n f ps⟩ (fun i σ Hc _ ⟨_,_,_,_,oc,_⟩=>.of (oc _ _ wc cf)) ?_ ?_
 ·rintro i x σ Hc hx ⟨g,v2,v3,rfl,oc,Kc,la⟩
  obtain ⟨p,hp,rfl,pn,up⟩:=MX hx;refine ⟨_,rfl,pl,rfl,⟨_,.of (oc _ _ wc cf)⟩,?_⟩;refine tV (K:=K) (a:=pl) (xs:=ps.map fun k:Nat=>V.int (k:Int)) (fun j σ Hd=>∃(g:Nat→List Nat) (v3:Option V),σ=[some (.ref D),some (.ref pl),some (.int (p:Int)),v3]∧o9 n ds un H Hd∧dG Hd D n ds un g∧g6 n f ps i j g) ⟨g,_,rfl,oc,Kc,la⟩ (fun i σ Hc _ ⟨_,_,_,oc,_⟩=>.of (oc _ _ wc cf)) ?_ ?_
  ·rintro j y σ Hd hy ⟨g,v3,rfl,od,Kd,la⟩
   obtain ⟨q,hq,rfl,qn,uq⟩:=MX hy;refine ⟨_,rfl,_,rfl,rfl,_,rfl,dh (fun hb=>?_) (fun hb=>?_)⟩
   ·have ne:p≠q:=fun z=>by subst z;rw [qE,a_ rfl] at hb;cases hb
    obtain ⟨q1,K1⟩:=Kd.put pn qn up n9;exact ⟨_,rfl,_,rfl,D,_,_,_,rfl,rfl,.of Kd.lst,Kd.ix pn,_,rfl,_,_,rfl,q1,_,_,rfl,od.put pn up,K1,la.put hp hq ne⟩
   ·have e:p=q:=by
     by_cases z:(p:Int)=(q:Int);·lia
     ·exact absurd (by rw [qE,bL z];rfl) hb
    subst e;exact ⟨_,_,rfl,od,Kd,la.same hp hq⟩
  ·rintro σ Hd ⟨g,v3,rfl,od,Kd,la⟩
   rw [aC] at la;exact ⟨g,_,_,rfl,od,Kd,la.row⟩
 ·rintro σ Hc ⟨g,v2,v3,rfl,oc,Kc,la⟩
  rw [aC] at la;exact kk _ g oc Kc la.done
theorem Ws:b8 ["shape","order","linked","turns","told","place"] ["shape","order"] (bj Bp):=cV
theorem FL(T:Txt K mg t):bK P w K mg base (gD P w) 4 t.rq t.u0 ["shape","order"] (TU t.lh):=by
 have S:=Ws;refine T.pE.gU S (fun _ _ _ _ H _ _ _ hr h L=>?_);obtain ⟨tp,a,n,Lk,zs,rfl,hS,hL,ns,Wt,ea,lp,kE,kk⟩:=h;obtain ⟨lt,us,dW,elt,l7⟩:=id hS
 refine ⟨_,(aB (fW (a8 (Wl T) hr T.L4 T.vH.kp T.L3 (xP L) (ak (pv 1) (ak (aR dZ (pv 0) aD) ao))))
  (fE.m_ (aB (putL 2 S.nd (a8 (BZ T) hr T.yM T.nO.kp T.yL bQ (ak (pv 0) ao)))
  (aB (jW 3 S.nd (a8 (Wn T) hr T.L6 T.vI.kp T.L5 bQ (ak (pv 1) ao)))
  (aB (Ap (i0:=4) (N:=["place"]) (ρ:=(fun σ=>[])) (en [] rfl) rfl S.nd rfl (Or.inl rfl) (fu (pv 1)) (fun _ _ _=>.nil) (fun _ _ _=>(dD ao)))
  (aB (eG dC rfl (fu (pv 1)) (cU (i:=5) S.nd rfl (Or.inr rfl))
   (aB (@tQ _ _ _ _ _ _ (cC yo rfl T.nS oA (ak (fG (N:=["other","turns","place"]) (ρ:=(fun σ=>[σ[3]?.join,σ[5]?.join])) (en [3,5] rfl) rfl (uE (aR cz (pv 2) (pv 5))) (fun _ _ _=>(.one (cL jS (aR (oS (K:=K)) (pv 1) (pv 0)) (aR (oS (K:=K)) (pv 1) (pv 2))))) (fun _ _ _=>(pv 0))) ao)) (xu (pv 4) (pv 5) set_list) (by rfl) (by rfl) (by rfl))
  (aF (fW (a8 (Wq T) hr T.L8 T.vJ.kp T.L7 bQ (ak (pv 2) (ak (aR cz (pv 4) (pv 5)) ao)))))))
  (aF (bH (pv 4))))))))),?_⟩
 refine ⟨_,rfl,_,rfl,tp,_,_,_,rfl,rfl,.of dW,rfl,a,zs,n,rfl,ea,lp,by lia,fun no H1 s1=>kE no H1 s1,fun yes H1 s1=>?_⟩
 obtain ⟨o,rfl,ho⟩:=Tj yes;have kk:=kk o rfl ho;have lo:=uF ho;have nd:=nJ ho;have yR:H a=some (.lst (o.map fun k:Nat=>V.int (k:Int))):=by rw [ea,cI];rfl
 have lm:(o.map fun k:Nat=>V.int (k:Int)).length=n:=by rw [aC,lo]
 refine ⟨_,rfl,tp,n,Lk,rfl,⟨lt,us,s1 _ _ dW,s1 _ _ elt,l7.mono s1⟩,hL,by lia,fun H2 D ds f s2 nD pI KL nb=>?_⟩
 have nD0:=none_of s1 nD;have MY:∀i,i<n→H (ds i)=none:=fun i hi=>none_of s1 (pI i hi);have gJ:=s1.trans s2;dsimp only [aO];refine ⟨_,rfl,a,n,o,rfl,⟨gJ _ _ yR,ho⟩,by lia,fun tr H3 s3 Wu e3=>?_⟩
 have gm:=gJ.trans s3;have acW:=none_of gJ Wu;have K3:=KL.mono s3;dsimp only [aO];refine dN (ma (DZ (xs:=o.map fun k:Nat=>V.int (k:Int)) (n:=n) lm (fun R h=>⟨_,rfl,a,rfl,⟨_,.of (gm _ _ yR)⟩,h _ _ (aj.refl _) (ju (.of (gm _ _ yR)))⟩) (cj (by lia)) (fun _ i y Hx=>H3 y=none) (fun _ _ _ _ _ _ h _ _ _=>h) ?_ ?_))
 ·intro D' i x hx Hc R sc _ kc
  refine ⟨by show 0≤sizeLine;exact bY _,fun p np=>kc p _ (aQ np) np ⟨_,av⟩ (none_of sc np)⟩
 ·intro c Wv H4 nc s4 _ hA ec
  have kh:=gm.trans s4;have MZ:=none_of gm nc;have K4:=K3.mono s4;have e4:=s4 _ _ e3;have cD:c≠D:=fun z=>by rw [z,K3.lst] at nc;cases nc
  have Ww:c≠tr:=fun z=>by rw [z,e3] at nc;cases nc
  dsimp only [aO];refine dN ⟨_,rfl,a,rfl,⟨_,.of (kh _ _ yR)⟩,?_⟩
  refine tV (K:=K) (a:=a) (xs:=o.map fun k:Nat=>V.int (k:Int)) (fun k σ Hc=>∃(rs:Nat→Addr) (f g:Nat→List Nat) (v5:Option V),σ=[some (.ref tp),some (.ref a),some (.ref D),some (.ref tr),some (.ref c),v5]∧aj H Hc∧dG Hc D n ds (fun p=>k≤o.idxOf p) f∧Hc tr=some (.lst ((List.range n).map fun p=>V.int (o.idxOf p:Int)))∧Hc c=some (.lst ((List.range n).map fun p=>V.ref (rs p))) ∧
    (∀p,p<n→o.idxOf p<k→H (rs p)=none∧rs p≠c∧Hc (rs p)=some (.lst ((g p).map fun k:Nat=>V.int (k:Int)))∧g7 n o p (g p)∧jy n Lk o p (g p))∧qX n Lk o k f) ⟨Wv,f,fun _=>[],_,rfl,kh,K4.less (fun _ _ _=>trivial),e4,ec,fun p _ h=>absurd h (je _),qX.start nb ns⟩ (fun k σ Hc _ ⟨_,_,_,_,_,sc,_⟩=>.of (sc _ _ yR)) ?_ ?_
  ·rintro k x σ Hc hx ⟨rs,f,g,v5,rfl,sc,Kc,FN,B0,done,FO⟩
   have hk:k<o.length:=by have:=(cu.mp hx).1;simpa using this
   have ex:x=.int ((o[k]:Nat):Int):=by rw [bq] at hx;simp [hk] at hx;exact hx.symm
   subst ex;have hp:o[k]<n:=(fI ho).mp (bT hk);have ip:o.idxOf o[k]=k:=AW nd hk;generalize o[k]=p at hp ip ⊢;dsimp only [aO];have B1:=Kc.at' p hp (by lia)
   refine dN (ma (qH (yq ⟨_,rfl,_,rfl,D,_,_,_,rfl,rfl,.of Kc.lst,Kc.ix hp,ds p,dk (f p),rfl,.inl ⟨B1,fun ob=>?_⟩⟩)));have Kf:dG (upd Hc (ds p) (.bg ob (.dK (dk (f p))))) D n ds (fun q=>k+1≤o.idxOf q) f:=(Kc.less (fun i hi (ui:k+1≤o.idxOf i)=>show k≤o.idxOf i by lia)).upd (Kc.ne p hp) (fun i hi (ui:k+1≤o.idxOf i) z=>by have:=Kc.inj i p hi hp z;subst this;lia)
   have FP:∀{b:Addr} {xs:List V},Hc b=some (.lst xs)→b≠ds p:=fun{b xs} e z=>by rw [z,B1] at e;cases e
   have B2:upd Hc (ds p) (.bg ob (.dK (dk (f p)))) tr=_:=(aH (FP FN)).trans FN;have we:upd Hc (ds p) (.bg ob (.dK (dk (f p)))) c=_:=(aH (FP B0)).trans B0;have sf:aj H (upd Hc (ds p) (.bg ob (.dK (dk (f p))))):=fun b u e=>by
    rw [aH (fun z=>by rw [z,MY p hp] at e;cases e)]
    exact sc _ _ e
   have FQ:∀q,q<n→o.idxOf q<k→H (rs q)=none∧rs q≠c∧upd Hc (ds p) (.bg ob (.dK (dk (f p)))) (rs q)=some (.lst ((g q).map fun k:Nat=>V.int (k:Int)))∧g7 n o q (g q)∧jy n Lk o q (g q):=fun q hq B3=>by obtain ⟨d1,d2,d3,d4⟩:=done q hq B3;exact ⟨d1,d2,(aH (FP d3)).trans d3,d4⟩
   have gK:upd Hc (ds p) (.bg ob (.dK (dk (f p)))) (ds p)=some (.bg ob (.dK (dk (f p)))):=av;generalize upd Hc (ds p) (.bg ob (.dK (dk (f p))))=Hf at Kf B2 we sf FQ gK ⊢;have wg:=Kc.pl p hp;refine EH gK (fun q=>decide ((o.idxOf p:Int)<(o.idxOf q:Int))) (ku wg.len (cj (by lia))) ?_ ?_ ?_
   ·intro q hq Hx R sx hR
    have qn:=wg.2 q hq;exact ⟨_,rfl,_,rfl,tr,_,_,_,rfl,rfl,.of (sx _ _ B2),k4 qn,_,rfl,_,rfl,tr,_,_,_,rfl,rfl,.of (sx _ _ B2),k4 hp,_,_,rfl,rfl,_,rfl,hR⟩
   ·intro q hq Hx R hR
    exact ⟨_,rfl,hR⟩
   ·intro D1 H1 nD1 M0 M4
    rw [Tr] at M4;have fl:((f p).filter fun q=>decide (o.idxOf p<o.idxOf q)).length≤n:=bR (tF _ _) wg.len;refine ⟨D1,((f p).filter fun q=>decide (o.idxOf p<o.idxOf q)).map iN,rfl,by rw [M4,cI];rfl,by rw [aC];lia,fun ws D2 pw so yS=>?_⟩
    obtain ⟨ms,rfl,pm⟩:=EI pw;have B4:=Ti wg pm so;have hm:∀q,q∈ms↔q∈f p∧k<o.idxOf q:=fun q=>by rw [pm.mem_iff,bI,fk,ip]
    have Wx:jy n Lk o p ms:=fun q=>by
     rw [hm q,ip];constructor
     ·rintro ⟨h1,h2⟩
      have qn:=wg.2 q h1;exact ⟨qn,h2,((FO p q hp qn (by lia) (by lia)).mp h1).2⟩
     ·rintro ⟨h1,h2,h3⟩
      exact ⟨(FO p q hp h1 (by lia) (by lia)).mpr ⟨fun e=>by subst e;lia,h3⟩,h2⟩
    have sG:aj Hf (upd H1 D2 (.lst ((ms.map iN).map V.int))):=AV M0 yS;have pJ:upd H1 D2 (.lst ((ms.map iN).map V.int)) D2=some (.lst (ms.map fun k:Nat=>V.int (k:Int))):=by rw [av,cI];rfl
    have FR:Hf D2=none:=none_of M0 yS;have Wy:H D2=none:=none_of sf FR;generalize upd H1 D2 (.lst ((ms.map iN).map V.int))=Hg at sG pJ ⊢;have M5:D2≠c:=fun z=>by rw [z,we] at FR;cases FR
    refine ⟨_,rfl,_,rfl,c,_,_,p,rfl,rfl,sG _ _ we,by rw [aC,dI];exact Kb hp,?_⟩
    rw [Tn];have Kg:=Kf.mono sG;have Kh:dG (upd Hg c (.lst ((List.range n).map fun q=>V.ref (j_ rs p D2 q)))) D n ds (fun q=>k+1≤o.idxOf q) f:=Kg.upd cD (fun i hi ui z=>by have:=Kg.at' i hi ui;rw [z,sG _ _ we] at this;cases this)
    have sh:aj H (upd Hg c (.lst ((List.range n).map fun q=>V.ref (j_ rs p D2 q)))):=eN (sf.trans sG) MZ;have FT:upd Hg c (.lst ((List.range n).map fun q=>V.ref (j_ rs p D2 q))) c=_:=av;have M6:upd Hg c (.lst ((List.range n).map fun q=>V.ref (j_ rs p D2 q))) tr=_:=(aH (Ne.symm Ww)).trans (sG _ _ B2);have FU:upd Hg c (.lst ((List.range n).map fun q=>V.ref (j_ rs p D2 q))) D2=_:=(aH M5).trans pJ;have M7:∀q,q<n→o.idxOf q<k→upd Hg c (.lst ((List.range n).map fun q=>V.ref (j_ rs p D2 q))) (rs q)=some (.lst ((g q).map fun k:Nat=>V.int (k:Int))):=fun q hq B3=>by obtain ⟨d1,d2,d3,d4⟩:=FQ q hq B3;exact (aH d2).trans (sG _ _ d3)
    generalize upd Hg c (.lst ((List.range n).map fun q=>V.ref (j_ rs p D2 q)))=Hh at Kh sh FT M6 FU M7 ⊢;refine ⟨_,rfl,_,rfl,_,rfl,c,_,_,_,rfl,rfl,.of FT,k4 hp,?_⟩;rw [Kk];refine ⟨D,D2,n,ds,_,f,ms,rfl,Kh,FU,fun q hq=>⟨B4.lt q hq,by have:=B4.la q hq;lia⟩,by lia,fun H5 g5 off K5 con=>?_⟩
    have cf:∀{b:Addr} {xs:List V},Hh b=some (.lst xs)→H5 b=some (.lst xs):=fun{b xs} e=>off _ _ e fun i hi ui z=>by rw [z,Kh.at' i hi ui] at e;cases e
    refine ⟨j_ rs p D2,g5,dU g p ms,_,rfl,fun b u e=>off _ _ (sh _ _ e) (fun i hi _ z=>by rw [z,MY i hi] at e;cases e),K5,cf M6,cf FT,fun q hq B3=>?_,FO.step ho hp ip hm B4.lt con⟩
    by_cases e:q=p
    ·subst e
     rw [Kk,Tp];exact ⟨Wy,M5,cf FU,B4,Wx⟩
    ·rw [To e,Tq e]
     have ne:=k6 ho hq hp e;have M8:o.idxOf q<k:=by lia
     obtain ⟨d1,d2,d3,d4⟩:=FQ q hq M8;exact ⟨d1,d2,cf (M7 q hq M8),d4⟩
  ·rintro σ Hc ⟨rs,f,g,v5,rfl,sc,Kc,FN,B0,done,_⟩
   rw [lm] at done;have lt:∀p,p<n→o.idxOf p<n:=fun p hp=>by have:=(yp ((fI ho).mpr hp)).1;lia
   exact ⟨_,rfl,kk Hc c rs g sc MZ (fun p hp=>(done p hp (lt p hp)).1) ⟨B0,fun p hp=>(done p hp (lt p hp)).2.2.1⟩ fun p hp=>(done p hp (lt p hp)).2.2.2⟩
theorem Wz:b8 ["shape","order","links","place","others"] ["shape","order"] (bj Bq):=cV
theorem B5(T:Txt K mg t):bK P w K mg base (gD P w) 5 t.rA t.u4 ["shape","order"] (T1 t.lh):=by
 have S:=Wz;refine T.nQ.gU S (fun _ _ _ _ H _ _ _ hr h L=>?_);obtain ⟨tp,a,n,Lk,zs,rfl,hS,hL,ns,n9,ea,lp,kE,kk⟩:=h;obtain ⟨lt,us,dW,elt,l7⟩:=id hS
 refine ⟨_,(aB (putL 2 S.nd (dD ao))
  (aB (eG (Tv L) rfl (Ju rfl T.FH (ak (a8 (FL T) hr T.BR T.pE.kp T.BQ (xP L) (ak (pv 0) (ak (pv 1) ao))) ao)) (qq rfl (iR (cU (i:=3) S.nd rfl (Or.inr rfl)) (iR (cU (i:=4) S.nd rfl (Or.inl rfl)) qp)))
   (aF (fW (fF fq PySem.F.slot_list_extend PySem.F.type_list_extend IT (pv 2) (ak (fG (N:=["other","place"]) (ρ:=(fun σ=>[σ[3]?.join])) (en [3] rfl) rfl (fu (pv 4)) (fun _ _ _=>.nil) (fun _ _ _=>(kI (ak (cC (Im rfl) rfl T.FI boot_min (ak (pv 1) (ak (pv 0) ao))) (ak (cC (Il rfl) rfl T.BY boot_max (ak (pv 1) (ak (pv 0) ao))) ao))))) ao)))))
  (aF (bH (kI (ak (aR dZ (pv 0) aD) (ak (iT xG rfl T.wb boot_tuple (ak (cC Em rfl T.nS oA (ak (pv 2) ao)) ao)) ao))))))),?_⟩
 refine ⟨bY _,fun l nl=>?_⟩;have s0:aj H (upd H l (.lst [])):=aQ nl;have el:upd H l (.lst []) l=some (.lst []):=av;generalize upd H l (.lst [])=H0 at s0 el ⊢;dsimp only [aO];refine dN ⟨_,rfl,_,rfl,tp,a,n,Lk,zs,rfl,hS.mono s0,hL,ns,by lia,s0 _ _ ea,lp,fun no H1 s1=>kE no H1 (s0.trans s1),fun o ez ho H1 D rs g s1 nD B6 la ok=>?_⟩
 have kk:=kk o ez ho;have gY:∀p,p<n→jy n Lk o p (g p):=fun p hp=>(ok p hp).2;have ok:∀p,p<n→g7 n o p (g p):=fun p hp=>(ok p hp).1;have dF:=TZ ho n9 ok;have mK:∀p,p<n→rs p≠l:=fun p hp z=>by have:=B6 p hp;rw [z,el] at this;cases this
 have M9:D≠l:=fun z=>by rw [z,el] at nD;cases nD
 have wj:((List.range n).map fun p=>V.ref (rs p)).length=n:=by rw [aC,dI]
 refine ⟨D,rfl,⟨_,.of la.1⟩,?_⟩
 refine Jv (K:=K) (l:=D) (xs:=(List.range n).map fun p=>V.ref (rs p)) (fun k σ Hc=>∃(xs:List V) (M:au) (v3 v4:Option V),σ=[some (.ref tp),some (.ref a),some (.ref l),v3,v4]∧aj H Hc∧Kj Hc D n rs g∧Hc l=some (.lst xs)∧AZ Hc g k xs M)
  ⟨[],[],_,_,rfl,s0.trans s1,la,s1 _ _ el,⟨⟨rfl,fun k v p h=>by cases h⟩,rfl,fun z=>⟨(fun h=>by cases h),fun⟨p,q,h,_⟩=>absurd h (je _)⟩,tE⟩⟩ (fun k σ Hc ⟨_,_,_,_,_,_,z,_⟩=>.of z.1) ?_ ?_
 ·rintro k x σ Hc Tt hx ⟨xs,M,v3,v4,rfl,sc,lc,d8,so⟩ nT
  have hk:k<n:=by have:=(cu.mp hx).1;rw [wj] at this;exact this
  have ex:x=.ref (rs k):=by rw [bq,jK hk] at hx;exact (Option.some.inj hx).symm
  subst ex;have sT:aj Hc (upd Hc Tt (.tup [.int (k:Int),.ref (rs k)])):=aQ nT;have eT:upd Hc Tt (.tup [.int (k:Int),.ref (rs k)]) Tt=_:=av;generalize upd Hc Tt (.tup [.int (k:Int),.ref (rs k)])=H2 at sT eT ⊢;have ek:=ok k hk;have lg:(g k).length≤30:=bR (EJ ho ek) (by lia)
  have e2:=sT _ _ (lc.2 k hk);refine ⟨Tt,_,rfl,.of eT,rfl,_,_,rfl,_,_,rfl,rfl,?_⟩;refine ⟨_,rfl,.inl ⟨rfl,_,.of (sT _ _ d8)⟩,x6 (xs:=(g k).map fun k:Nat=>V.int (k:Int)) (fun R h=>⟨_,rfl,rs k,rfl,⟨_,.of e2⟩,h _ _ (aj.refl _) (ju (.of e2))⟩) (by rw [aC];exact cj (by lia)) (fun _ i y Hz=>∃(b:Addr) (q:Nat),y=.ref b∧(g k)[i]?=some q∧Hz b=some (.tup [.int (dt k q).1,.int (dt k q).2])) (fun Dd i y Ha Hb ys ⟨b,x,h1,h2,h3⟩ e f=>⟨b,x,h1,h2,f b _ (fun z=>by rw [z,e] at h3;cases h3) h3⟩) ?_ ?_⟩
  ·intro Dd i x hx Hz R sz _ kz
   obtain ⟨q,hq,rfl⟩:∃q:Nat,(g k)[i]?=some q∧x=.int (q:Int):=by
    rw [bq] at hx;cases e:(g k)[i]? with
    | none=>rw [e] at hx;cases hx
    | some q=>rw [e] at hx;exact ⟨q,rfl,(Option.some.inj hx).symm⟩
   refine ⟨_,rfl,_,rfl,_,_,rfl,_,rfl,_,rfl,_,_,rfl,by show 2≤sizeLine;decide,fun tp lA=>?_⟩
   exact kz _ _ (aQ lA) ⟨tp,q,rfl,hq,av⟩
  ·intro Dd ys H3 WA s3 wm yQ sI
   rw [aC] at wm;have lM:M.length≤435:=by rw [so.len];exact bR (Tu (g:=fun p=>(g p).length) (mP hk)) dF
   have lx:=so.at'.1;have yT:=s3 _ _ (sT _ _ d8);refine ⟨l,Dd,xs,ys,rfl,rfl,yT,sI,bR (show _≤900 by lia) (by decide),?_⟩
   have k9:∀b o,b≠l→H3 b=some o→upd H3 l (.lst (xs++ys)) b=some o:=fun b o nb e=>by rw [aH nb];exact e
   have mL:=sc.trans (sT.trans s3);refine ⟨xs++ys,M++(g k).map (dt k),_,_,rfl,fun b u e=>k9 b u (fun z=>by rw [z,nl] at e;cases e) (mL _ _ e),⟨k9 _ _ M9 (s3 _ _ (sT _ _ lc.1)),fun p hp=>k9 _ _ (mK p hp) (s3 _ _ (sT _ _ (lc.2 p hp)))⟩,av,so.more (fun h=>((h.mono sT).mono s3).cf yT k9) hk ok ?_⟩
   refine aY.cf (H:=H3) ⟨by rw [wm,aC],fun i v p h1 h2=>?_⟩ yT k9
   obtain ⟨b,q,rfl,hq,e⟩:=yQ i v h1;rw [bq,hq] at h2;cases h2;exact ⟨b,rfl,e⟩
 ·rintro σ Hc ⟨xs,M,v3,v4,rfl,sc,lc,d8,so⟩
  rw [wj] at so;have lM:M.length≤435:=by rw [so.len];exact dF
  have lx:=so.at'.1;have bM:∀z∈M,0≤z.2∧z.2<1000:=fun z hz=>by obtain ⟨p,q,h1,h2,rfl⟩:=(so.mem z).mp hz;have:=Ts h1 ((ok p h1).lt q h2);lia
  refine ⟨_,rfl,tp,_,_,_,rfl,rfl,.of (sc _ _ dW),rfl,_,rfl,?_⟩;dsimp only [tX];refine Ko d8 so.at' (by lia) bM fun l' ws N H3 s3 qW qR hN pN oN=>?_
  have s4:=sc.trans s3;refine ⟨l',ws,rfl,.inl ⟨.of qR,fun lt yU=>?_⟩⟩;have nU:aj H3 (upd H3 lt (.tup ws)):=aQ yU;have M_:upd H3 lt (.tup ws) lt=some (.tup ws):=av;generalize upd H3 lt (.tup ws)=Hd at nU M_ ⊢;refine ⟨by show 2≤sizeLine;decide,fun tq pK=>?_⟩
  have st:aj Hd (upd Hd tq (.tup [.int (n:Int),.ref lt])):=aQ pK;have s5:=s4.trans (nU.trans st);have bN:∀z∈N,0≤z.2∧z.2<1000:=fun z hz=>bM z (pN.mem_iff.mp hz);refine kk _ tq N s5 (none_of (s4.trans nU) pK) ⟨lt,ws,av,st _ _ M_,(hN.mono nU).mono st⟩ ⟨TV oN (pN.nodup_iff.mpr so.nd) bN,fun z=>?_⟩ (by rw [pN.length_eq];lia)
  rw [pN.mem_iff,so.mem];constructor
  ·rintro ⟨p,q,h1,h2,h3⟩
   obtain ⟨w1,w2,w3⟩:=(gY p h1 q).mp h2;exact ⟨p,q,h1,w1,w2,w3,h3⟩
  ·rintro ⟨p,q,h1,w1,w2,w3,h3⟩
   exact ⟨p,q,h1,(gY p h1 q).mpr ⟨w1,w2,w3⟩,h3⟩
theorem WB:b8 ["shape","order"] ["shape","order"] (bj Bw):=cV
theorem Na(T:Txt K mg t):bK P w K mg base (gD P w) 6 t.rH t.vb ["shape","order"] (T_ t.lh):=by have S:=WB;refine T.sD.gU S (fun _ _ _ _ H _ _ _ hr h L=>?_);obtain ⟨tp,a,n,Lk,zs,rfl,hS,hL,ns,n9,ea,lp,kE,kk⟩:=h;have jb:=hr.units;refine ⟨_,(aF (bH (oI (T7 jb) (a8 (B5 T) hr T.yO T.nQ.kp T.yN (xP L) (ak (pv 0) (ak (pv 1) ao))) (pv 0)))),?_⟩;refine ⟨_,rfl,_,rfl,tp,a,n,Lk,zs,rfl,hS,hL,ns,n9,ea,lp,kE,fun o ez ho H1 t1 M s1 _ h1 fs _=>?_⟩;exact ⟨_,rfl,t1,tp,n,M,Lk,rfl,rfl,h1,hS.mono s1,kk o ez ho _ _ s1 fs⟩
theorem WC:b8 ["shape","order"] ["shape","order"] (bj Bs):=cV
theorem FV(T:Txt K mg t):bK P w K mg base (gD P w) 5 t.rC t.u6 ["shape","order"] (Uu t.lh):=by
 have S:=WC;refine T.pF.gU S (fun _ _ _ _ H _ _ _ hr h L=>?_);obtain ⟨tp,a,n,Lk,zs,rfl,hS,hL,ns,n9,ea,lp,kE,kk⟩:=h
 refine ⟨_,(aB (bH (cC (Rg (K:=K) rfl) rfl T.MQ boot_sum (ak (fG (N:=["others"]) (ρ:=(fun σ=>[])) (en [] rfl) rfl (fu (a8 (FL T) hr T.BR T.pE.kp T.BQ (xP L) (ak (pv 0) (ak (pv 1) ao)))) (fun _ _ _=>.nil) (fun _ _ _=>(a8 (MV T) hr T.Fz T.sC.kp T.Fy bQ (ak (cC (Jq (K:=K)) rfl T.iK iP (ak (pv 0) ao)) ao)))) ao)))
  (fE.m_ cT)),?_⟩
 refine uj (qH (yq ⟨_,rfl,_,rfl,tp,a,n,Lk,zs,rfl,hS,hL,ns,by lia,ea,lp,kE,fun o ez ho H1 D rs g s1 nD B6 la ok=>⟨D,rfl,⟨_,.of la.1⟩,?_⟩⟩))
 have wj:((List.range n).map fun p=>V.ref (rs p)).length=n:=by rw [aC,dI]
 refine x6 (xs:=(List.range n).map fun p=>V.ref (rs p)) (fun R h=>h _ _ (aj.refl _) (ju (.of la.1))) (by rw [wj];exact cj (by lia)) (fun _ i y _=>y=.int (((g i).length:Int)*(g i).length+3*(g i).length+1)) (fun _ _ _ _ _ _ h _ _=>h) ?_ ?_
 ·intro D' k x hx Hc R sc _ kc
  have hk:k<n:=by have:=(cu.mp hx).1;rw [wj] at this;exact this
  have ex:x=.ref (rs k):=by rw [bq,jK hk] at hx;exact (Option.some.inj hx).symm
  subst ex;have lg:(g k).length≤30:=bR (EJ ho (ok k hk).1) (by lia)
  refine ⟨_,rfl,rs k,_,rfl,.inl (.of (sc _ _ (la.2 k hk))),(g k).length,by rw [aC];rfl,by lia,kc _ Hc (aj.refl _) rfl⟩
 ·intro D' ys Hc WD sc wm yQ nM
  rw [wj] at wm;have ey:ys=((List.range n).map fun i=>((g i).length:Int)*(g i).length+3*(g i).length+1).map V.int:=by
   refine hG (by simp [wm]) fun i h1 h2=>?_
   rw [fD,fD,mX];exact yQ i _ (bu h1)
  have es:((List.range n).map fun i=>((g i).length:Int)*(g i).length+3*(g i).length+1).sum=((((List.range n).map fun i=>(g i).length*(g i).length+3*(g i).length+1).sum:Nat):Int):=by
   generalize List.range n=l;clear ey yQ wm kk
   induction l with
   | nil=>rfl
   | cons x l ih=>rw [cR,fm,cR,fm,ih];push_cast;rfl
  refine ⟨D',_,rfl,.of (by rw [nM,ey]),?_⟩
  rw [es];exact kk o ez ho _ (s1.trans sc) _ fun M fs=>KC ho fs ok
abbrev jc:Pos:=(⟨82,30,82,55⟩:Pos)
theorem WE:b8 ["shape","linked","left","counts","picked","place","other"] ["shape"] (bj Bx):=cV
theorem WG(T:Txt K mg t)(hB:ke base mg):bK P w K mg base cB 3 t.rJ t.pC ["shape"] (Vk 139 jc):=by
 have S:=WE;refine T.vO.A8 T.tab S (fun vs H Q E h=>?_) (fun c A outer s H vs Q E hC hr h=>?_)
 ·obtain ⟨tp,n,L,rfl,_⟩:=h
  rfl
 ·obtain ⟨tp,n,L,rfl,fO,cm,n9,tab,kk⟩:=h
  have jb:=hr.units;obtain ⟨lt,us,dW,elt,l7⟩:=id fO
  refine ⟨_,(aB (putL 1 S.nd (a8 (BZ T) hr T.yM T.nO.kp T.yL bQ (ak (pv 0) ao)))
   (aB (putL 2 S.nd (iT (Am rfl) rfl T.pH boot_list (ak (iT Ak rfl T.gI An (ak (aR dZ (pv 0) aD) ao)) ao)))
   (aB (jW 3 S.nd (b7 IU (dD (ak aD ao)) (aR dZ (pv 0) aD)))
   (aB (putL 4 S.nd (dD ao))
   (aB (tS dC (cL jS (cC jt rfl T.iK iP (ak (pv 2) ao)) aD) (aB (putL 5 S.nd (UZ (i:=3) (ak (pv 2) ao) rfl T.BY rfl (hr.mono (by decide)) hB rfl hC rfl rfl (fun _ _ _ _ _ _ _=>rfl) rfl rfl rfl rfl))
   (aB (fW (fF fq PySem.F.slot_list_remove PySem.F.type_list_remove Uc (pv 2) (ak (pv 5) ao)))
   (aB (fW (fF fq jN jO ie (pv 4) (ak (pv 5) ao)))
   (aF (eG dC rfl (uE (aR cz (pv 1) (pv 5))) (cU (i:=6) S.nd rfl (Or.inl rfl))
    (aF (@Pg _ _ _ _ _ _ _ _ _ _ _ _ _ (pv 3) (pv 6) RF aD Pj set_list (by intros;rfl)))))))))
   (aF (bH (Vf rfl rfl T.pH rfl T.MP (ak (pv 4) ao))))))))),?_⟩
  refine bC fun _ jD=>⟨_,rfl,tp,n,L,rfl,fO,cm,n9,fun H1 D ds f s1 nD pI KL nb=>?_⟩;have Nb:=s1 _ _ dW;have acY:=tab.mono s1;dsimp only [aO];refine jD _ _ ?_;refine bC fun _ fP=>⟨_,rfl,tp,_,_,_,rfl,rfl,.of Nb,rfl,(n:Int),rfl,fun q1 yW=>⟨q1,n,rfl,av,by lia,fun l1 B7=>?_⟩⟩
  have s2:aj H1 (upd (upd H1 q1 (.gO 0 (n:Int))) l1 (.lst (dw n))):=(aQ yW).trans (aQ B7);have e1:upd (upd H1 q1 (.gO 0 (n:Int))) l1 (.lst (dw n)) l1=some (.lst ((List.range n).map fun k:Nat=>V.int (k:Int))):=by rw [av];rfl
  have FW:H1 l1=none:=none_of (aQ yW) B7;generalize upd (upd H1 q1 (.gO 0 (n:Int))) l1 (.lst (dw n))=H2 at s2 e1 ⊢;dsimp only [aO];refine fP _ _ ?_;refine bC fun _ iL=>⟨by show 1≤sizeLine;decide,fun l nl=>?_⟩
  refine ⟨_,rfl,tp,_,_,_,rfl,rfl,.of ((aQ nl) _ _ (s2 _ _ Nb)),rfl,l,(n:Int),[.int 0],rfl,rfl,av,by lia,by lia,?_,fun l2 FX=>?_⟩
  ·rw [cQ]
   exact bR (show [V.int 0].length*n≤1000 by simp;lia) (by decide)
  have e0:(List.replicate ((n:Int).toNat) [V.int 0]).flatten=((List.range n).map fun a=>(fB L [] a:Int)).map V.int:=by
   rw [RG n];refine w5 fun i=>?_;rw [bq,bq,bq,List.getElem?_replicate];by_cases hi:i<n;·simp [hi,fB]
   ·simp [hi]
  rw [e0];have s3:aj H2 (upd (upd H2 l (.lst [.int 0])) l2 (.lst (((List.range n).map fun a=>(fB L [] a:Int)).map V.int))):=(aQ nl).trans (aQ FX);have e2:upd (upd H2 l (.lst [.int 0])) l2 (.lst (((List.range n).map fun a=>(fB L [] a:Int)).map V.int)) l2=some (.lst (((List.range n).map fun a=>(fB L [] a:Int)).map V.int)):=av;have B8:H2 l2=none:=none_of (aQ nl) FX;generalize upd (upd H2 l (.lst [.int 0])) l2 (.lst (((List.range n).map fun a=>(fB L [] a:Int)).map V.int))=H3 at s3 e2 ⊢;dsimp only [aO];refine iL _ _ ?_;refine bC fun _ jE=>⟨bY _,fun l3 mM=>?_⟩;have s4:aj H3 (upd H3 l3 (.lst [])):=aQ mM;have e3:upd H3 l3 (.lst []) l3=some (.lst (([]:List Nat).map fun k:Nat=>V.int (k:Int))):=av;generalize upd H3 l3 (.lst [])=H4 at s4 e3 ⊢;have kh:aj H1 H4:=(s2.trans s3).trans s4;have Nc:=s1.trans kh;have m1:H l1=none:=none_of s1 FW;have m2:H l2=none:=none_of s1 (none_of s2 B8);have m3:H l3=none:=none_of s1 (none_of (s2.trans s3) mM);have Nd:l1≠l2:=fun z=>by rw [z,B8] at e1;cases e1
  have Nf:l1≠l3:=fun z=>by rw [←z,s3 _ _ e1] at mM;cases mM
  have Ng:l2≠l3:=fun z=>by rw [←z,e2] at mM;cases mM
  have KF:=KL.fr;have y1:l1≠D:=fun z=>absurd KL.lst (by rw [←z,FW];exact fun h=>by cases h)
  have y2:l2≠D:=fun z=>absurd (s2 _ _ KL.lst) (by rw [←z,B8];exact fun h=>by cases h)
  have y3:l3≠D:=fun z=>absurd ((s2.trans s3) _ _ KL.lst) (by rw [←z,mM];exact fun h=>by cases h)
  have z1:∀i,i<n→ds i≠l1:=fun i hi z=>absurd (KL.at' i hi trivial) (by rw [z,FW];exact fun h=>by cases h)
  have z2:∀i,i<n→ds i≠l2:=fun i hi z=>absurd (s2 _ _ (KL.at' i hi trivial)) (by rw [z,B8];exact fun h=>by cases h)
  have z3:∀i,i<n→ds i≠l3:=fun i hi z=>absurd ((s2.trans s3) _ _ (KL.at' i hi trivial)) (by rw [z,mM];exact fun h=>by cases h)
  obtain ⟨ps0,eP⟩:=tab.at;have pt:∀{b:Addr},H b=none→b≠139:=fun h z=>by rw [z,eP] at h;cases h
  have K4:dO H4 D n ds f:=⟨kh _ _ KF.lst,fun i hi=>(KF.at' i hi).imp (fun e=>kh _ _ e) fun⟨ob,e⟩=>⟨ob,kh _ _ e⟩⟩;dsimp only [aO];refine jE _ _ ?_;refine dN ⟨fun m σ Hc=>∃(zs Pk:List Nat) (v5 v6:Option V),σ=[some (.ref tp),some (.ref D),some (.ref l1),some (.ref l2),some (.ref l3),v5,v6]∧m=zs.length∧cO 139 H Hc∧cG 139 jc gg Hc∧dO Hc D n ds f∧Hc l1=some (.lst (zs.map fun k:Nat=>V.int (k:Int)))∧Hc l2=some (.lst (((List.range n).map fun a=>(fB L Pk a:Int)).map V.int))∧Hc l3=some (.lst (Pk.map fun k:Nat=>V.int (k:Int)))∧(zs++Pk).Perm (List.range n)∧mC n (rL L) Pk,⟨_,List.range n,[],_,_,rfl,rfl,fun b o _ e=>Nc _ _ e,tab.mono Nc,K4,(s3.trans s4) _ _ e1,s4 _ _ e2,e3,by rw [ko],mC.nil⟩,?_⟩
  rintro m σ Hc ⟨zs,Pk,v5,v6,rfl,rfl,sc,tc,Kc,ez,ec,ep,pm,pk⟩;have ll:=pm.length_eq;rw [di,dI] at ll;have zn:∀z∈zs,z<n:=fun z hz=>bb.mp (pm.mem_iff.mp (kj _ hz));refine ⟨_,rfl,l1,_,rfl,.inl (.of ez),_,_,rfl,rfl,_,rfl,dh (fun hb=>?_) (fun hb=>?_)⟩
  ·have z0:zs≠[]:=fun z=>by subst z;have:=df hb;simp at this
   refine ⟨_,fun _ _ h=>h,?_⟩;refine dN ⟨_,rfl,l1,l2,zs,_,rfl,.of ez,z0,rfl,.of ec,fun y hy=>by rw [aC,dI];exact zn y hy,tc,fun h H5 mk s5 t5=>?_⟩
   have hz:=mk.1;have hn:=zn h hz;have most:∀a,a<n→a∉Pk→(Pk.filter (rL L a)).length≤(Pk.filter (rL L h)).length:=fun a an aP=>by
    have az:a∈zs:=by
     have:=pm.mem_iff.mpr (bb.mpr an);rcases cZ.mp this with h | h;·exact h
     ·exact absurd h aP
    have:=mk.2 a az;rw [getD_map an,getD_map hn] at this;unfold fB at this;lia
   have wq:cO 139 H H5:=fun b o n e=>s5 b o n (sc b o n e);have K5:=Kc.keep (a:=139) (fun b u n e=>s5 b u n e) (fun z=>pt nD z.symm) (fun i hi=>pt (pI i hi));have FY:=s5 _ _ (pt m1) ez;have WH:=s5 _ _ (pt m2) ec;have WI:=s5 _ _ (pt m3) ep;dsimp only [aO];have ix:zs.idxOf h<zs.length:=m5 hz;have WJ:((zs.map fun k:Nat=>(k:Int)).map V.int).eraseIdx (zs.idxOf h)=(zs.erase h).map fun k:Nat=>V.int (k:Int):=by rw [cI,Ks,List.erase_eq_eraseIdx_of_idxOf rfl];rfl
   refine bC fun _ sJ=>⟨_,rfl,.inl ⟨rfl,_,.of FY⟩,_,rfl,l1,zs.map fun k:Nat=>(k:Int),zs.idxOf h,(h:Int),rfl,rfl,by rw [FY,cI];rfl,?_,fun m' dM e=>?_,?_⟩
   ·rw [bq,bu ix,tG]
    rfl
   ·have uL:m'<zs.length:=by lia
    rw [bq,bu uL] at e;have e':((zs[m']:Nat):Int)=(h:Int):=Option.some.inj e;have:=Kr dM;rw [bu uL] at this;exact this (dP some (by lia))
   rw [WJ];have o6:∀b u,b≠l1→H5 b=some u→upd H5 l1 (.lst ((zs.erase h).map fun k:Nat=>V.int (k:Int))) b=some u:=fun b u ne e=>by rw [aH ne];exact e
   have Nh:upd H5 l1 (.lst ((zs.erase h).map fun k:Nat=>V.int (k:Int))) l1=some (.lst ((zs.erase h).map fun k:Nat=>V.int (k:Int))):=av;generalize upd H5 l1 (.lst ((zs.erase h).map fun k:Nat=>V.int (k:Int)))=H6 at o6 Nh ⊢;have sL:cO 139 H H6:=fun b o n e=>o6 b o (fun z=>by rw [z,m1] at e;cases e) (wq b o n e)
   have t6:=t5.off FY (fun _ z=>by cases z) (fun _ z=>by cases z) o6
   have K6:=K5.keep o6 y1 z1;have WK:=o6 _ _ (Ne.symm Nd) WH;have FZ:=o6 _ _ (Ne.symm Nf) WI;dsimp only;refine sJ _ _ ?_;refine bC fun _ sM=>⟨_,rfl,.inl ⟨rfl,_,.of FZ⟩,_,rfl,l3,_,_,rfl,rfl,FZ,cj (by rw [aC];lia),?_⟩
   have yX:(Pk.map fun k:Nat=>V.int (k:Int))++[V.int (h:Int)]=(Pk++[h]).map fun k:Nat=>V.int (k:Int):=by rw [fj];rfl
   rw [yX];have o7:∀b u,b≠l3→H6 b=some u→upd H6 l3 (.lst ((Pk++[h]).map fun k:Nat=>V.int (k:Int))) b=some u:=fun b u ne e=>by rw [aH ne];exact e
   have Ni:upd H6 l3 (.lst ((Pk++[h]).map fun k:Nat=>V.int (k:Int))) l3=some (.lst ((Pk++[h]).map fun k:Nat=>V.int (k:Int))):=av;generalize upd H6 l3 (.lst ((Pk++[h]).map fun k:Nat=>V.int (k:Int)))=H7 at o7 Ni ⊢;have B9:cO 139 H H7:=fun b o n e=>o7 b o (fun z=>by rw [z,m3] at e;cases e) (sL b o n e)
   have t7:=t6.off FZ (fun _ z=>by cases z) (fun _ z=>by cases z) o7
   have K7:=K6.keep o7 y3 z3;have WL:=o7 _ _ Ng WK;have WM:=o7 _ _ Nf Nh;dsimp only;refine sM _ _ ?_;refine EM (a:=ds h) (kvs:=dk (f h)) (fun Q q=>⟨_,rfl,_,rfl,D,_,_,_,rfl,rfl,.of K7.lst,k4 hn,q⟩) (K7.at' h hn) fun ob Hf gK off=>?_;have Kf:=K7.bg off hn gK KL.inj (KL.ne h hn);have yA:cO 139 H Hf:=fun b o n e=>off b o (fun z=>by rw [z,pI h hn] at e;cases e) (B9 b o n e)
   have tf:cG 139 jc gg Hf:=by
    rcases K7.at' h hn with e | ⟨ob,e⟩;·exact t7.off e (fun _ z=>by cases z) (fun _ z=>by cases z) off
    ·exact t7.off e (fun _ z=>by cases z) (fun _ z=>by cases z) off
   have WN:=off _ _ (Ne.symm (z1 h hn)) WM;have we:=off _ _ (Ne.symm (z2 h hn)) WL;have B1:=off _ _ (Ne.symm (z3 h hn)) Ni;have Nj:=KL.pl h hn;refine EL (fun i σ He=>∃(v6:Option V),σ=[some (.ref tp),some (.ref D),some (.ref l1),some (.ref l2),some (.ref l3),some (.int (h:Int)),v6]∧cO 139 H He∧cG 139 jc gg He∧dO He D n ds f∧He (ds h)=some (.bg ob (.dK (dk (f h))))∧He l1=some (.lst ((zs.erase h).map fun k:Nat=>V.int (k:Int)))∧He l3=some (.lst ((Pk++[h]).map fun k:Nat=>V.int (k:Int)))∧He l2=some (.lst (((List.range n).map fun a=>(fB L Pk a:Int)+if a∈(f h).take i then 1 else 0).map V.int))) ⟨_,rfl,yA,tf,Kf,gK,WN,B1,by rw [we];simp⟩ (fun i σ He _ ⟨_,_,_,_,_,e,_⟩=>e) ?_ ?_
   ·rintro i k σ He hk ⟨v6,rfl,se,te,Ke,nV,F0,F1,sN⟩
    have km:k∈f h:=kq hk;have kn:k<n:=Nj.2 k km;have tk:=take_snoc hk;have kt:k∉(f h).take i:=fun z=>by have nd:=Nj.1;rw [←oo (i+1) (f h),tk,gr,jL] at nd;exact nd.2.2 k z k (by simp) rfl
    dsimp only [aO];refine ⟨_,rfl,_,rfl,l2,_,(k:Int),.int ((fB L Pk k:Int)+0),rfl,rfl,Int.natCast_nonneg _,.of sN,?_,_,_,rfl,rfl,l2,_,(k:Int),k,rfl,rfl,sN,?_,?_⟩
    ·refine iU ?_
     rw [bq,bq,jK kn,Option.map_some,Option.map_some,aa kt]
    ·have lr:((List.map (fun a=>(fB L Pk a:Int)+if a∈(f h).take i then 1 else 0) (List.range n)).map V.int).length=n:=by rw [aC,aC,dI]
     rw [lr];unfold jU;rw [ae (Int.natCast_nonneg _),ae (by lia),cQ]
    have WO:(((List.range n).map fun a=>(fB L Pk a:Int)+if a∈(f h).take i then 1 else 0).map V.int).set k (.int ((fB L Pk k:Int)+0+1))=((List.range n).map fun a=>(fB L Pk a:Int)+if a∈(f h).take (i+1) then 1 else 0).map V.int:=by
     rw [cI,cI,Vj];refine hE fun a _=>?_;by_cases e:a=k
     ·subst e
      rw [ae rfl];show V.int _=V.int (_+if a∈(f h).take (i+1) then 1 else 0)
      rw [ae (by rw [tk];simp)]
      congr 1
     ·rw [aa e]
      show V.int (_+if a∈(f h).take i then 1 else 0)=V.int (_+if a∈(f h).take (i+1) then 1 else 0)
      have:a∈(f h).take (i+1)↔a∈(f h).take i:=by rw [tk];simp [e]
      simp only [this]
    rw [WO];have o8:∀b u,b≠l2→He b=some u→upd He l2 (.lst (((List.range n).map fun a=>(fB L Pk a:Int)+if a∈(f h).take (i+1) then 1 else 0).map V.int)) b=some u:=fun b u ne e=>by rw [aH ne];exact e
    exact ⟨_,rfl,fun b o n e=>o8 b o (fun z=>by rw [z,m2] at e;cases e) (se b o n e),te.off sN (fun _ z=>by cases z) (fun _ z=>by cases z) o8,Ke.keep o8 y2 z2,o8 _ _ (z2 h hn) nV,o8 _ _ Nd F0,o8 _ _ (Ne.symm Ng) F1,av⟩
   ·rintro σ He ⟨v6,rfl,se,te,Ke,nV,F0,F1,sN⟩
    rw [gu] at sN;have WQ:((List.range n).map fun a=>(fB L Pk a:Int)+if a∈f h then 1 else 0)=(List.range n).map fun a=>(fB L (Pk++[h]) a:Int):=by
     refine hE fun a ha=>?_;rw [Vi];have e:a∈f h↔rL L a h=true:=by rw [nb h a hn,iG];exact or_comm
     by_cases q:a∈f h;·rw [ae q,ae (e.mp q)];rfl
     ·rw [aa q,aa fun z=>q (e.mpr z)];rfl
    rw [WQ] at sN;refine ⟨_,?_,zs.erase h,Pk++[h],_,_,rfl,rfl,se,te,Ke,F0,sN,F1,?_,pk.snoc most⟩
    ·rw [C3 hz]
     exact Nat.sub_lt (Nat.pos_of_ne_zero fun z=>z0 (List.eq_nil_of_length_eq_zero z)) Nat.one_pos
    ·refine List.Perm.trans ?_ pm
     have h1:=List.perm_cons_erase hz;refine List.Perm.trans ?_ (h1.symm.append_right Pk);rw [←gr];exact tm
  ·have z0:zs=[]:=by
    cases zs with
    | nil=>rfl
    | cons x r=>refine absurd (a_ ?_) hb;show (0:Int)<_;simp
   subst z0;dsimp only;refine ⟨_,rfl,l3,_,rfl,.of ep,?_,fun R nR=>?_⟩
   ·rw [aC]
    simp at ll;lia
   rw [←List.map_reverse];have sR:aj Hc (upd Hc R (.lst (Pk.reverse.map fun k:Nat=>V.int (k:Int)))):=aQ nR;rw [List.nil_append] at pm;refine kk _ R Pk (fun b o n e=>sR _ _ (sc b o n e)) (tc.mono sR) ?_ av pm pk;cases e:H R with
   | none=>rfl
   | some o=>
    by_cases z:R=139
    ·obtain ⟨ps,e2⟩:=tc.at
     rw [z,e2] at nR;cases nR
    ·rw [sc R o z e] at nR;cases nR
theorem WR:b8 ["linked","done","place","met","waiting","here","other"] ["linked","done","place"] (bj Bu):=cV
theorem WS(T:Txt K mg t):bK P w K mg base cB 1 t.rF t.u_ ["linked","done","place"] TJ:=by
 have S:=WR
 refine T.vL.dQ S (fun _ _ _ _ H vs Q _ hr h=>?_)
 obtain ⟨D,d,n,ds,f,done,p,rfl,KL,ed,ld,pn,Wt,kk⟩:=h
 have hu:=ku (qc (show 1≤64 by decide) _) hr.units
 refine ⟨_,(aB (putL 3 S.nd (J5 (EB (pv 2) fV J2) rfl rfl (fun h=>by cases h) (by decide)))
  (aB (putL 4 S.nd (dD (ak (pv 2) ao)))
  (aB (tS dC (cL jS (cC jt rfl T.iK iP (ak (pv 4) ao)) aD) (aB (putL 5 S.nd (Qm fq PySem.F.slot_list_pop PySem.F.type_list_pop Qs (pv 4)))
  (aF (eG dC rfl (uE (aR cz (pv 0) (pv 5))) (cU (i:=6) S.nd rfl (Or.inl rfl))
   (aF (cK (zX (AR hu (pv 6) (pv 3)) rfl) (aB (yn hu (pv 3) (pv 6) fV rfl)
  (aF (cK (nq IL (pv 6) (pv 1) rfl) (aF (fW (fF fq jN jO ie (pv 4) (ak (pv 6) ao)))) cT))) cT))))))
  (aF (bH (fG (N:=["other","place","done"]) (ρ:=(fun σ=>[σ[2]?.join,σ[1]?.join])) (en [2,1] rfl) rfl (uE (pv 3)) (fun _ _ _=>(.one (PW.pt (pw_and (cL tW (pv 0) (pv 1)) (pw_and1 (nq (AX (K:=K)) (pv 0) (pv 2) rfl)))))) (fun _ _ _=>(pv 0)))))))),?_⟩
 refine bC fun _ jD=>(ma fun mt sO=>⟨_,rfl,av,[((Sum.inl (p:Int):Key),V.bl true)],rfl,by show 1≤15;decide,?_⟩)
 have ac0:=sO
 have s0:∀b o,b≠mt→H b=some o→upd (upd H mt (.dK [])) mt (.dK (kZ [] [((Sum.inl (p:Int):Key),V.bl true)])) b=some o:=fun b o ne e=>by rw [aH ne,aH ne];exact e
 have em:upd (upd H mt (.dK [])) mt (.dK (kZ [] [((Sum.inl (p:Int):Key),V.bl true)])) mt=some (.dK (dk [p])):=by rw [av];rfl
 generalize upd (upd H mt (.dK [])) mt (.dK (kZ [] [((Sum.inl (p:Int):Key),V.bl true)]))=H1 at s0 em ⊢
 have sm:aj H H1:=fun b o e=>s0 b o (fun z=>by rw [z,sO] at e;cases e) e
 dsimp only [aO]
 refine jD _ _ ?_
 refine bC fun _ fP=>⟨_,rfl,by show 1≤sizeLine;decide,fun l nl=>?_⟩
 have sl:aj H1 (upd H1 l (.lst [V.int (p:Int)])):=aQ nl
 have el:upd H1 l (.lst [V.int (p:Int)]) l=some (.lst (([p]:List Nat).map fun k:Nat=>V.int (k:Int))):=av
 generalize upd H1 l (.lst [V.int (p:Int)])=H2 at sl el ⊢
 have mK:H l=none:=none_of sm nl
 have lm:l≠mt:=fun z=>by rw [z,em] at nl;cases nl
 have s2:=sm.trans sl
 have mD:mt≠D:=fun z=>absurd KL.lst (by rw [←z,sO];exact fun h=>by cases h)
 have lD:l≠D:=fun z=>absurd KL.lst (by rw [←z,mK];exact fun h=>by cases h)
 have F2:∀i,i<n→ds i≠mt:=fun i hi z=>absurd (KL.at' i hi trivial) (by rw [z,sO];exact fun h=>by cases h)
 have B_:∀i,i<n→ds i≠l:=fun i hi z=>absurd (KL.at' i hi trivial) (by rw [z,mK];exact fun h=>by cases h)
 have Nk:∀i,i<n→d≠ds i:=fun i hi z=>absurd (KL.at' i hi trivial) (by rw [←z,ed];exact fun h=>by cases h)
 dsimp only [aO]
 refine fP _ _ ?_
 refine dN ⟨fun m σ Hc=>∃(ks ws:List Nat) (v5 v6:Option V),σ=[some (.ref D),some (.ref d),some (.int (p:Int)),some (.ref mt),some (.ref l),v5,v6]∧m=2*(n-ks.length)+ws.length∧qU n ds H Hc∧dO Hc D n ds f∧Hc mt=some (.dK (dk ks))∧Hc l=some (.lst (ws.map fun k:Nat=>V.int (k:Int)))∧fi n (g8 n f) (·∈done) p none (fun _=>True) ks ws∧ws.length≤ks.length,⟨_,[p],[p],_,_,rfl,rfl,fun b o e _=>s2 _ _ e,(KL.mono s2).fr,sl _ _ em,el,fi.start pn,ax _⟩,?_⟩
 rintro m' σ Hc ⟨ks,ws,v5,v6,rfl,em',oc,Kc,Nl,d8,wk,wl⟩
 have plk:=wk.pl.len
 refine ⟨_,rfl,l,_,rfl,.inl (.of d8),_,_,rfl,rfl,_,rfl,dh (fun hb=>?_) (fun hb=>?_)⟩
 ·have hb:(0:Int)<((ws.map fun k:Nat=>V.int (k:Int)).length:Int):=df hb
  rw [aC] at hb
  have uS:ws≠[]:=fun z=>by rw [z] at hb;simp at hb
  obtain ⟨us,h,rfl⟩:∃us h,ws=us++[h]:=⟨ws.dropLast,ws.getLast uS,(List.dropLast_concat_getLast uS).symm⟩
  have lus:(us++[h]).length=us.length+1:=by simp
  have hh:=wk.wt h (d9 _ (bS.mpr rfl))
  have hn:h<n:=wk.pl.2 h hh.1
  have yY:=wk.pop
  refine ⟨_,fun _ _ h=>h,?_⟩
  refine ⟨_,rfl,.inl ⟨rfl,_,.of d8⟩,l,_,.int (h:Int),rfl,rfl,d8,by simp,?_⟩
  rw [fj,cR,sY,List.dropLast_concat]
  have o1:∀b u,b≠l→Hc b=some u→upd Hc l (.lst (us.map fun k:Nat=>V.int (k:Int))) b=some u:=fun b u ne e=>by rw [aH ne];exact e
  have nW:upd Hc l (.lst (us.map fun k:Nat=>V.int (k:Int))) l=some (.lst (us.map fun k:Nat=>V.int (k:Int))):=av
  have Nm:∀{Hx Hy:Hp},qU n ds H Hx→(∀b u,b≠l→Hx b=some u→Hy b=some u)→qU n ds H Hy:=fun h k b u e ne=>k b u (fun z=>by rw [z,mK] at e;cases e) (h b u e ne)
  have WT:∀{Hx Hy:Hp},qU n ds H Hx→(∀b u,b≠mt→Hx b=some u→Hy b=some u)→qU n ds H Hy:=fun h k b u e ne=>k b u (fun z=>by rw [z,sO] at e;cases e) (h b u e ne)
  have K1:=Kc.keep o1 lD B_
  have Nn:=Nm oc o1
  have Np:=o1 _ _ (Ne.symm lm) Nl
  generalize upd Hc l (.lst (us.map fun k:Nat=>V.int (k:Int)))=H3 at o1 nW K1 Nn Np ⊢
  dsimp only [aO]
  refine EM (a:=ds h) (kvs:=dk (f h)) (fun Q q=>⟨_,rfl,_,rfl,D,_,_,_,rfl,rfl,.of K1.lst,k4 hn,q⟩) (K1.at' h hn) fun ob Hf gK off=>?_
  have Kf:=K1.bg off hn gK KL.inj (KL.ne h hn)
  have WU:qU n ds H Hf:=fun b u e ne=>off b u (ne h hn) (Nn b u e ne)
  have WV:=off _ _ (Ne.symm (F2 h hn)) Np
  have Ca:=off _ _ (Ne.symm (B_ h hn)) nW
  refine EL (fun i σ He=>∃(ks us:List Nat) (v6:Option V),σ=[some (.ref D),some (.ref d),some (.int (p:Int)),some (.ref mt),some (.ref l),some (.int (h:Int)),v6]∧qU n ds H He∧dO He D n ds f∧He (ds h)=some (.bg ob (.dK (dk (f h))))∧He mt=some (.dK (dk ks))∧He l=some (.lst (us.map fun k:Nat=>V.int (k:Int)))∧fi n (g8 n f) (·∈done) p (some h) (·∈(f h).take i) ks us∧us.length≤ks.length∧h∈ks∧2*(n-ks.length)+us.length<m') ⟨ks,us,_,rfl,WU,Kf,gK,WV,Ca,⟨yY.pl,yY.st,yY.rc,yY.wt,fun x hx ox=>(yY.cl x hx ox).imp id fun e b hb=>(e b hb).imp id fun z=>⟨z.1,by simp⟩⟩,by lia,hh.1,by lia⟩ (fun i σ He _ ⟨_,_,_,_,_,_,e,_⟩=>e) ?_ ?_
  ·rintro i k σ He hk ⟨ks,us,v6,rfl,oe,Ke,nV,yZ,Cb,pL,ul,wu,lt⟩
   have km:k∈f h:=kq hk
   have kn:k<n:=(KL.pl h hn).2 k km
   have tk:=take_snoc hk
   have ple:=pL.pl.len
   dsimp only [aO]
   refine ⟨_,rfl,_,rfl,mt,_,rfl,.inl ⟨dk ks,Sum.inl (k:Int),.inl yZ,rfl,rfl⟩,_,rfl,?_⟩
   rw [Ka]
   by_cases wx:k∈ks
   ·rw [ae wx]
    refine fY ⟨ks,us,_,rfl,oe,Ke,nV,yZ,Cb,?_,ul,wu,lt⟩
    have w2:=pL.old wx
    refine ⟨w2.pl,w2.st,w2.rc,w2.wt,fun x hx ox=>(w2.cl x hx ox).imp id fun e b hb=>(e b hb).imp id fun z=>⟨z.1,fun q=>z.2 ?_⟩⟩
    rw [tk] at q
    exact (cZ.mp q).imp id bS.mp
   ·rw [aa wx]
    refine t_ ?_
    have al:=TH wx
    have o4:∀b u,b≠mt→He b=some u→upd He mt (.dK (dk (de ks k))) b=some u:=fun b u ne e=>by rw [aH ne];exact e
    refine dN ⟨_,rfl,_,rfl,mt,upd He mt (.dK (dk (de ks k))),rfl,.inl ⟨dk ks,Sum.inl (k:Int),yZ,rfl,by rw [AU];exact cj (by lia),by rw [J_]⟩,?_⟩
    have F3:upd He mt (.dK (dk (de ks k))) mt=some (.dK (dk (de ks k))):=av
    have K4:=Ke.keep o4 mD F2
    have Cc:=WT oe o4
    have Cd:=o4 _ _ lm Cb
    have F4:=o4 _ _ (F2 h hn) nV
    generalize upd He mt (.dK (dk (de ks k)))=H4 at o4 F3 K4 Cc Cd F4 ⊢
    have conv:∀{vs:List Nat},fi n (g8 n f) (·∈done) p (some h) (fun x=>x∈(f h).take i∨x=k) (de ks k) vs→fi n (g8 n f) (·∈done) p (some h) (·∈(f h).take (i+1)) (de ks k) vs:=fun w2=>⟨w2.pl,w2.st,w2.rc,w2.wt,fun x hx ox=>(w2.cl x hx ox).imp id fun e b hb=>(e b hb).imp id fun z=>⟨z.1,fun q=>z.2 (by
     rw [tk] at q
     exact (cZ.mp q).imp id bS.mp)⟩⟩
    have pl4:=(pL.pl.add kn).len
    dsimp only
    refine ⟨_,rfl,_,rfl,d,_,rfl,.inr (.of (Cc d _ ed Nk)),rfl,qT done,_,rfl,dh (fun hb=>?_) (fun hb=>?_)⟩
    ·have hb:ee (.int (k:Int)) (done.map fun k:Nat=>V.int (k:Int))=true:=hb
     rw [AY,fk] at hb
     refine ⟨_,rfl,.inl ⟨rfl,_,.of Cd⟩,_,rfl,l,_,_,rfl,rfl,Cd,cj (by rw [aC];lia),?_⟩
     have o5:∀b u,b≠l→H4 b=some u→upd H4 l (.lst ((us.map fun k:Nat=>V.int (k:Int))++[V.int (k:Int)])) b=some u:=fun b u ne e=>by rw [aH ne];exact e
     exact ⟨de ks k,us++[k],_,rfl,Nm Cc o5,K4.keep o5 lD B_,o5 _ _ (B_ h hn) F4,o5 _ _ (Ne.symm lm) F3,by rw [av,fj];rfl,conv (pL.new wx kn wu hh.2 ⟨hn,km⟩ (.inl ⟨hb,rfl⟩)),by rw [al,di,kr];lia,i6.mpr (.inl wu),by rw [al,di,kr];lia⟩
    ·have hb:¬ee (.int (k:Int)) (done.map fun k:Nat=>V.int (k:Int))=true:=hb
     rw [AY,fk] at hb
     exact ⟨de ks k,us,_,rfl,Cc,K4,F4,F3,Cd,conv (pL.new wx kn wu hh.2 ⟨hn,km⟩ (.inr ⟨hb,rfl⟩)),by rw [al];lia,i6.mpr (.inl wu),by rw [al];lia⟩
  ·rintro σ He ⟨ks,us,v6,rfl,oe,Ke,nV,yZ,Cb,pL,ul,wu,lt⟩
   rw [gu] at pL
   exact ⟨_,lt,ks,us,_,_,rfl,rfl,oe,Ke,yZ,Cb,pL.next fun b hb=>hb.2,ul⟩
 ·have w0:ws=[]:=by
   cases ws with
   | nil=>rfl
   | cons x r=>
    refine absurd (a_ ?_) hb
    show (0:Int)<_
    simp
  subst w0
  dsimp only
  refine uj (yq (EM (a:=mt) (kvs:=dk ks) (fun Q q=>⟨_,rfl,q⟩) (.inl Nl) fun ob Hf gK off=>?_))
  have WW:Hf d=some (.tup (done.map fun k:Nat=>V.int (k:Int))):=off _ _ (fun z=>by rw [z,sO] at ed;cases ed) (oc d _ ed Nk)
  refine EH gK (fun q=>!decide (q=p) && !decide (q∈done)) (cj (by lia)) ?_ ?_ ?_
  ·intro q hq Hx R sx hR
   refine ⟨_,rfl,_,rfl,rfl,_,rfl,dh (fun hb=>?_) (fun hb=>?_)⟩
   ·have ne:¬q=p:=fun z=>by
     subst z
     rw [qE,a_ rfl] at hb
     cases hb
    refine ⟨_,rfl,_,rfl,d,_,rfl,.inr (.of (sx _ _ WW)),rfl,qT done,_,rfl,?_⟩
    rw [bL ne,Bool.not_false,Bool.true_and] at hR
    have e:(if true=true then !ee (.int (q:Int)) (done.map fun k:Nat=>V.int (k:Int)) else ee (.int (q:Int)) (done.map fun k:Nat=>V.int (k:Int))) = !decide (q∈done):=by rw [ae rfl,AY]
    rw [e]
    exact hR
   ·have eq:q=p:=by
     by_cases z:(q:Int)=(p:Int)
     ·lia
     ·exact absurd (by rw [qE,bL z];rfl) hb
    rw [a_ eq,Bool.not_true,wU] at hR
    exact hR
  ·intro q hq Hx R hR
   exact ⟨_,rfl,hR⟩
  ·intro r Hg nr sg eg
   refine kk Hg r _ (fun b u e ne=>sg _ _ (off _ _ (fun z=>by rw [z,sO] at e;cases e) (oc b u e ne))) eg ⟨ks,wk.pl,wk.done,by rw [aC]⟩
theorem WX:b8 ["shape","done","place"] ["shape","done","place"] (bj Bv):=cV
theorem WY(T:Txt K mg t):bK P w K mg base (gD P w) 2 t.rG t.va ["shape","done","place"] TL:=by
 have S:=WX;refine T.vM.gU S (fun _ _ _ _ H _ _ _ hr h L=>?_);obtain ⟨tp,d,n,Lk,done,p,rfl,hS,hL,n9,ed,ld,pn,kk⟩:=h
 refine ⟨_,(aB (fW (a8 (Wf T) hr T.L_ T.vK.kp T.L9 (xP L) (ak (pv 0) ao)))
  (aF (bH (a8 (MV T) hr T.Fz T.sC.kp T.Fy bQ (ak (cC jt rfl T.iK iP (ak (a8 (WS T) hr T.Mb T.vL.kp T.Ma bQ (ak (a8 (BZ T) hr T.yM T.nO.kp T.yL bQ (ak (pv 0) ao)) (ak (pv 1) (ak (pv 2) ao)))) ao)) ao))))),?_⟩
 refine ⟨_,rfl,tp,n,Lk,rfl,hS,n9,?_⟩;refine ⟨_,rfl,tp,n,Lk,rfl,hS,hL,by lia,fun H1 D ds f s1 nD pI KL nb=>?_⟩
 refine ⟨_,rfl,_,rfl,D,d,n,ds,f,done,p,rfl,KL,s1 _ _ ed,ld,pn,by lia,fun H2 r xs off er near=>?_⟩
 have s2:aj H H2:=fun b u e=>off b u (s1 _ _ e) fun i hi z=>by rw [z,pI i hi] at e;cases e
 have c9:=near.le;exact ⟨r,xs,rfl,.inl (.of er),xs.length,rfl,by lia,kk H2 f xs.length s2 nb near⟩
theorem WZ:b8 ["linked","whence","place"] ["linked","whence","place"] (bj Bz):=cV
theorem W0(T:Txt K mg t):bK P w K mg base cB 1 t.rN t.vd ["linked","whence","place"] Vv:=by
 have S:=WZ;refine T.vQ.dQ S (fun _ _ _ _ H _ Q _ hr h=>?_);obtain ⟨D,wd,n,L,ds,f,wl,p,rfl,ls,lf,ew,uS,pn,n9,kk⟩:=h;have hu:=ku (qc (show 1≤64 by decide) _) hr.units
 refine ⟨_,(aF (bH (fG (N:=["other","whence"]) (ρ:=(fun σ=>[σ[1]?.join])) (en [1] rfl) rfl (uE (aR cz (pv 0) (pv 2))) (fun _ _ _=>(.one (zX (AR hu (pv 0) (pv 1)) rfl))) (fun _ _ _=>(pv 0))))),?_⟩;refine uj (yq (LA (a:=ds p) (kvs:=dk (f p)) (fun Q q=>⟨_,rfl,_,rfl,D,_,_,_,rfl,rfl,.of lf.lst,k4 pn,q⟩) (lf.at' p pn) fun ob Hf gK off fz=>?_));have F5:=off _ _ (uS p pn) ew;have Kf:=lf.bg off pn gK ls.inj (ls.ne p pn);have wg:=(ls.pl p pn).len;refine EH gK (fun q=>!decide (q∈bO wl)) (cj (by lia)) ?_ ?_ ?_
 ·intro q hq Hx R sx hR
  refine ⟨_,rfl,_,rfl,wd,_,rfl,.inl ⟨dy wl,Sum.inl (q:Int),.inl (sx _ _ F5),rfl,rfl⟩,_,rfl,?_⟩;have e:(gb (dy wl) (Sum.inl (q:Int):Key)).isSome=decide (q∈bO wl):=by
   rw [Bd,zL];by_cases h:q∈bO wl;·rw [a_ h,lookup_mem.mpr h]
   ·rw [bL h]
    cases z:wl.lookup q with
    | none=>rfl
    | some o=>exact absurd (lookup_mem.mp (by rw [z];rfl)) h
  rw [e];exact hR
 ·intro q hq Hx R hR
  exact ⟨_,rfl,hR⟩
 ·intro r Hg nr sg eg
  have W2:iJ n ds H Hg:=fun b u e ne=>by
   refine sg _ _ ?_;by_cases z:b=ds p
   ·rcases ne with h | ⟨yK,u',rfl⟩
    ·exact absurd z (h p pn)
    ·rw [z] at e ⊢
     exact fz _ _ e
   ·exact off _ _ z e
  refine kk Hg r W2 ⟨sg _ _ Kf.lst,fun i hi=>(Kf.at' i hi).imp (fun e=>sg _ _ e) fun⟨ob,e⟩=>⟨ob,sg _ _ e⟩⟩ ?_ eg;cases e:H r with
  | none=>rfl
  | some o=>
   by_cases z:r=ds p;·rw [z,gK] at nr;cases nr
   ·rw [off r o z e] at nr;cases nr
theorem W3:b8 ["whence","place","walk"] ["whence","place"] (bj By):=cV
theorem W4(T:Txt K mg t):bK P w K mg base cB 1 t.rK t.vc ["whence","place"] Vw:=by
 have S:=W3;refine T.vP.dQ S (fun _ _ _ _ H _ _ _ hr h=>?_);obtain ⟨wd,wl,v,ws,rfl,ew,bk,w9,kk⟩:=h;have hu:=ku (qc (show 1≤64 by decide) _) hr.units
 refine ⟨_,(aB (putL 2 S.nd (dD ao))
  (aB (tS dC (cL Ii (pv 1) tO) (aB (fW (fF fq jN jO ie (pv 2) (ak (pv 1) ao)))
  (aF (putL 1 S.nd (SM hu (pv 0) (pv 1) (fun _ _=>rfl))))))
  (aF (bH (pv 2))))),?_⟩
 refine dN ⟨bY _,fun l nl=>?_⟩;have s0:aj H (upd H l (.lst [])):=aQ nl;have el:upd H l (.lst []) l=some (.lst (([]:List Nat).map fun k:Nat=>V.int (k:Int))):=av;generalize upd H l (.lst [])=H0 at s0 el ⊢;dsimp only [aO];refine dN ⟨fun m σ Hc=>∃(as rs:List Nat) (po:Option Nat),σ=[some (.ref wd),some (oV po),some (.ref l)]∧m=rs.length∧ws=as++rs∧(match po with | none=>rs=[] | some p=>Back wl p rs)∧aj H Hc∧Hc l=some (.lst (as.map fun k:Nat=>V.int (k:Int))),⟨_,[],ws,some v,rfl,rfl,rfl,bk,s0,el⟩,?_⟩
 rintro m σ Hc ⟨as,rs,po,rfl,rfl,nX,hp,sc,d8⟩;refine ⟨_,rfl,rfl,_,rfl,dh (fun hb=>?_) (fun hb=>?_)⟩
 ·cases po with
  | none=>exact absurd hb (by decide)
  | some p=>
   have hp:Back wl p rs:=hp;have lrs:as.length+rs.length=ws.length:=by rw [nX,di]
   refine ⟨_,fun _ _ h=>h,?_⟩;refine dN ⟨_,rfl,.inl ⟨rfl,_,.of d8⟩,_,rfl,l,_,_,rfl,rfl,d8,cj (by rw [aC];lia),?_⟩
   have yX:(as.map fun k:Nat=>V.int (k:Int))++[oV (some p)]=(as++[p]).map fun k:Nat=>V.int (k:Int):=by rw [fj];rfl
   rw [yX];have W5:H l=none:=nl;have s1:aj H (upd Hc l (.lst ((as++[p]).map fun k:Nat=>V.int (k:Int)))):=eN sc W5;have nW:upd Hc l (.lst ((as++[p]).map fun k:Nat=>V.int (k:Int))) l=some (.lst ((as++[p]).map fun k:Nat=>V.int (k:Int))):=av;generalize upd Hc l (.lst ((as++[p]).map fun k:Nat=>V.int (k:Int)))=H1 at s1 nW ⊢;dsimp only [aO];cases hp with
   | last h1=>
    refine ⟨_,rfl,_,rfl,wd,oV none,rfl,.inl ⟨dy wl,Sum.inl (p:Int),.inl (s1 _ _ ew),rfl,by rw [Bd,h1];rfl⟩,?_⟩
    exact ⟨0,Nat.one_pos,as++[p],[],none,rfl,rfl,by rw [nX];simp,rfl,s1,nW⟩
   | @step _ p2 Nq h1 h2=>
    refine ⟨_,rfl,_,rfl,wd,oV (some p2),rfl,.inl ⟨dy wl,Sum.inl (p:Int),.inl (s1 _ _ ew),rfl,by rw [Bd,h1];rfl⟩,?_⟩
    exact ⟨Nq.length,Nat.lt_succ_self _,as++[p],Nq,some p2,rfl,rfl,by rw [nX];simp,h2,s1,nW⟩
 ·cases po with
  | some p=>exact absurd (by rfl) hb
  | none=>have hp:rs=[]:=hp;subst hp;rw [ko] at nX;subst nX;exact ⟨_,rfl,kk _ _ sc nl d8⟩
theorem W6:b8 ["linked","place","start","whence","heads","reached","head","fresh","other"] ["linked","place","start"] (bj BA):=cV
theorem W7(T:Txt K mg t):bK P w K mg base cB 2 t.rO t.ve ["linked","place","start"] Vx:=by
 have S:=W6;refine T.vR.dQ S (fun _ _ _ _ H _ _ _ hr h=>?_);obtain ⟨D,n,L,ds,f,x,st,rfl,ls,lf,pw,lt,xs,n9,kN,kk⟩:=h;have hu:=ku (qc (show 1≤64 by decide) _) hr.units
 refine ⟨_,(aB (putL 3 S.nd (J5 (EB (pv 1) tO (EB (pv 2) tO J2)) rfl rfl (fun h=>by cases h) (by decide)))
  (aB (putL 4 S.nd (dD (ak (pv 2) ao)))
  (aB (tS dC (cL jS (cC jt rfl T.iK iP (ak (pv 4) ao)) aD) (aB (putL 5 S.nd (dD ao))
  (aB (eG dC rfl (fu (pv 4)) (cU (i:=6) S.nd rfl (Or.inl rfl))
   (aB (putL 7 S.nd (a8 (W0 T) hr T.Mj T.vQ.kp T.Mi bQ (ak (pv 0) (ak (pv 3) (ak (pv 6) ao)))))
  (aF (eG dC rfl (fu (pv 7)) (cU (i:=8) S.nd rfl (Or.inl rfl))
   (aB (yn hu (pv 3) (pv 8) (pv 6) rfl)
  (aF (cK (zX (AR hu (pv 8) (aR cz (pv 0) (pv 1))) rfl) (aF (fW (fF fq jN jO ie (pv 5) (ak (pv 8) ao)))) (aF (cK (zX (AR hu (pv 8) (aR cz (pv 0) (pv 2))) rfl) (aF (bH (b7 DL (dD (ak (pv 1) ao)) (a8 (W4 T) hr T.Mh T.vP.kp T.Mg bQ (ak (pv 3) (ak (pv 8) ao)))))) cT)))))))))
  (aF (putL 4 S.nd (pv 5))))))
  (aF (bH tO))))),?_⟩
 have xn:x<n:=xs.1;have sn:st<n:=xs.2.1;have nY:∀i j,i<n→(j∈f i↔aL n L i j):=fun i j hi=>by
  constructor
  ·intro h
   exact ⟨hi,(ls.pl i hi).2 j h,(ls.nb i j hi).mp h⟩
  ·intro h
   exact (ls.nb i j hi).mpr h.2.2
 have ir:∀a,¬aL n L a a:=fun a h=>by rcases h.2.2 with e | e <;> (have:=lt _ e;lia)
 have Nr:x≠st:=fun z=>ir x (by have:=xs;rw [←z] at this;exact this)
 have inK:∀(wl:List (Nat×Option Nat)) (q:Nat),(gb (dy wl) (Sum.inl (q:Int):Key)).isSome=decide (q∈bO wl):=fun wl q=>by
  rw [Bd,zL];by_cases h:q∈bO wl;·rw [a_ h,lookup_mem.mpr h]
  ·rw [bL h]
   cases z:wl.lookup q with
   | none=>rfl
   | some o=>exact absurd (lookup_mem.mp (by rw [z];rfl)) h
 have inD:∀(i q:Nat),(gb (dk (f i)) (Sum.inl (q:Int):Key)).isSome=decide (q∈f i):=fun i q=>by
  rw [Ka];by_cases h:q∈f i;·rw [ae h,a_ h];rfl
  ·rw [aa h,bL h];rfl
 have y4:∀{Hx:Hp},dO Hx D n ds f→∀{b:Addr},(Hx b=none∨∃xs,Hx b=some (.lst xs))→∀i,i<n→b≠ds i:=fun{Hx} k {b} hb i hi z=>by subst z;rcases k.at' i hi with e | ⟨ob,e⟩ <;> rcases hb with h | ⟨xs,h⟩ <;> (rw [e] at h;cases h)
 refine bC fun _ jD=>(ma fun wd wA=>⟨_,rfl,_,rfl,av,[((Sum.inl (x:Int):Key),V.aN),((Sum.inl (st:Int):Key),V.aN)],rfl,by show 2≤15;decide,?_⟩)
 have y6:upd (upd H wd (.dK [])) wd (.dK (kZ [] [((Sum.inl (x:Int):Key),V.aN),((Sum.inl (st:Int):Key),V.aN)])) wd=some (.dK (dy [(x,none),(st,none)])):=by
  rw [av];have e1:putK (dy []) (Sum.inl (x:Int):Key) (oV none)=dy ([]++[(x,none)]):=Fl (by simp [bO])
  have e2:putK (dy [(x,none)]) (Sum.inl (st:Int):Key) (oV none)=dy ([(x,none)]++[(st,none)]):=Fl (by simp [bO];exact Ne.symm Nr)
  show some (HO.dK (putK (putK (dy []) (Sum.inl (x:Int):Key) (oV none)) (Sum.inl (st:Int):Key) (oV none)))=_;rw [e1];exact dP (fun z=>some (HO.dK z)) e2
 have s0:aj H (upd (upd H wd (.dK [])) wd (.dK (kZ [] [((Sum.inl (x:Int):Key),V.aN),((Sum.inl (st:Int):Key),V.aN)]))):=eN (aQ wA) wA;generalize upd (upd H wd (.dK [])) wd (.dK (kZ [] [((Sum.inl (x:Int):Key),V.aN),((Sum.inl (st:Int):Key),V.aN)]))=H0 at y6 s0 ⊢;have F6:∀i,i<n→wd≠ds i:=y4 lf (.inl wA);have wD:wd≠D:=fun z=>by rw [z,lf.lst] at wA;cases wA
 dsimp only [aO];refine jD _ _ ?_;refine bC fun _ fP=>⟨_,rfl,by show 1≤sizeLine;decide,fun h0 W8=>?_⟩
 have s1:aj H0 (upd H0 h0 (.lst [V.int (st:Int)])):=aQ W8;have Nt:upd H0 h0 (.lst [V.int (st:Int)]) h0=some (.lst (([st]:List Nat).map fun k:Nat=>V.int (k:Int))):=av;generalize upd H0 h0 (.lst [V.int (st:Int)])=H1 at s1 Nt ⊢;have Ce:=s0.trans s1;have W9:dO H1 D n ds f:=⟨Ce _ _ lf.lst,fun i hi=>(lf.at' i hi).imp (fun e=>Ce _ _ e) fun⟨ob,e⟩=>⟨ob,Ce _ _ e⟩⟩;dsimp only [aO];refine fP _ _ ?_;refine dN ⟨fun m σ Hc=>∃(hl:Addr) (hs:List Nat) (wl:List (Nat×Option Nat)) (v5 v6 v7 v8:Option V),σ=[some (.ref D),some (.int (x:Int)),some (.int (st:Int)),some (.ref wd),some (.ref hl),v5,v6,v7,v8]∧m=2*(n-wl.length)+hs.length∧iJ n ds H Hc∧dO Hc D n ds f∧Hc wd=some (.dK (dy wl))∧Hc hl=some (.lst (hs.map fun k:Nat=>V.int (k:Int)))∧fK n (aL n L) wl x st hs none,⟨_,h0,[st],[(x,none),(st,none)],_,_,_,_,rfl,rfl,fun b u e _=>Ce _ _ e,W9,s1 _ _ y6,Nt,fK.start Nr xn sn⟩,?_⟩;rintro m σ Hc ⟨hl,hs,wl,v5,v6,v7,v8,rfl,rfl,oc,lc,F7,wB,bf⟩;have sP:∀{Hx:Hp},iJ n ds H Hx→dO Hx D n ds f→∀{b:Addr},Hx b=none→H b=none:=fun{Hx} o k {b} hb=>by
  cases e:H b with
  | none=>rfl
  | some u=>rw [o b u e (.inl (y4 k (.inl hb)))] at hb;cases hb
 refine ⟨_,rfl,hl,_,rfl,.inl (.of wB),_,_,rfl,rfl,_,rfl,dh (fun hb=>?_) (fun hb=>?_)⟩
 ·have h1:1≤hs.length:=by have:=df hb;rw [aC] at this;lia
  refine ⟨_,fun _ _ h=>h,?_⟩;refine dN ⟨bY _,fun rl nZ=>?_⟩;have W_:=sP oc lc nZ;have o2:aj Hc (upd Hc rl (.lst [])):=aQ nZ;have Cf:upd Hc rl (.lst []) rl=some (.lst (([]:List Nat).map fun k:Nat=>V.int (k:Int))):=av;generalize upd Hc rl (.lst [])=H2 at o2 Cf ⊢;have Xa:rl≠hl:=fun z=>by rw [z,wB] at nZ;cases nZ
  have Nu:rl≠wd:=fun z=>by rw [z,F7] at nZ;cases nZ
  have rD:rl≠D:=fun z=>by rw [z,lc.lst] at nZ;cases nZ
  have Xb:∀i,i<n→ds i≠rl:=fun i hi=>Ne.symm (y4 lc (.inl nZ) i hi);have Xc:hl≠wd:=fun z=>by rw [z,F7] at wB;cases wB
  dsimp only [aO];refine dN ⟨_,rfl,hl,rfl,⟨_,.of (o2 _ _ wB)⟩,?_⟩
  refine tV (K:=K) (a:=hl) (xs:=hs.map fun k:Nat=>V.int (k:Int)) (fun i σ He=>∃(rs:List Nat) (jF:List (Nat×Option Nat)) (v6 v7 v8:Option V),σ=[some (.ref D),some (.int (x:Int)),some (.int (st:Int)),some (.ref wd),some (.ref hl),some (.ref rl),v6,v7,v8]∧iJ n ds H He∧dO He D n ds f∧He wd=some (.dK (dy jF))∧He hl=some (.lst (hs.map fun k:Nat=>V.int (k:Int)))∧He rl=some (.lst (rs.map fun k:Nat=>V.int (k:Int)))∧fK n (aL n L) jF x st (hs.drop i++rs) none∧rs.length+wl.length≤jF.length)
   ⟨[],wl,_,_,_,rfl,fun b u e ne=>o2 _ _ (oc b u e ne),⟨o2 _ _ lc.lst,fun i hi=>(lc.at' i hi).imp (fun e=>o2 _ _ e) fun⟨ob,e⟩=>⟨ob,o2 _ _ e⟩⟩,o2 _ _ F7,o2 _ _ wB,Cf,by simpa using bf,by simp⟩ (fun i σ He _ ⟨_,_,_,_,_,_,_,_,_,e,_⟩=>.of e) ?_ ?_
  ·rintro i xv σ He qK ⟨rs,jF,v6,v7,v8,rfl,oe,le,mO,F8,y7,pM,len⟩
   have hi:i<hs.length:=by have:=(cu.mp qK).1;rw [aC] at this;exact this
   have Xd:xv=.int ((hs[i]:Nat):Int):=by rw [bq,bu hi] at qK;exact (Option.some.inj qK).symm
   subst Xd;have Xe:hs.drop i=hs[i]::hs.drop (i+1):=C2 hi;rw [Xe,List.cons_append] at pM;generalize hs[i]=h at pM ⊢;obtain ⟨pO,Nv⟩:=pM.way h bV;have hn:h<n:=Nv.lt h bV;have Xf:=pM.opened;dsimp only [aO];refine bC fun _ iL=>⟨_,rfl,_,rfl,_,rfl,D,wd,n,L,ds,f,jF,h,rfl,ls,le,mO,F6,hn,n9,fun H3 r o3 l3 nr er=>?_⟩;have rHe:He r=none:=nr;have y8:∀{b:Addr} {u:HO},(∀i,i<n→b≠ds i)→He b=some u→H3 b=some u:=fun{b u} ne e=>o3 _ _ e (.inl ne);have Xg:iJ n ds H H3:=fun b u e ne=>o3 _ _ (oe b u e ne) ne;have Xh:=y8 F6 mO;have Xi:=y8 (y4 le (.inr ⟨_,F8⟩)) F8;have Xj:=y8 (y4 le (.inr ⟨_,y7⟩)) y7;have ac9:=sP oe le nr;have rr:r≠rl:=fun z=>by rw [z,y7] at nr;cases nr
   have eI:r≠wd:=fun z=>by rw [z,mO] at nr;cases nr
   obtain ⟨fr,Cg⟩:∃fr,fr=(f h).filter fun q=>!decide (q∈bO jF):=⟨_,rfl⟩;rw [←Cg] at er;have Xk:fr.Nodup:=by rw [Cg];exact (ls.pl h hn).1.filter _
   have fin:∀q∈fr,q∈f h∧q∉bO jF:=fun q hq=>by rw [Cg] at hq;obtain ⟨q1,q2⟩:=bI.mp hq;exact ⟨q1,fun z=>by rw [a_ z] at q2;cases q2⟩
   dsimp only [aO];refine iL _ _ ?_;refine ⟨_,rfl,r,rfl,⟨_,.of er⟩,?_⟩
   refine tV (K:=K) (a:=r) (xs:=fr.map fun k:Nat=>V.int (k:Int)) (fun j σ Hg=>∃(jG:List Nat) (eW:List (Nat×Option Nat)) (v8:Option V),σ=[some (.ref D),some (.int (x:Int)),some (.int (st:Int)),some (.ref wd),some (.ref hl),some (.ref rl),some (.int (h:Int)),some (.ref r),v8]∧iJ n ds H Hg∧dO Hg D n ds f∧Hg wd=some (.dK (dy eW))∧Hg hl=some (.lst (hs.map fun k:Nat=>V.int (k:Int)))∧Hg rl=some (.lst (jG.map fun k:Nat=>V.int (k:Int)))∧Hg r=some (.lst (fr.map fun k:Nat=>V.int (k:Int)))∧bO eW=bO jF++fr.take j∧fK n (aL n L) eW x st (hs.drop (i+1)++jG) (some h)∧gh n (aL n L) eW x st none h pO∧jG.length+wl.length≤eW.length)
    ⟨rs,jF,_,rfl,Xg,l3,Xh,Xi,Xj,er,by simp,Xf,Nv,len⟩ (fun j σ Hg _ ⟨_,_,_,_,_,_,_,_,_,e,_⟩=>.of e) ?_ ?_
   ·rintro j yv σ Hg F9 ⟨jG,eW,v8,rfl,og,lg,F_,Ga,Gb,Nw,ek,sQ,Ci,Gd⟩
    have hj:j<fr.length:=by have:=(cu.mp F9).1;rw [aC] at this;exact this
    have Xl:yv=.int ((fr[j]:Nat):Int):=by rw [bq,bu hj] at F9;exact (Option.some.inj F9).symm
    subst Xl;have tk:=take_snoc (bu hj);obtain ⟨y9,wC⟩:=fin fr[j] (bT hj);have sS:fr[j]∉bO eW:=fun z=>by
     rw [ek] at z;rcases cZ.mp z with z | z;·exact wC z
     ·have nd:=Xk
      rw [←oo j fr,jL] at nd;exact nd.2.2 _ z _ (by rw [C2 hj];exact bV) rfl
    generalize fr[j]=o at y9 wC sS tk ⊢;have on:o<n:=(ls.pl h hn).2 o y9;have Nx:aL n L h o:=(nY h o hn).mp y9;have w9:=sQ.len;dsimp only [aO];refine bC fun _ jE=>⟨_,rfl,_,rfl,_,rfl,wd,upd Hg wd (.dK (dy (eW++[(o,some h)]))),rfl,.inl ⟨dy eW,Sum.inl (o:Int),F_,rfl,by rw [Vs];exact cj (by lia),by rw [←Fl sS];rfl⟩,?_⟩
    have o4:∀b u,b≠wd→Hg b=some u→upd Hg wd (.dK (dy (eW++[(o,some h)]))) b=some u:=fun b u ne e=>by rw [aH ne];exact e
    have Cj:upd Hg wd (.dK (dy (eW++[(o,some h)]))) wd=some (.dK (dy (eW++[(o,some h)]))):=av;generalize upd Hg wd (.dK (dy (eW++[(o,some h)])))=H4 at o4 Cj ⊢;have Ge:iJ n ds H H4:=fun b u e ne=>o4 b u (fun z=>by rw [z,wA] at e;cases e) (og b u e ne)
    have pP:=lg.keep o4 wD (fun i hi=>Ne.symm (F6 i hi));have Ny:=o4 _ _ Xc Ga;have Gf:=o4 _ _ Nu Gb;have Nz:=o4 _ _ eI Nw;have NA:bO (eW++[(o,some h)])=bO jF++fr.take (j+1):=by unfold bO at ek ⊢;rw [fj,ek,tk,gr];rfl
    have Gg:=Ci.more (o,some h);have ac_:jG.length+wl.length+1≤(eW++[(o,some h)]).length:=by rw [di];exact Nat.succ_le_succ Gd
    dsimp only;refine jE _ _ ?_;have NB:∀i,i<n→∀(Hx:Hp),dO Hx D n ds f→Rd Hx (ds i) (.dK (dk (f i))):=fun i hi Hx k=>(k.at' i hi).imp id fun⟨ob,e⟩=>⟨ob,e⟩;refine ⟨_,rfl,_,rfl,_,rfl,D,_,_,_,rfl,rfl,.of pP.lst,k4 xn,ds x,_,rfl,.inl ⟨dk (f x),Sum.inl (o:Int),NB x xn _ pP,rfl,rfl⟩,_,rfl,dh (fun hb=>?_) (fun hb=>?_)⟩
    ·have nx:¬aL n L x o:=fun z=>by rw [inD,a_ ((nY x o xn).mpr z)] at hb;cases hb
     have Xm:=Ci.next gc sS on sQ.xk Nx nx;refine ⟨_,rfl,.inl ⟨rfl,_,.of Gf⟩,_,rfl,rl,_,_,rfl,rfl,Gf,cj (by rw [aC];lia),?_⟩
     have yX:(jG.map fun k:Nat=>V.int (k:Int))++[V.int (o:Int)]=(jG++[o]).map fun k:Nat=>V.int (k:Int):=by rw [fj];rfl
     rw [yX];have o5:∀b u,b≠rl→H4 b=some u→upd H4 rl (.lst ((jG++[o]).map fun k:Nat=>V.int (k:Int))) b=some u:=fun b u ne e=>by rw [aH ne];exact e
     refine ⟨jG++[o],eW++[(o,some h)],_,rfl,fun b u e ne=>o5 b u (fun z=>by rw [z,W_] at e;cases e) (Ge b u e ne),pP.keep o5 rD Xb,o5 _ _ (Ne.symm Nu) Cj,o5 _ _ (Ne.symm Xa) Ny,av,o5 _ _ rr Nz,NA,?_,Gg,?_⟩
     ·refine sQ.met sS on (fun z=>absurd z nx) (fun _=>⟨_,Xm⟩) fun u=>?_
      rw [←gr,cZ,bS];constructor
      ·rintro (h | h)
       ·exact .inl h
       ·exact .inr ⟨h,nx⟩
      ·rintro (h | ⟨h,_⟩)
       ·exact .inl h
       ·exact .inr h
     ·rw [di]
      show jG.length+1+wl.length≤_;lia
    ·have xo:aL n L x o:=by refine (nY x o xn).mp (gB fun z=>hb ?_);rw [inD,bL z];rfl
     refine ⟨_,rfl,_,rfl,_,rfl,D,_,_,_,rfl,rfl,.of pP.lst,k4 sn,ds st,_,rfl,.inl ⟨dk (f st),Sum.inl (o:Int),NB st sn _ pP,rfl,rfl⟩,_,rfl,dh (fun pj=>?_) (fun pj=>?_)⟩
     ·have so:¬aL n L st o:=fun z=>by rw [inD,a_ ((nY st o sn).mpr z)] at pj;cases pj
      obtain ⟨bare,b_,blt⟩:=Vu pw lt Ci sS sQ.xk xs xo so Nx;have NC:(x::o::h::pO).length≤n:=Fn b_ blt;refine uj (Rz ⟨_,rfl,by show 1≤sizeLine;decide,fun l1 B7=>?_⟩)
      have Gh:aj H4 (upd H4 l1 (.lst [V.int (x:Int)])):=aQ B7;have nW:upd H4 l1 (.lst [V.int (x:Int)]) l1=some (.lst [V.int (x:Int)]):=av;generalize upd H4 l1 (.lst [V.int (x:Int)])=H5 at Gh nW ⊢;have Xn:Back (eW++[(o,some h)]) o (o::h::pO):=.step (Lz sS) Gg.bk;refine ⟨_,rfl,_,rfl,wd,eW++[(o,some h)],o,o::h::pO,rfl,Gh _ _ Cj,Xn,by simp at NC ⊢;lia,fun H6 l2 s6 FX Xo=>?_⟩
      have Cf:([V.int (x:Int)]++(o::h::pO).map fun k:Nat=>V.int (k:Int))=(x::o::h::pO).map fun k:Nat=>V.int (k:Int):=rfl;refine ⟨l1,l2,_,_,rfl,rfl,s6 _ _ nW,Xo,?_,fun pr Ck=>?_⟩
      ·rw [aC]
       exact mP (cj (show 1+(o::h::pO).length≤1000 by simp at NC ⊢;lia))
      rw [Cf];have pQ:aj H4 H6:=Gh.trans s6;have ND:iJ n ds H H6:=fun b u e ne=>pQ _ _ (Ge b u e ne);have Xp:dO H6 D n ds f:=⟨pQ _ _ pP.lst,fun i hi=>(pP.at' i hi).imp (fun e=>pQ _ _ e) fun⟨ob,e⟩=>⟨ob,pQ _ _ e⟩⟩;exact kk _ pr (x::o::h::pO) (fun b u e ne=>(aQ Ck) _ _ (ND b u e ne)) (sP ND Xp Ck) av bare b_ blt
     ·have so:aL n L st o:=by refine (nY st o sn).mp (gB fun z=>pj ?_);rw [inD,bL z];rfl
      refine ⟨jG,eW++[(o,some h)],_,rfl,Ge,pP,Cj,Ny,Gf,Nz,NA,?_,Gg,by lia⟩
      refine sQ.met sS on (fun _=>so) (fun z=>absurd xo z) fun u=>?_;constructor;·exact .inl
      ·rintro (h | ⟨_,h⟩)
       ·exact h
       ·exact absurd xo h
   ·rintro σ Hg ⟨jG,eW,v8,rfl,og,lg,F_,Ga,Gb,Nw,ek,sQ,Ci,Gd⟩
    rw [aC,gu] at ek;have sh:mG (aL n L) eW h:=fun u e=>by
     rw [ek];have Gi:=(nY h u hn).mpr e;by_cases z:u∈bO jF;·exact kj _ z
     ·refine d9 _ ?_
      rw [Cg];exact bI.mpr ⟨Gi,by rw [bL z];rfl⟩
    exact ⟨jG,eW,_,_,_,rfl,og,lg,F_,Ga,Gb,sQ.Fm sh,Gd⟩
  ·rintro σ He ⟨rs,jF,v6,v7,v8,rfl,oe,le,mO,F8,y7,pM,len⟩
   rw [aC,List.drop_length,List.nil_append] at pM;dsimp only [aO];have l9:=pM.len;refine ⟨_,rfl,_,?_,rl,rs,jF,_,_,_,_,rfl,rfl,oe,le,mO,y7,pM⟩;lia
 ·have h0:hs=[]:=by
   cases hs with
   | nil=>rfl
   | cons y r=>refine absurd (a_ ?_) hb;show (0:Int)<_;simp
  subst h0;exact kN _ oc lc fun V z=>bf.no ir V z
theorem Xq:b8 ["shape","linked","place","start","ring"] ["shape"] (bj BB):=cV
theorem Xr(T:Txt K mg t):bK P w K mg base cB 3 t.rP t.vf ["shape"] Vy:=by
 have S:=Xq;refine T.vS.dQ S (fun _ _ _ _ H _ Q _ hr h=>?_);obtain ⟨tp,n,L,rfl,fO,pw,lt,n9,kN,kk⟩:=h;have cm:eB n L:=fun p hp=>by have:=lt p hp;exact ⟨this.1,by lia,by lia,this.2.2⟩
 refine ⟨_,(aB (putL 1 S.nd (a8 (BZ T) hr T.yM T.nO.kp T.yL bQ (ak (pv 0) ao)))
  (aB (eG dC rfl (kG rfl T.gI (ak (aR dZ (pv 0) aD) ao)) (cU (i:=2) S.nd rfl (Or.inl rfl))
   (aF (eG dC rfl (uE (aR cz (pv 1) (pv 2))) (cU (i:=3) S.nd rfl (Or.inl rfl))
   (aB (putL 4 S.nd (a8 (W7 T) hr T.Ml T.vR.kp T.Mk bQ (ak (pv 1) (ak (pv 2) (ak (pv 3) ao)))))
  (aF (cK (cL Ii (pv 4) tO) (aF (bH (pv 4))) cT))))))
  (aF (bH tO)))),?_⟩
 refine bC fun _ jD=>⟨_,rfl,tp,n,L,rfl,fO,cm,by lia,fun H1 D ds f s1 nD pI KL nb=>?_⟩
 obtain ⟨sU,us,dW,elt,l7⟩:=id (fO.mono s1);have ls:Fo n L D ds f:=⟨KL.inj,KL.ne,KL.pl,nb⟩;have nY:∀i j,i<n→(j∈f i↔aL n L i j):=fun i j hi=>by
  constructor
  ·intro h
   exact ⟨hi,(ls.pl i hi).2 j h,(ls.nb i j hi).mp h⟩
  ·intro h
   exact (ls.nb i j hi).mpr h.2.2
 have Gj:∀{Hx:Hp},iJ n ds H1 Hx→aj H Hx:=fun{Hx} o b u e=>o b u (s1 _ _ e) (.inl fun i hi z=>by rw [z,pI i hi] at e;cases e)
 dsimp only [aO];refine jD _ _ ?_;refine dN ⟨_,rfl,tp,_,_,_,rfl,rfl,.of dW,rfl,(n:Int),rfl,by lia,by lia,?_⟩
 refine oG (fun i σ Hc=>∃(v2 v3 v4:Option V),σ=[some (.ref tp),some (.ref D),v2,v3,v4]∧iJ n ds H1 Hc∧dO Hc D n ds f∧∀x y z,x<i→¬mF (aL n L) (List.range n) x y z) ⟨_,_,_,rfl,fun b u e _=>e,KL.fr,fun x y z h=>absurd h (je _)⟩ ?_ ?_
 ·rintro i σ Hc hi ⟨v2,v3,v4,rfl,oc,lc,nh⟩
  have hi:i<n:=by simpa using hi
  dsimp only [aO];refine LA (a:=ds i) (kvs:=dk (f i)) (fun Q q=>⟨_,rfl,_,rfl,D,_,_,_,rfl,rfl,.of lc.lst,by simpa using k4 hi,q⟩) (lc.at' i hi) fun ob Hf gK off fz=>?_
  have Kf:=lc.bg off hi gK ls.inj (ls.ne i hi);have y9:iJ n ds H1 Hf:=fun b u e ne=>by
   have e2:=oc b u e ne;by_cases z:b=ds i
   ·rcases ne with h | ⟨yK,u',rfl⟩
    ·exact absurd z (h i hi)
    ·rw [z] at e2 ⊢
     exact fz _ _ e2
   ·exact off _ _ z e2
  have Xs:(0+(i:Int))=(i:Int):=by lia
  rw [Xs];refine EL (fun j σ He=>∃(v3 v4:Option V),σ=[some (.ref tp),some (.ref D),some (.int (i:Int)),v3,v4]∧iJ n ds H1 He∧dO He D n ds f∧He (ds i)=some (.bg ob (.dK (dk (f i))))∧∀y z,y∈(f i).take j→¬mF (aL n L) (List.range n) i y z) ⟨_,_,rfl,y9,Kf,gK,fun y z h=>by simp at h⟩ (fun j σ He _ ⟨_,_,_,_,_,e,_⟩=>e) ?_ ?_
  ·rintro j k σ He hk ⟨v3,v4,rfl,oe,le,nV,Cm⟩
   have km:k∈f i:=kq hk;have tk:=take_snoc hk;dsimp only [aO];refine dN ⟨_,rfl,_,rfl,_,rfl,D,n,L,ds,f,i,k,rfl,ls,le,pw,lt,(nY i k hi).mp km,n9,fun H' o' l' no=>?_,fun H' r zs o' nr er bare b_ blt=>?_⟩
   ·dsimp only [aO]
    refine ⟨_,rfl,rfl,false,rfl,fY ?_⟩;refine ⟨_,_,rfl,fun b u e ne=>o' _ _ (oe b u e ne) ne,l',o' _ _ nV (.inr ⟨_,_,rfl⟩),fun y z hy=>?_⟩;rw [tk] at hy;rcases cZ.mp hy with h | h;·exact Cm y z h
    ·rw [bS.mp h]
     exact no _ z
   ·dsimp only [aO]
    refine ⟨_,rfl,rfl,true,rfl,t_ ?_⟩;refine ⟨_,rfl,kk _ r zs (Gj fun b u e ne=>o' _ _ (oe b u e ne) ne) ?_ er bare b_ blt⟩;cases e:H r with
    | none=>rfl
    | some u=>rw [Gj oe _ _ e] at nr;cases nr
  ·rintro σ He ⟨v3,v4,rfl,oe,le,nV,Cm⟩
   rw [gu] at Cm;refine ⟨_,_,_,rfl,oe,le,fun x y z hx h=>?_⟩;by_cases e:x=i
   ·subst e
    exact Cm y z ((nY x y hi).mpr h.xy) h
   ·exact nh x y z (by lia) h
 ·rintro σ Hc ⟨v2,v3,v4,rfl,oc,lc,nh⟩
  refine kN _ (Gj oc) fun x y z h=>?_;have:=bb.mp h.xV;exact nh x y z (by simpa using this) h
theorem Xt:b8 ["shape","order"] ["shape"] (bj BC):=cV
theorem Xu(T:Txt K mg t)(hB:ke base mg):bK P w K mg base cB 7 t.rQ t.vg ["shape"] (Vz 139 jc):=by
 have S:=Xt
 have Xv:=WG (P:=P) (w:=w) (base:=base) T hB
 refine T.sE.dQ S (fun _ _ _ _ H _ _ _ hr h=>?_)
 obtain ⟨tp,n,L,rfl,fO,pw,lt,ph,tab,kk,kR⟩:=h
 have cm:eB n L:=fun p hp=>by
  have:=lt p hp
  exact ⟨this.1,by lia,by lia,this.2.2⟩
 have lB:k8 L:=fun p hp=>by
  have:=lt p hp
  lia
 refine ⟨_,(aB (putL 1 S.nd (a8 Xv hr T.Mf T.vO.kp T.Me bQ (ak (pv 0) ao)))
  (aB (cK (jQ (a8 (Na T) hr T.FC T.sD.kp T.FA l_ (ak (pv 0) (ak (pv 1) ao)))) (aF (bH (kI (ak xq (ak (pv 1) ao))))) cT)
  (aF (bH (kI (ak xq (ak (a8 (Xr T) hr T.Mn T.vS.kp T.Mm bQ (ak (pv 0) ao)) ao))))))),?_⟩
 refine bC fun _ jD=>⟨_,rfl,tp,n,L,rfl,fO,cm,by lia,tab,fun H1 D Pk s1 t1 nD eD pm pk=>?_⟩
 obtain ⟨ps,eP⟩:=tab.at
 have Cn:=Lr fO eP s1
 have pr:Pk.reverse.Perm (List.range n):=(mV Pk).trans pm
 have lr:Pk.reverse.length=n:=by rw [pr.length_eq,dI]
 dsimp only [aO]
 refine jD _ _ ?_
 refine dN ⟨_,rfl,_,rfl,tp,D,n,L,Pk.reverse.map iN,rfl,Cn,cm,lB,ph,by rw [eD,cI];rfl,by rw [aC];lia,fun no=>?_,fun o eo po H2 M s2 fM=>?_⟩
 ·exact absurd (pr.map iN) no
 ·have Xw:o=Pk.reverse:=by
   have:=dP (List.map Int.toNat) eo
   rw [cI,cI] at this
   have i1:∀l:List Nat,l.map (Int.toNat ∘ iN)=l:=fun l=>by
    conv=>rhs;rw [←tI l]
    exact hE fun a _=>cQ a
   rw [i1,i1] at this
   exact this.symm
  subst Xw
  have sP:∀{Hx:Hp},cO 139 H Hx→cG 139 jc gg Hx→∀{R:Addr},Hx R=none→H R=none:=fun{Hx} sx tx {R} nR=>by
   cases e:H R with
   | none=>rfl
   | some u=>
    by_cases z:R=139
    ·obtain ⟨ps,e2⟩:=tx.at
     rw [z,e2] at nR;cases nR
    ·rw [sx R u z e] at nR;cases nR
  have Co:cO 139 H H2:=fun b u n e=>s2 _ _ (s1 b u n e)
  have t2:=t1.mono s2
  by_cases eM:M=L
  ·refine ⟨true,by rw [a_ eM],t_ ?_⟩
   rw [eM] at fM
   have pJ:=s2 _ _ eD
   refine ⟨_,rfl,by show 2≤sizeLine;decide,fun R nR=>?_⟩
   have s3:aj H2 (upd H2 R (.tup [.str "order",.ref D])):=aQ nR
   exact kk _ R D Pk.reverse (fun b u n e=>s3 _ _ (Co b u n e)) (t2.mono s3) (sP Co t2 nR) nD av (s3 _ _ pJ) pr fM
  ·refine ⟨false,by rw [bL eM],fY ?_⟩
   have no:∀o:List Nat,o.Perm (List.range n)→¬b9 n L o L:=fun o po f=>eM (b9.uniq fM (UE pw lt po f pm pk))
   dsimp only [iQ]
   refine uj ⟨_,rfl,tp,n,L,rfl,Cn.mono s2,pw,lt,by lia,fun H3 s3 nh=>?_,fun H3 r zs s3 nr er bare b_ blt=>?_⟩
   ·obtain ⟨x,y,z,h⟩:=Vo pw lt no
    exact absurd h (nh x y z)
   ·refine ⟨by show 2≤sizeLine;decide,fun R nR=>?_⟩
    have s4:aj H3 (upd H3 R (.tup [.str "ring",.ref r])):=aQ nR
    have NF:cO 139 H H3:=fun b u n e=>s3 _ _ (Co b u n e)
    have t3:=t2.mono s3
    exact kR _ R r zs (fun b u n e=>s4 _ _ (NF b u n e)) (t3.mono s4) (sP NF t3 nR) (sP Co t2 nr) av (s4 _ _ er) bare b_ blt no
theorem Xx:b8 ["_law_cell","_law_at","_law_x"] ["_law_cell","_law_at"] (bj BD):=cV
theorem Xy(T:Txt K mg t):bK P w K mg base cB 1 t.rR t.vh ["_law_cell","_law_at"] RA:=by
 have S:=Xx;refine T.vT.dQ S (fun _ _ _ _ H _ _ _ hr h=>?_);obtain ⟨c,a,rfl,ha,k⟩:=h
 refine ⟨_,(aB (cK (cL PK (pv 0) (b7 PB aD aD)) (aF (bH (pv 0))) cT)
  (aB (putL 2 S.nd (b7 qw (b7 jR (b7 jR (b7 kH (b7 qw (pv 0) aD) aD) (b7 kH (pv 1) aD)) aD) aD))
  (aB (putL 2 S.nd (b7 qw (b7 jR (b7 jR (b7 kH (pv 2) (pv 2)) (b7 kH aD (pv 2))) (pv 1)) aD))
  (aF (bH (b7 jR (b7 kH (pv 2) aD) (b7 qw (b7 jR (b7 kH (pv 2) (pv 2)) (b7 kH aD (pv 1))) aD))))))),?_⟩
 refine ⟨_,rfl,_,_,rfl,rfl,⟨by decide,by decide,by decide⟩,_,_,rfl,rfl,_,rfl,dh (fun h=>?_) (fun h=>?_)⟩
 ·have h:=df h
  exact ⟨_,rfl,k _ (dz (by decide) h)⟩
 ·refine ⟨_,rfl,_,_,rfl,rfl,(by show (0:Int)<2147483647;decide),_,_,rfl,rfl,.inr ⟨by decide,by decide⟩,_,rfl,_,_,rfl,rfl,.inr ⟨by decide,by decide⟩,_,_,rfl,rfl,_,_,rfl,rfl,_,_,rfl,rfl,(by show (0:Int)<2147483629;decide),?_⟩
  have b0:=m6 (c % 2147483647*48271+a*69621+11) (show (2147483629:Int)≠0 by decide)
  have b1:=qd (c % 2147483647*48271+a*69621+11) (show (0:Int)<2147483629 by decide)
  generalize (c % 2147483647*48271+a*69621+11) % 2147483629=x at b0 b1 ⊢;refine ⟨_,rfl,_,rfl,_,_,rfl,rfl,.inl ⟨by lia,by lia⟩,_,rfl,_,_,rfl,rfl,.inl ⟨by decide,by decide⟩,_,_,rfl,rfl,_,rfl,_,_,rfl,rfl,_,_,rfl,rfl,(by show (0:Int)<2147483587;decide),?_⟩
  have c0:=m6 (x*x+48271*x+a) (show (2147483587:Int)≠0 by decide)
  have c1:=qd (x*x+48271*x+a) (show (0:Int)<2147483587 by decide)
  generalize (x*x+48271*x+a) % 2147483587=y at c0 c1 ⊢;refine ⟨_,rfl,_,_,rfl,rfl,.inr ⟨by decide,by decide⟩,_,rfl,_,rfl,_,_,rfl,rfl,.inl ⟨by lia,by lia⟩,_,rfl,_,_,rfl,rfl,.inl ⟨by decide,by decide⟩,_,_,rfl,rfl,_,_,rfl,rfl,(by show (0:Int)<2147483579;decide),_,_,rfl,rfl,k _ (Int.add_nonneg (Int.mul_nonneg (m6 _ (by decide)) (by decide)) (m6 _ (by decide)))⟩
theorem Xz:b8 ["_law_pen","_law_many","_law_at","_law_cell","_law_found"] ["_law_pen","_law_many"] (bj BE):=cV
theorem ki(T:Txt K mg t):bK P w K mg base cB 2 t.rS t.vi ["_law_pen","_law_many"] (RB K):=by
 have S:=Xz;refine T.gH.dQ S (fun _ _ _ _ H _ _ _ hr h=>?_);obtain ⟨P0,a,ns,many,rfl,⟨x,y,eP,hx,hy⟩,hS,m1,mm,k⟩:=h;have jb:=hr.units
 refine ⟨_,(aB (cK (cL Ih (aR cz (pv 0) aD) (pv 1)) (aB (putL 2 S.nd (aR cz (pv 0) aD))
  (aB (putL 3 S.nd aD)
  (aB (cK (cL Ih (pv 2) (cC jt rfl T.iK iP (ak (aR cz (pv 0) aD) ao))) (aF (putL 3 S.nd (aR cz (aR cz (pv 0) aD) (pv 2)))) (aF (cK (cL jS (cC jt rfl T.iK iP (ak (aR cz (pv 0) aD) ao)) aD) (aF (putL 3 S.nd (b7 jR (b7 qw (aR cz (aR cz (pv 0) aD) (b7 qw (b7 kH (pv 2) aD) (cC jt rfl T.iK iP (ak (aR cz (pv 0) aD) ao)))) aD) (b7 kH (pv 2) aD)))) cT)))
  (aB (@tQ _ _ _ _ _ _ (b7 jR (pv 2) aD) (xu (pv 0) aD set_list) (by rfl) (by rfl) (by rfl))
  (aF (@tQ _ _ _ _ _ _ (a8 (Xy T) hr T.Mp T.vT.kp T.Mo bQ (ak (pv 3) (ak (pv 2) ao))) (xu (pv 0) aD set_list) (by rfl) (by rfl) (by rfl))))))) cT)
  (aB (putL 4 S.nd (b7 qw (aR cz (pv 0) aD) (pv 1)))
  (aB (@tQ _ _ _ _ _ _ (b7 Q1 (aR cz (pv 0) aD) (pv 1)) (xu (pv 0) aD set_list) (by rfl) (by rfl) (by rfl))
  (aF (bH (pv 4)))))),?_⟩
 have fJ:=me.seq hS;refine ⟨_,rfl,P0,_,_,_,rfl,rfl,.of eP,rfl,_,rfl,_,_,rfl,rfl,_,rfl,dh (fun aV=>?_) (fun aV=>?_)⟩
 ·refine ⟨_,rfl,P0,_,_,_,rfl,rfl,.of eP,rfl,?_⟩
  refine ⟨_,rfl,_,rfl,P0,_,_,_,rfl,rfl,.of eP,rfl,a,ns.map V.int,rfl,.inl fJ,_,_,rfl,rfl,_,rfl,dh (fun h1=>?_) (fun h1=>?_)⟩
  ·have h1:x<((ns.map V.int).length:Int):=df h1
   obtain ⟨v,hv,mv⟩:=Jj (xs:=ns.map V.int) hx h1;obtain ⟨c,_,rfl⟩:=bD.mp mv;refine ⟨_,rfl,P0,_,_,_,rfl,rfl,.of eP,rfl,_,rfl,a,ns.map V.int,_,_,rfl,rfl,fJ,hv,?_⟩;refine ⟨_,rfl,_,_,rfl,rfl,_,rfl,P0,_,1,1,rfl,rfl,eP,rfl,?_⟩;refine ⟨_,rfl,_,rfl,c,x,rfl,hx,fun r y_=>⟨_,rfl,P0,_,2,2,rfl,rfl,av,rfl,?_⟩⟩;have q0:=m6 (r) (show many≠0 by lia)
   have q1:=qd (r) (show 0<many by lia)
   have q2:=zS (y_) (show 0≤many by lia)
   refine ⟨_,rfl,P0,_,_,_,rfl,rfl,.of av,rfl,_,rfl,_,_,rfl,rfl,(show 0<many by lia),?_⟩
   refine ⟨_,rfl,P0,_,_,_,rfl,rfl,.of av,rfl,_,rfl,_,_,rfl,rfl,⟨show 0<many by lia,mm⟩,_,rfl,P0,_,2,2,rfl,rfl,av,rfl,?_⟩
   exact ⟨_,rfl,k _ _ q0 q1 (((aI.refl H).trans aI.jX).trans (aI.jX.trans aI.jX)) ⟨x+1,r / many,av,by lia,q2⟩⟩
  ·refine ⟨_,rfl,P0,_,_,_,rfl,rfl,.of eP,rfl,a,ns.map V.int,rfl,.inl fJ,_,_,rfl,rfl,_,rfl,?_⟩
   have Cp:=eP;have sV:=fJ;have sl:=aj.refl H;refine dh (fun h2=>?_) (fun h2=>?_)
   ·have hl:0<(ns.map V.int).length:=by have:=df h2;lia
    have XA:=m6 (x*7) (show ((ns.map V.int).length:Int)≠0 by lia)
    have XB:=qd (x*7) (show (0:Int)<((ns.map V.int).length:Int) by lia)
    obtain ⟨v,hv,mv⟩:=Jj (xs:=ns.map V.int) XA XB;obtain ⟨c,_,rfl⟩:=bD.mp mv;refine ⟨_,rfl,P0,_,_,_,rfl,rfl,.of Cp,rfl,_,rfl,_,_,rfl,rfl,.inr ⟨by decide,by decide⟩,_,rfl,P0,_,_,_,rfl,rfl,.of Cp,rfl,a,ns.map V.int,rfl,.inl sV,_,_,rfl,rfl,(show (0:Int)<((ns.map V.int).length:Int) by lia),a,ns.map V.int,_,_,rfl,rfl,sV,hv,_,_,rfl,rfl,(show (0:Int)<1000003 by decide),_,rfl,_,_,rfl,rfl,.inr ⟨by decide,by decide⟩,_,_,rfl,rfl,?_⟩
    refine ⟨_,rfl,_,_,rfl,rfl,_,rfl,P0,_,1,1,rfl,rfl,Cp,rfl,?_⟩;refine ⟨_,rfl,_,rfl,_,x,rfl,hx,fun r y_=>⟨_,rfl,P0,_,2,2,rfl,rfl,av,rfl,?_⟩⟩;have q0:=m6 (r) (show many≠0 by lia)
    have q1:=qd (r) (show 0<many by lia)
    have q2:=zS (y_) (show 0≤many by lia)
    refine ⟨_,rfl,P0,_,_,_,rfl,rfl,.of av,rfl,_,rfl,_,_,rfl,rfl,(show 0<many by lia),?_⟩
    refine ⟨_,rfl,P0,_,_,_,rfl,rfl,.of av,rfl,_,rfl,_,_,rfl,rfl,⟨show 0<many by lia,mm⟩,_,rfl,P0,_,2,2,rfl,rfl,av,rfl,?_⟩
    exact ⟨_,rfl,k _ _ q0 q1 (((aI.of sl).trans aI.jX).trans (aI.jX.trans aI.jX)) ⟨x+1,r / many,av,by lia,q2⟩⟩
   ·
    refine ⟨_,rfl,_,_,rfl,rfl,_,rfl,P0,_,1,1,rfl,rfl,Cp,rfl,?_⟩;refine ⟨_,rfl,_,rfl,0,x,rfl,hx,fun r y_=>⟨_,rfl,P0,_,2,2,rfl,rfl,av,rfl,?_⟩⟩;have q0:=m6 (r) (show many≠0 by lia)
    have q1:=qd (r) (show 0<many by lia)
    have q2:=zS (y_) (show 0≤many by lia)
    refine ⟨_,rfl,P0,_,_,_,rfl,rfl,.of av,rfl,_,rfl,_,_,rfl,rfl,(show 0<many by lia),?_⟩
    refine ⟨_,rfl,P0,_,_,_,rfl,rfl,.of av,rfl,_,rfl,_,_,rfl,rfl,⟨show 0<many by lia,mm⟩,_,rfl,P0,_,2,2,rfl,rfl,av,rfl,?_⟩
    exact ⟨_,rfl,k _ _ q0 q1 (((aI.of sl).trans aI.jX).trans (aI.jX.trans aI.jX)) ⟨x+1,r / many,av,by lia,q2⟩⟩
 ·dsimp only [iQ]
  have q0:=m6 (y) (show many≠0 by lia)
  have q1:=qd (y) (show 0<many by lia)
  have q2:=zS (hy) (show 0≤many by lia)
  refine ⟨_,rfl,P0,_,_,_,rfl,rfl,.of eP,rfl,_,rfl,_,_,rfl,rfl,(show 0<many by lia),?_⟩
  refine ⟨_,rfl,P0,_,_,_,rfl,rfl,.of eP,rfl,_,rfl,_,_,rfl,rfl,⟨show 0<many by lia,mm⟩,_,rfl,P0,_,2,2,rfl,rfl,eP,rfl,?_⟩
  exact ⟨_,rfl,k _ _ q0 q1 (aI.jX) ⟨x,y / many,av,hx,q2⟩⟩
theorem XC:b8 ["_law_pen","_law_some","_law_left","_law_found"] ["_law_pen","_law_some"] (bj BF):=cV
theorem NG(T:Txt K mg t):bK P w K mg base cB 3 t.rT t.vj ["_law_pen","_law_some"] (Si K):=by
 have S:=XC;refine T.sF.dQ S (fun _ _ _ _ H _ _ _ hr h=>?_);obtain ⟨P0,a,l,ns,xs,rfl,pc,hS,nl,el,ada,kk⟩:=h;have jb:=hr.units
 refine ⟨_,(aB (putL 2 S.nd (iT Qk rfl T.pH boot_list (ak (pv 1) ao)))
  (aB (putL 3 S.nd (dD ao))
  (aB (tS dC (cL (En jb) (pv 2) (dD ao)) (aF (fW (fF fq jN jO ie (pv 3) (ak (fF fq PySem.F.slot_list_pop PySem.F.type_list_pop Qu (pv 2) (ak (a8 (ki T) hr T.jC T.gH.kp T.jB bQ (ak (pv 0) (ak (cC jt rfl T.iK iP (ak (pv 2) ao)) ao))) ao)) ao)))))
  (aF (bH (pv 3)))))),?_⟩
 refine ⟨_,rfl,l,xs,rfl,.inl (.of el),fun l1 n1=>?_⟩;have s1:aj H (upd H l1 (.lst xs)):=aQ n1;have e1:upd H l1 (.lst xs) l1=some (.lst xs):=av;dsimp only [aO];generalize upd H l1 (.lst xs)=H1 at s1 e1 ⊢;refine ⟨by show 0≤sizeLine;decide,fun l2 n2=>?_⟩
 have s2:aj H1 (upd H1 l2 (.lst [])):=aQ n2;have e2:upd H1 l2 (.lst []) l2=some (.lst []):=av;dsimp only [aO];generalize upd H1 l2 (.lst [])=H2 at s2 e2 ⊢;have NH:l1≠P0:=pc.ne n1;have Cq:l2≠P0:=(pc.mono s1).ne n2;have NI:H l2=none:=none_of s1 n2;have NJ:l1≠l2:=fun e=>by rw [e,n2] at e1;cases e1
 refine dN ⟨fun m σ Hc=>∃zs ys:List V,σ=[some (.ref P0),some (.ref l),some (.ref l1),some (.ref l2)]∧m=zs.length∧Hc l1=some (.lst zs)∧Hc l2=some (.lst ys)∧(zs++ys).Perm xs∧aI P0 H Hc∧bG Hc P0 a,⟨_,xs,[],rfl,rfl,s2 _ _ e1,e2,by rw [ko],aI.of (s1.trans s2),(pc.mono s1).mono s2⟩,?_⟩
 rintro m σ Hc ⟨zs,ys,rfl,rfl,ez,ey,pm,sc,p1⟩;have lz:zs.length≤100:=by have:=pm.length_eq;rw [di] at this;lia
 have ly:ys.length≤100:=by have:=pm.length_eq;rw [di] at this;lia
 refine ⟨_,rfl,by show 0≤sizeLine;decide,fun le XD=>?_⟩
 have s3:aj Hc (upd Hc le (.lst [])):=aQ XD;have e3:upd Hc le (.lst []) le=some (.lst []):=av;generalize upd Hc le (.lst [])=H3 at s3 e3 ⊢;refine ⟨l1,le,zs,rfl,rfl,.of (s3 _ _ ez),e3,_,rfl,dh (fun hz=>?_) (fun hz=>?_)⟩
 ·have z0:1≤zs.length:=by
   cases zs with
   | nil=>cases hz
   | cons=>simp
  have mL:=sc.trans (aI.of s3);refine ⟨_,fun _ _ h=>h,?_⟩;refine ⟨_,rfl,.inl ⟨rfl,_,.of (s3 _ _ ey)⟩,_,rfl,.inl ⟨rfl,_,.of (s3 _ _ ez)⟩,_,rfl,_,rfl,l1,zs,rfl,.inl (.of (s3 _ _ ez)),P0,a,ns,(zs.length:Int),rfl,p1.mono s3,aj.seq mL hS,by lia,fZ.of_lt (by lia) (by lia),fun c H4 c0 c1 s4 p4=>?_⟩
  obtain ⟨k,rfl⟩:=gA c0;have hk:k<zs.length:=by lia
  have XE:=s4.at NH (s3 _ _ ez);have XF:=s4.at Cq (s3 _ _ ey);have sx:seqIndex? (k:Int) zs.length=some k:=by unfold seqIndex?;simp;lia
  refine ⟨l1,zs,(k:Int),k,zs[k],rfl,rfl,XE,by lia,by lia,sx,by simp [hk],?_⟩
  have nn:l2≠l1:=fun e=>NJ e.symm;refine ⟨l2,ys,zs[k],rfl,rfl,by rw [aH nn];exact XF,cj (by lia),?_⟩
  refine ⟨_,?_,zs.eraseIdx k,ys++[zs[k]],rfl,rfl,by rw [aH NJ,av],av,?_,?_,?_⟩
  ·rw [List.length_eraseIdx_of_lt hk]
   lia
  ·refine List.Perm.trans ?_ pm
   rw [←gr];refine (tm).trans ?_;show (zs[k]::(zs.eraseIdx k++ys)).Perm (zs++ys);exact (JQ zs k hk).append_right ys
  ·exact ((mL.trans s4).but n1).but NI
  ·exact ((p4.upd NH).upd Cq)
 ·have z0:zs=[]:=by
   cases zs with
   | nil=>rfl
   | cons=>exact absurd rfl hz
  subst z0;refine ⟨_,rfl,kk l2 ys H3 (sc.trans (aI.of s3)) (p1.mono s3) ?_ Cq (s3 _ _ ey) pm⟩;rw [eO Cq];exact NI
theorem XG:b8 ["_law_pen","_law_way","_law_size","_law_wide","_law_i","_law_j"] ["_law_pen","_law_way","_law_size","_law_wide","_law_i","_law_j"] (bj BG):=cV
theorem XH(T:Txt K mg t):bK P w K mg base cB 3 t.rV t.vk ["_law_pen","_law_way","_law_size","_law_wide","_law_i","_law_j"] (Sj K):=by
 have S:=XG;refine T.vU.dQ S (fun _ _ _ _ H _ _ _ hr h=>?_);obtain ⟨P0,a,ns,way,size,wide,i,j,rfl,pc,hS,kk⟩:=h
 refine ⟨_,(aB (cK (cL jo (pv 1) aD) (aF (bH (oI jo (a8 (ki T) hr T.jC T.gH.kp T.jB bQ (ak (pv 0) (ak aD ao))) aD))) cT)
  (aB (cK (cL jo (pv 1) aD) (aF (bH (oI jo (a8 (ki T) hr T.jC T.gH.kp T.jB bQ (ak (pv 0) (ak aD ao))) aD))) cT)
  (aB (cK (cL jo (pv 1) aD) (aF (bH (oI jS (a8 (ki T) hr T.jC T.gH.kp T.jB bQ (ak (pv 0) (ak aD ao))) aD))) cT)
  (aB (cK (cL jo (pv 1) aD) (aF (bH (O5 (oI jo (b7 Ab (pv 5) (pv 4)) aD) (Dm (oI jo (b7 Ab (pv 5) (pv 4)) (b7 Ab (pv 2) aD)))))) cT)
  (aF (bH (oI PJ (b7 Ab (pv 5) (pv 4)) (pv 3)))))))),?_⟩
 refine ⟨_,rfl,rfl,_,rfl,dh (fun _=>?_) (fun _=>?_)⟩;·exact ⟨_,rfl,P0,a,ns,2,rfl,pc,hS,by decide,fZ.of_lt (by decide) (by decide),fun c H1 _ _ s1 p1=>⟨rfl,kk _ H1 s1 p1⟩⟩
 dsimp only [iQ];refine ⟨_,rfl,rfl,_,rfl,dh (fun _=>?_) (fun _=>?_)⟩;·exact ⟨_,rfl,P0,a,ns,4,rfl,pc,hS,by decide,fZ.of_lt (by decide) (by decide),fun c H1 _ _ s1 p1=>⟨rfl,kk _ H1 s1 p1⟩⟩
 dsimp only [iQ];refine ⟨_,rfl,rfl,_,rfl,dh (fun _=>?_) (fun _=>?_)⟩;·exact ⟨_,rfl,P0,a,ns,4,rfl,pc,hS,by decide,fZ.of_lt (by decide) (by decide),fun c H1 _ _ s1 p1=>⟨_,_,rfl,rfl,kk _ H1 s1 p1⟩⟩
 dsimp only [iQ];refine ⟨_,rfl,rfl,_,rfl,dh (fun _=>?_) (fun _=>?_)⟩
 ·refine ⟨_,rfl,_,rfl,_,_,rfl,rfl,rfl,_,rfl,dh (fun _=>?_) (fun _=>?_)⟩
  ·exact kk _ H (aI.refl _) pc
  ·exact ⟨_,rfl,_,rfl,_,_,rfl,rfl,_,rfl,_,_,rfl,rfl,rfl,kk _ H (aI.refl _) pc⟩
 dsimp only [iQ];exact ⟨_,rfl,_,rfl,_,_,rfl,rfl,_,rfl,_,_,rfl,rfl,kk _ H (aI.refl _) pc⟩
theorem XI:b8 ["_law_size","_law_links","_law_names","_law_found","_law_i","_law_j","_law_one"] ["_law_size","_law_links","_law_names"] (bj BJ):=cV
theorem XJ(T:Txt K mg t):bK P w K mg base cB 3 t.rY t.vv ["_law_size","_law_links","_law_names"] Sm:=by
 have S:=XI;refine T.vX.dQ S (fun _ _ _ _ H _ _ _ hr h=>?_);obtain ⟨l,r,n,us,ws,L,nm,rfl,el,hL,ok,pR,za,lw,hw,N,kk⟩:=h
 refine ⟨_,(aB (putL 3 S.nd (dD ao))
  (aB (eG dC rfl (fu (pv 1)) (qq rfl (iR (cU (i:=4) S.nd rfl (Or.inl rfl)) (iR (cU (i:=5) S.nd rfl (Or.inl rfl)) qp)))
   (aB (putL 6 S.nd (cC (Im rfl) rfl T.FI boot_min (ak (aR cz (pv 2) (pv 4)) (ak (aR cz (pv 2) (pv 5)) ao))))
  (aF (fW (fF fq jN jO ie (pv 3) (ak (kI (ak (pv 6) (ak (cC (Il rfl) rfl T.BY boot_max (ak (aR cz (pv 2) (pv 4)) (ak (aR cz (pv 2) (pv 5)) ao))) ao))) ao))))))
  (aF (bH (kI (ak (pv 0) (ak (iT xG rfl T.wb boot_tuple (ak (cC Em rfl T.nS oA (ak (pv 3) ao)) ao)) ao))))))),?_⟩
 refine ⟨by show 0≤sizeLine;decide,fun fd gp=>?_⟩
 have s0:aj H (upd H fd (.lst [])):=aQ gp;have zb:upd H fd (.lst []) fd=some (.lst []):=av;dsimp only [aO];generalize upd H fd (.lst [])=H1 at s0 zb ⊢;refine ⟨_,rfl,l,rfl,⟨_,.of (s0 _ _ el)⟩,?_⟩;refine tV (K:=K) (a:=l) (xs:=us) (fun k σ Hc=>∃(xs:List V) (v4 v5 v6:Option V),σ=[some (.int (n:Int)),some (.ref l),some (.ref r),some (.ref fd),v4,v5,v6]∧aj H Hc∧Hc fd=some (.lst xs)∧aY Hc xs ((L.take k).map (iE nm))) ⟨[],_,_,_,rfl,s0,zb,aY.nil _⟩ (fun k σ Hc _ ⟨_,_,_,_,_,sc,_⟩=>.of (sc _ _ el)) ?_ ?_
 ·rintro k x σ Hc hx ⟨xs,v4,v5,v6,rfl,sc,ef,hX⟩
  have hk:k<L.length:=by rw [←hL.1];exact (cu.mp hx).1
  obtain ⟨b,rfl,eb⟩:=(hL.mono sc).2 k x L[k] hx (by simp [hk])
  have pk:=ok.lt L[k] (bT hk);have tk:(L.take (k+1)).map (iE nm)=(L.take k).map (iE nm)++[iE nm L[k]]:=by rw [kA,bu hk,fj];rfl
  have lX:=hX.1;rw [aC,oi] at lX;have dF:L.length≤450:=bR ok.dF (by have:n*n≤30*30:=qe pR pR;lia)
  generalize L[k]=p at eb pk tk;obtain ⟨p1,p2⟩:=p;dsimp only at pk;obtain ⟨i,rfl⟩:=gA pk.1;obtain ⟨j,rfl⟩:=gA (show 0≤p2 by lia)
  have NK:gS ws (i:Int)=some (.int (nm i)):=iU (hw i (by lia))
  have at2:gS ws (j:Int)=some (.int (nm j)):=iU (hw j (by lia))
  have Cr:=sc _ _ za;refine ⟨b,_,rfl,.of eb,rfl,_,_,rfl,_,_,rfl,rfl,?_⟩;refine ⟨_,rfl,_,rfl,r,ws,_,.int (nm i),rfl,rfl,.of Cr,NK,_,rfl,_,rfl,r,ws,_,.int (nm j),rfl,rfl,.of Cr,at2,nm i,nm j,rfl,?_⟩;dsimp only [aO];refine ⟨_,rfl,.inl ⟨rfl,_,.of ef⟩,_,rfl,_,rfl,_,rfl,r,ws,_,.int (nm i),rfl,rfl,.of Cr,NK,_,rfl,_,rfl,r,ws,_,.int (nm j),rfl,rfl,.of Cr,at2,nm i,nm j,rfl,by show 2≤sizeLine;decide,fun tp lA=>?_⟩
  have eq:iE nm ((i:Int),(j:Int))=(if nm j<nm i then nm j else nm i,if nm j>nm i then nm j else nm i):=by
   unfold iE;simp only [cQ];refine Prod.ext ?_ ?_
   ·show min (nm i) (nm j)=_
    split <;> lia
   ·show max (nm i) (nm j)=_
    split <;> lia
  have st:aj Hc (upd Hc tp (.tup [.int (if nm j<nm i then nm j else nm i),.int (if nm j>nm i then nm j else nm i)])):=aQ lA
  have dW:upd Hc tp (.tup [.int (if nm j<nm i then nm j else nm i),.int (if nm j>nm i then nm j else nm i)]) tp=some (.tup [.int (iE nm ((i:Int),(j:Int))).1,.int (iE nm ((i:Int),(j:Int))).2]):=by rw [av,eq]
  generalize upd Hc tp (.tup [.int (if nm j<nm i then nm j else nm i),.int (if nm j>nm i then nm j else nm i)])=Hd at st dW ⊢
  have fQ:=st _ _ ef;refine ⟨fd,xs,_,rfl,rfl,fQ,cj (by lia),xs++[.ref tp],_,_,_,rfl,eN (sc.trans st) gp,av,?_⟩
  rw [tk];exact ((hX.mono st).push dW).cf fQ fun b o nb e=>by rw [aH nb];exact e
 ·rintro σ Hc ⟨xs,v4,v5,v6,rfl,sc,ef,hX⟩
  rw [hL.1,gu] at hX;have Cs:=Sl ok N;have lX:=hX.1;have dF:L.length≤450:=bR ok.dF (by have:n*n≤30*30:=qe pR pR;lia)
  have lM:(L.map (iE nm)).length=L.length:=aC ..;have small:∀q∈L.map (iE nm),0≤q.2∧q.2<1000:=fun q hq=>by have:=Cs.lt q hq;lia
  generalize hM:L.map (iE nm)=M at hX Cs lX lM small kk;dsimp only;refine ⟨_,rfl,_,rfl,fd,xs,fun i=>(M.getD i (0,0)).1,fun i=>(M.getD i (0,0)).2,rfl,ef,by lia,fun i v hv=>?_,fun p l' hp hu qW=>?_⟩
  ·have hi:i<M.length:=by rw [←lX];exact (cu.mp hv).1
   obtain ⟨b,rfl,eb⟩:=hX.2 i v M[i] hv (by simp [hi])
   dsimp only;rw [getD_at hi];exact ⟨⟨b,rfl,eb⟩,small _ (bT hi)⟩
  rw [lX] at hp hu;obtain ⟨pm,pw⟩:=Sk hp hu Cs.nd small;have sl:aj Hc (upd Hc l' (.lst (p.toList.map fun i=>xs.getD i .aN))):=aQ qW;have hP:aY Hc (p.toList.map fun i=>xs.getD i .aN) (p.toList.map fun i=>M.getD i (0,0)):=hX.pick _ fun i hi=>by have:p.toList.Perm (List.range M.length):=pZ.mp hp;exact bb.mp (this.mem_iff.mp hi)
  generalize (p.toList.map fun i=>xs.getD i .aN)=zs at sl hP ⊢;refine ⟨l',zs,rfl,.inl ⟨.of av,fun lt yU=>?_⟩⟩;have nU:=sl.trans (aQ (o:=.tup zs) yU);have elt:upd (upd Hc l' (.lst zs)) lt (.tup zs) lt=some (.tup zs):=av;generalize upd (upd Hc l' (.lst zs)) lt (.tup zs)=Hd at nU elt ⊢;refine ⟨by show 2≤sizeLine;decide,fun tp lA=>?_⟩
  have st:aj Hd (upd Hd tp (.tup [.int (n:Int),.ref lt])):=aQ lA;have sT:=sc.trans (nU.trans st);exact kk tp _ _ sT (none_of (sc.trans nU) lA) ⟨lt,zs,av,st _ _ elt,(hP.mono nU).mono st⟩ (Cs.perm pm) pw pm
theorem XM:b8 ["_law_pen","_law_size","_law_ahead","_law_found","_law_j","_law_at","_law_some"] ["_law_pen","_law_size"] (bj BH):=cV
theorem XN(T:Txt K mg t):bK P w K mg base cB 3 t.rW t.vp ["_law_pen","_law_size"] (So K):=by
 have S:=XM;refine T.vV.dQ S (fun _ _ _ _ H vs _ _ hr h=>?_);obtain ⟨P0,a,ns,n,rfl,pc,hS,n1,pR,kk⟩:=h
 refine ⟨_,(aB (putL 2 S.nd (dD (ak (dD ao) ao)))
  (aB (putL 3 S.nd (dD ao))
  (aB (eG dC rfl (Pu rfl T.gI (ak aD (ak (pv 1) ao))) (cU (i:=4) S.nd rfl (Or.inr rfl))
   (aB (putL 5 S.nd (a8 (ki T) hr T.jC T.gH.kp T.jB bQ (ak (pv 0) (ak (pv 4) ao))))
  (aB (putL 6 S.nd (b7 DL (dD (ak (pv 5) ao)) (fG (N:=["_law_i","_law_pen"]) (ρ:=(fun σ=>[σ[0]?.join])) (en [0] rfl) rfl (fu (aR cz (pv 2) (pv 5))) (fun _ _ _=>(.one (cL jS (a8 (ki T) hr T.jC T.gH.kp T.jB bQ (ak (pv 1) (ak aD ao))) aD))) (fun _ _ _=>(pv 0)))))
  (aB (cK (cL jo (a8 (ki T) hr T.jC T.gH.kp T.jB bQ (ak (pv 0) (ak aD ao))) aD) (aF (putL 6 S.nd (dD ao))) cT)
  (aB (fW (fF fq jN jO ie (pv 2) (ak (pv 6) ao)))
  (aF (fW (fF fq PySem.F.slot_list_extend PySem.F.type_list_extend IT (pv 3) (ak (fG (N:=["_law_i","_law_j"]) (ρ:=(fun σ=>[σ[4]?.join])) (en [4] rfl) rfl (fu (pv 6)) (fun _ _ _=>.nil) (fun _ _ _=>(kI (ak (pv 0) (ak (pv 1) ao))))) ao)))))))))
  (aF (bH (pv 3)))))),?_⟩
 refine bC fun _ jD=>⟨by show 0≤sizeLine;decide,fun l0 mK=>⟨by show 1≤sizeLine;decide,fun la zc=>?_⟩⟩
 have s1:aj H (upd H l0 (.lst [])):=aQ mK;have e0:upd H l0 (.lst []) l0=some (.lst []):=av;generalize upd H l0 (.lst [])=H1 at s1 e0 zc ⊢;have s2:aj H1 (upd H1 la (.lst [.ref l0])):=aQ zc;have ea:upd H1 la (.lst [.ref l0]) la=some (.lst [.ref l0]):=av;dsimp only [aO];refine jD _ _ ?_;generalize upd H1 la (.lst [.ref l0])=H2 at s2 ea ⊢;refine bC fun _ fP=>⟨by show 0≤sizeLine;decide,fun fd gp=>?_⟩
 have s3:aj H2 (upd H2 fd (.lst [])):=aQ gp;have ef:upd H2 fd (.lst []) fd=some (.lst []):=av;dsimp only [aO];refine fP _ _ ?_;generalize upd H2 fd (.lst [])=H3 at s3 ef ⊢;have gm:=s1.trans (s2.trans s3);have zd:la≠P0:=(pc.mono s1).ne zc;have jH:fd≠P0:=((pc.mono s1).mono s2).ne gp;have XO:l0≠P0:=pc.ne mK;have XQ:H la=none:=none_of s1 zc;have Ct:H fd=none:=none_of (s1.trans s2) gp;have af:la≠fd:=fun e=>by rw [e,gp] at ea;cases ea
 refine ⟨_,rfl,_,_,rfl,⟨by decide,by decide,by lia,by lia⟩,?_⟩
 rw [show ((n:Int)-1).toNat=n-1 by lia]
 refine oG (fun k σ Hc=>∃(vs us:List V) (L:au) (D:Nat→List Nat) (v4 v5 v6:Option V),σ=[some (.ref P0),some (.int (n:Int)),some (.ref la),some (.ref fd),v4,v5,v6]∧aI P0 H Hc∧bG Hc P0 a∧Hc la=some (.lst vs)∧Sq (er P0 Hc) vs (k+1) D∧(∀(i:Nat) (b:Addr),vs[i]?=some (V.ref b)→b≠la∧b≠fd)∧Hc fd=some (.lst us)∧aY (er P0 Hc) us L∧nH (k+1) L) ?_ ?_ ?_
 ·refine ⟨[.ref l0],[],[],fun _=>[],_,_,_,rfl,aI.of gm,pc.mono gm,s3 _ _ ea,⟨rfl,fun k hk=>⟨f_.nil k,l0,by rw [show k=0 by lia];rfl,?_⟩⟩,fun i b hb=>?_,ef,aY.nil _,nH.nil⟩
  ·rw [eO XO]
   exact s3 _ _ (s2 _ _ e0)
  ·match i,hb with
   | 0,hb=>cases hb;exact ⟨(fun e=>by rw [e,zc] at e0;cases e0),(fun e=>by rw [←e] at gp;rw [s2 _ _ e0] at gp;cases gp)⟩
   | i+1,hb=>simp at hb
 ·rintro k σ Hc hk ⟨vs,us,L,D,v4,v5,v6,rfl,sc,p1,Cu,ah,ap,fQ,hL,ok⟩
  refine ⟨_,rfl,_,rfl,P0,a,ns,1+(k:Int),rfl,p1,aj.seq sc hS,by lia,fZ.of_lt (by lia) (by lia),fun c H4 c0 c1 s4 p4=>?_⟩
  obtain ⟨c,rfl⟩:=gA c0;have hc:c<k+1:=by lia
  obtain ⟨fc,b,XR,ze⟩:=ah.2 c hc;have XS:b≠P0:=fun z=>by rw [z] at ze;unfold er at ze;rw [ae rfl] at ze;cases ze
  have XT:=ah.1;have Cv:=sc.trans s4;have XU:=s4.at zd Cu;have NL:H4 b=some (.lst (fA (D c))):=me _ _ (s4 _ _ ze);dsimp only [aO];simp only [List.set_cons_zero,List.set_cons_succ];refine bC fun _ iL=>⟨_,rfl,by show 1≤sizeLine;decide,fun wF AI=>?_⟩
  have s5:aj H4 (upd H4 wF (.lst [.int (c:Int)])):=aQ AI;have e5:upd H4 wF (.lst [.int (c:Int)]) wF=some (.lst [.int (c:Int)]):=av;have XW:wF≠P0:=p4.ne AI;generalize upd H4 wF (.lst [.int (c:Int)])=H5 at s5 e5 ⊢;have lD:(D c).length≤30:=bR fc.len (by lia)
  have lV:(fA (D c)).length≤30:=by unfold fA;rw [aC];exact lD
  have wq:=Cv.trans (aI.of s5);refine Sn (K:=K) (l:=b) (xs:=fA (D c)) (cj (by lia)) XS (s5 _ _ NL) (p4.mono s5) (fun R h=>⟨_,rfl,_,rfl,la,vs,_,.ref b,rfl,rfl,.of (s5 _ _ XU),iU XR,b,rfl,⟨_,.of (s5 _ _ NL)⟩,h⟩) (fun i x hx Hx R sx px k=>⟨_,rfl,P0,a,ns,3,rfl,px,aj.seq (wq.trans sx) hS,by decide,fZ.of_lt (by decide) (by decide),fun c' H' _ _ s' p'=>⟨_,_,rfl,rfl,_,rfl,k _ H' s' p'⟩⟩) (fun x Hx R h=>⟨_,rfl,h⟩) fun D' ys Hx WD fD' sx px sub nM=>?_
  obtain ⟨e,I0,rfl⟩:=Ep sub;have fe:=(fc.sub I0).put hc;have le':(fA e).length≤30:=bR sub.length_le lV;refine ⟨wF,D',_,_,rfl,rfl,sx.at XW e5,nM,bR (show _≤900 by simp;lia) (by decide),fun c2 n2=>?_⟩
  have s6:aj Hx (upd Hx c2 (.lst ([.int (c:Int)]++fA e))):=aQ n2;have e6:upd Hx c2 (.lst ([.int (c:Int)]++fA e)) c2=some (.lst (fA (c::e))):=av;have sL:=(wq.trans sx).trans (aI.of s6);have p6:=px.mono s6;have pQ:aI P0 H4 (upd Hx c2 (.lst ([.int (c:Int)]++fA e))):=(aI.of s5).trans (sx.trans (aI.of s6));have Gk:c2≠P0:=px.ne n2;have f2:er P0 Hc c2=none:=none_of (s4.trans ((aI.of s5).trans sx)) (by rw [eO Gk];exact n2)
  dsimp only [aO];refine iL _ _ ?_;generalize upd Hx c2 (.lst ([.int (c:Int)]++fA e))=H6 at s6 e6 sL p6 pQ ⊢;simp only [List.set_cons_zero,List.set_cons_succ];refine dN (JP (fun σ Hy=>∃(lc:Addr) (d:List Nat),σ=[some (.ref P0),some (.int (n:Int)),some (.ref la),some (.ref fd),some (.int (1+(k:Int))),some (.int (c:Int)),some (.ref lc)]∧aI P0 Hc Hy∧bG Hy P0 a∧Hy lc=some (.lst (fA d))∧f_ (k+1) d∧lc≠P0∧er P0 Hc lc=none) ?_ ?_)
  ·rintro σ Hy ⟨lc,d,rfl,sy,py,d8,Gm,wG,Cw⟩
   have ly:lc≠la:=fun z=>by rw [z,eO zd,Cu] at Cw;cases Cw
   have lf:lc≠fd:=fun z=>by rw [z,eO jH,fQ] at Cw;cases Cw
   have Gn:=sy.at zd Cu;have XX:=sy.at jH fQ;have ldd:d.length≤30:=bR Gm.len (by lia)
   dsimp only;refine ⟨_,rfl,.inl ⟨rfl,_,.of Gn⟩,_,rfl,la,vs,_,rfl,rfl,Gn,cj (by lia),?_⟩
   have e7:upd Hy la (.lst (vs++[.ref lc])) la=some (.lst (vs++[.ref lc])):=av;have k7:∀b o,b≠la→Hy b=some o→upd Hy la (.lst (vs++[.ref lc])) b=some o:=fun b o nb e=>by rw [aH nb];exact e
   have p7:=py.upd (o:=.lst (vs++[.ref lc])) zd;have r7:=Er (P:=P0) (H:=Hy) (r:=la) (o:=.lst (vs++[.ref lc]));have B9:aI P0 H (upd Hy la (.lst (vs++[.ref lc]))):=(sc.trans sy).but XQ;generalize upd Hy la (.lst (vs++[.ref lc]))=H7 at e7 k7 p7 r7 B9 ⊢;have Gp:=k7 fd _ (fun z=>af z.symm) XX;have Gq:=k7 lc _ ly d8;have XY:(fA d).length=d.length:=by unfold fA;rw [aC]
   refine ⟨_,rfl,.inl ⟨rfl,_,.of Gp⟩,x6 (xs:=fA d) (fun R h=>⟨_,rfl,lc,rfl,⟨_,.of Gq⟩,h _ _ (aj.refl _) (ju (.of Gq))⟩) (cj (by lia)) (fun _ i y Hz=>∃(b:Addr) (x:Nat),y=.ref b∧d[i]?=some x∧Hz b=some (.tup [.int (x:Int),.int (1+(k:Int))])) (fun Dd i y Ha Hb ys ⟨b,x,h1,h2,h3⟩ e f=>⟨b,x,h1,h2,f b _ (fun z=>by rw [z,e] at h3;cases h3) h3⟩) ?_ ?_⟩
   ·intro Dd i x hx Hz R sz _ kz
    obtain ⟨y,hy,rfl⟩:=Sr hx;refine ⟨_,rfl,_,rfl,by show 2≤sizeLine;decide,fun tp lA=>?_⟩
    exact kz _ _ (aQ lA) ⟨tp,y,rfl,hy,av⟩
   ·intro Dd zs H8 WA s8 XZ X0 sI
    have lL:=hL.1;have l2:us.length≤450:=by
     have:=ok.dF;have:(k+1)*(k+1-1)≤30*30:=qe (by lia) (by lia)
     lia
    refine ⟨fd,Dd,us,zs,rfl,rfl,s8 _ _ Gp,sI,bR (show _≤900 by lia) (by decide),?_⟩
    have k9:∀b o,b≠fd→H8 b=some o→upd H8 fd (.lst (us++zs)) b=some o:=fun b o nb e=>by rw [aH nb];exact e
    have p8:=p7.mono s8;have r9:=Er (P:=P0) (H:=H8) (r:=fd) (o:=.lst (us++zs));have NM:er P0 H8 fd=some (.lst us):=by rw [eO jH];exact s8 _ _ Gp
    have X1:er P0 Hy la=some (.lst vs):=by rw [eO zd];exact Gn
    refine ⟨vs++[.ref lc],us++zs,L++d.map fun(x:Nat)=>((x:Int),((k+1:Nat):Int)),fun i=>if i=k+1 then d else D i,_,_,_,rfl,(B9.trans (aI.of s8)).but Ct,p8.upd jH,k9 la _ af (s8 _ _ e7),⟨by simp [XT],fun i hi=>?_⟩,fun i b' i8=>?_,av,?_,ok.more Gm⟩
    ·dsimp only
     by_cases z:i=k+1
     ·subst z
      rw [ae rfl];refine ⟨Gm,lc,by rw [iM (by lia),show k+1-vs.length=0 by lia];rfl,?_⟩
      exact r9 _ _ lf (by rw [eO wG];exact s8 _ _ Gq)
     ·rw [aa z]
      obtain ⟨f1,b1,v1,h1⟩:=ah.2 i (by lia)
      obtain ⟨a1,a2⟩:=ap i b1 v1;refine ⟨f1,b1,by rw [iO (by lia)];exact v1,?_⟩
      exact r9 _ _ a2 (As s8 _ _ (r7 _ _ a1 (sy _ _ h1)))
    ·by_cases z:i<vs.length
     ·rw [iO z] at i8
      exact ap i b' i8
     ·have bF:=(cu.mp i8).1
      rw [di,kr] at bF;rw [iM (by lia),show i-vs.length=0 by lia] at i8
      cases i8;exact ⟨ly,lf⟩
    ·refine aY.cat ?_ ?_
     ·exact (((hL.mono sy).cf X1 r7).mono (As s8)).cf NM r9
     ·refine aY.cf (H:=er P0 H8) ⟨by rw [XZ,XY,aC],fun i v p h1 h2=>?_⟩ NM r9
      obtain ⟨b',x,rfl,hx,e'⟩:=X0 i v h1;rw [bq,hx] at h2;cases h2;refine ⟨b',rfl,?_⟩;rw [show (((k+1:Nat):Int))=1+(k:Int) by lia]
      exact yj p8 e'
  ·intro R hR
   refine ⟨_,rfl,P0,a,ns,9,rfl,p6,aj.seq sL hS,by decide,fZ.of_lt (by decide) (by decide),fun c' H7 _ _ s7 p7=>⟨rfl,_,rfl,dh (fun _=>?_) (fun _=>?_)⟩⟩
   ·refine ⟨by show 0≤sizeLine;decide,fun lc wG=>?_⟩
    have nP:=p7.ne wG;have zf:=s4.trans (pQ.trans s7);exact hR _ _ ⟨lc,[],rfl,zf.trans (aI.of (aQ wG)),p7.mono (aQ wG),av,f_.nil _,nP,none_of zf (by rw [eO nP];exact wG)⟩
   ·exact hR _ _ ⟨c2,c::e,rfl,s4.trans (pQ.trans s7),p7,s7.at Gk e6,fe,Gk,f2⟩
 ·rintro σ Hc ⟨vs,us,L,D,v4,v5,v6,rfl,sc,p1,Cu,ah,ap,fQ,hL,ok⟩
  rw [show n-1+1=n by lia] at ok
  exact ⟨_,rfl,kk fd us L Hc sc p1 (by rw [eO jH];exact Ct) jH fQ hL ok.ok⟩
theorem X2:b8 ["_law_pen","_law_most","_law_size","_law_way","_law_wide","_law_links","_law_j","_law_i"] ["_law_pen","_law_most"] (bj BI):=cV
theorem X3(T:Txt K mg t):bK P w K mg base cB 4 t.rX t.vt ["_law_pen","_law_most"] (Sv K):=by
 have S:=X2;refine T.vW.dQ S (fun _ _ _ _ H _ _ _ hr h=>?_);obtain ⟨P0,a,ns,most,rfl,pc,hS,m1,m10,kk⟩:=h
 refine ⟨_,(aB (putL 2 S.nd (b7 jR aD (a8 (ki T) hr T.jC T.gH.kp T.jB bQ (ak (pv 0) (ak (pv 1) ao)))))
  (aB (putL 3 S.nd (a8 (ki T) hr T.jC T.gH.kp T.jB bQ (ak (pv 0) (ak aD ao))))
  (aB (putL 4 S.nd (a8 (ki T) hr T.jC T.gH.kp T.jB bQ (ak (pv 0) (ak (pv 2) ao))))
  (aB (putL 5 S.nd (dD ao))
  (aB (eG dC rfl (kG rfl T.gI (ak (pv 2) ao)) (cU (i:=6) S.nd rfl (Or.inl rfl))
   (aF (eG dC rfl (kG rfl T.gI (ak (pv 6) ao)) (cU (i:=7) S.nd rfl (Or.inl rfl))
   (aF (cK (jQ (a8 (XH T) hr T.Mr T.vU.kp T.Mq bQ (ak (pv 0) (ak (pv 3) (ak (pv 2) (ak (pv 4) (ak (pv 7) (ak (pv 6) ao)))))))) (aF (fW (fF fq jN jO ie (pv 5) (ak (kI (ak (pv 7) (ak (pv 6) ao))) ao)))) cT)))))
  (aB (cK (cL jo (pv 3) aD) (aF (putL 5 S.nd (a8 (XN T) hr T.Mt T.vV.kp T.Ms bQ (ak (pv 0) (ak (pv 2) ao))))) cT)
  (aF (bH (a8 (XJ T) hr T.Mx T.vX.kp T.Mw bQ (ak (pv 2) (ak (pv 5) (ak (a8 (NG T) hr T.FG T.sF.kp T.FF bQ (ak (pv 0) (ak (iT (Am rfl) rfl T.pH boot_list (ak (iT Ak rfl T.gI An (ak (pv 2) ao)) ao)) ao))) ao)))))))))))),?_⟩
 refine bC fun _ jD=>⟨_,rfl,_,rfl,P0,a,ns,(most:Int),rfl,pc,hS,by lia,fZ.of_lt (by lia) (by lia),fun c H1 c0 c1 s1 p1=>⟨_,_,rfl,rfl,?_⟩⟩
 obtain ⟨c,rfl⟩:=gA c0;dsimp only [aO];refine jD _ _ ?_;rw [show 1+(c:Int)=((c+1:Nat):Int) by lia]
 have n1:1≤c+1:=by lia
 have nm:c+1≤most:=by lia
 generalize c+1=n at n1 nm ⊢;have Cn:a7 K (er P0 H1) a (ns.map V.int):=aj.seq s1 hS;refine bC fun _ fP=>⟨_,rfl,P0,a,ns,6,rfl,p1,Cn,by decide,fZ.of_lt (by decide) (by decide),fun way H2 _ _ s2 p2=>?_⟩
 have gJ:=s1.trans s2;dsimp only [aO];refine fP _ _ ?_;refine bC fun _ iL=>⟨_,rfl,_,rfl,P0,a,ns,(n:Int),rfl,p2,aj.seq gJ hS,by lia,fZ.of_lt (by lia) (by lia),fun wide H3 _ _ s3 p3=>?_⟩
 have gm:=gJ.trans s3;dsimp only [aO];refine iL _ _ ?_;refine bC fun _ jE=>⟨by show 0≤sizeLine;decide,fun fd gp=>?_⟩
 have s4:aj H3 (upd H3 fd (.lst [])):=aQ gp;have ef:upd H3 fd (.lst []) fd=some (.lst []):=av;dsimp only [aO];refine jE _ _ ?_;generalize upd H3 fd (.lst [])=H4 at s4 ef ⊢;have kh:=gm.trans (aI.of s4);have p4:=p3.mono s4;have jH:fd≠P0:=p3.ne gp;have NN:er P0 H fd=none:=none_of gm (by rw [eO jH];exact gp)
 have Ct:H fd=none:=by rw [eO jH] at NN;exact NN
 refine ⟨_,rfl,(n:Int),rfl,by lia,by lia,?_⟩
 rw [cQ];refine oG (fun j σ Hc=>∃(us:List V) (L:au) (v6 v7:Option V),σ=[some (.ref P0),some (.int (most:Int)),some (.int (n:Int)),some (.int way),some (.int wide),some (.ref fd),v6,v7]∧aI P0 H Hc∧bG Hc P0 a∧Hc fd=some (.lst us)∧aY (er P0 Hc) us L∧gZ j 0 L) ⟨[],[],_,_,rfl,kh,p4,ef,aY.nil _,gZ.start⟩ ?_ ?_
 ·rintro j σ Hc hj ⟨us,L,v6,v7,rfl,sc,p5,fQ,hL,ok⟩
  dsimp only [aO];simp only [List.set_cons_zero,List.set_cons_succ];refine ⟨_,rfl,(j:Int),by rw [oz],by lia,by lia,?_⟩
  rw [cQ];refine oG (fun i σ Hd=>∃(us:List V) (L:au) (v7:Option V),σ=[some (.ref P0),some (.int (most:Int)),some (.int (n:Int)),some (.int way),some (.int wide),some (.ref fd),some (.int (0+(j:Int))),v7]∧aI P0 H Hd∧bG Hd P0 a∧Hd fd=some (.lst us)∧aY (er P0 Hd) us L∧gZ j i L) ⟨us,L,_,rfl,sc,p5,fQ,hL,ok⟩ ?_ ?_
  ·rintro i σ Hd hi ⟨us,L,v7,rfl,sd,p6,fQ,hL,ok⟩
   refine ⟨_,rfl,_,rfl,_,rfl,_,rfl,_,rfl,_,rfl,P0,a,ns,way,(n:Int),wide,0+(i:Int),0+(j:Int),rfl,p6,aj.seq sd hS,fun b He se pe=>?_⟩;have Gr:=se.at jH fQ;have NP:=hL.mono se;have lL:=hL.1;have l2:us.length≤900:=by
    have:=ok.dF;have:j*(j-1)≤30*30:=qe (by lia) (by lia)
    lia
   cases b with
   | true=>
    refine ⟨true,rfl,t_ ?_⟩;refine ⟨_,rfl,.inl ⟨rfl,_,.of Gr⟩,_,rfl,_,rfl,by show 2≤sizeLine;decide,fun tp lA=>?_⟩
    have st:aj He (upd He tp (.tup [.int (0+(i:Int)),.int (0+(j:Int))])):=aQ lA;have et:upd He tp (.tup [.int (0+(i:Int)),.int (0+(j:Int))]) tp=some (.tup [.int (i:Int),.int (j:Int)]):=by rw [av,oz,oz]
    generalize upd He tp (.tup [.int (0+(i:Int)),.int (0+(j:Int))])=Hf at st et ⊢;have pf:=pe.mono st;have NQ:=st _ _ Gr;refine ⟨fd,us,_,rfl,rfl,NQ,cj (by lia),us++[.ref tp],L++[((i:Int),(j:Int))],_,rfl,((sd.trans se).trans (aI.of st)).but Ct,pf.upd jH,av,?_,ok.push hi⟩
    refine aY.cf (H:=er P0 Hf) ((NP.mono (As st)).push (yj pf et)) (by rw [eO jH];exact NQ) Er
   | false=>exact ⟨false,rfl,fY ⟨us,L,_,rfl,sd.trans se,pe,Gr,NP,ok.skip⟩⟩
  ·rintro σ Hd ⟨us,L,v7,rfl,sd,p6,fQ,hL,ok⟩
   exact ⟨us,L,_,_,rfl,sd,p6,fQ,hL,ok.next⟩
 ·rintro σ Hc ⟨us,L,v6,v7,rfl,sc,p5,fQ,hL,ok⟩
  dsimp only;refine dN (JP (fun σ Hy=>∃(lk:Addr) (us:List V) (L:au),σ=[some (.ref P0),some (.int (most:Int)),some (.int (n:Int)),some (.int way),some (.int wide),some (.ref lk),v6,v7]∧aI P0 H Hy∧bG Hy P0 a∧lk≠P0∧Hy lk=some (.lst us)∧aY (er P0 Hy) us L∧jx n L) ?_ ?_)
  ·rintro σ Hy ⟨lk,us,L,rfl,sy,py,X4,wH,hL,ok⟩
   dsimp only;refine ⟨_,rfl,_,rfl,_,rfl,_,rfl,(n:Int),rfl,fun pr Ck=>?_⟩;have s6:aj Hy (upd Hy pr (.gO 0 (n:Int))):=aQ Ck;refine ⟨pr,n,rfl,av,by lia,fun l0 n0=>?_⟩
   have s7:=s6.trans (aQ (o:=.lst (dw n)) n0);have e0:upd (upd Hy pr (.gO 0 (n:Int))) l0 (.lst (dw n)) l0=some (.lst (dw n)):=av;have mK:l0≠P0:=(py.mono s6).ne n0;generalize upd (upd Hy pr (.gO 0 (n:Int))) l0 (.lst (dw n))=Hz at s7 e0 ⊢;have lu:(dw n).length=n:=by unfold dw;simp
   refine ⟨P0,a,l0,ns,dw n,rfl,py.mono s7,aj.seq (sy.trans (aI.of s7)) hS,mK,e0,by lia,fun r ys Hw sw pw fr nr za pm=>?_⟩
   obtain ⟨X5,ly,hy,NO⟩:=Su pm;have Cy:=(aI.of s7).trans sw;refine ⟨lk,r,n,us,ys,L,X5,rfl,Cy.at X4 wH,(hL.mono Cy).mono me,ok,by lia,za,ly,hy,NO,fun tt L' Hv sv NR sh wC X6 pm'=>?_⟩
   have nt:tt≠P0:=pw.ne NR;exact kk tt n L' Hv ((sy.trans Cy).trans (aI.of sv)) (pw.mono sv) (none_of (sy.trans Cy) (by rw [eO nt];exact NR)) nt (sh.er (pw.mono sv)) wC X6 n1 nm
  ·intro R hR
   refine ⟨_,rfl,rfl,_,rfl,dh (fun _=>?_) (fun _=>?_)⟩
   ·refine ⟨_,rfl,_,rfl,P0,a,ns,n,rfl,p5,aj.seq sc hS,n1,by lia,fun r X7 L' Hy sy py fr nr za X8 wC=>?_⟩
    exact hR _ _ ⟨r,X7,L',rfl,sc.trans sy,py,nr,za,X8,wC⟩
   ·exact hR _ _ ⟨fd,us,L,rfl,sc,p5,jH,fQ,hL,ok.ok⟩
theorem X9:b8 ["_law_shape","_law_found","_law_i","_law_j"] ["_law_shape"] (bj BK):=cV
theorem X_(T:Txt K mg t):bK P w K mg base cB 1 t.rZ t.vw ["_law_shape"] Uv:=by
 have S:=X9;refine T.vY.dQ S (fun _ _ _ _ H _ _ _ hr h=>?_);obtain ⟨tp,n,L,rfl,⟨lt,us,dW,elt,hL⟩,ok,n9,l2,kk⟩:=h;have FJ:((List.range n).map fun i:Nat=>V.int (0+(i:Int))).length=n:=by rw [aC,dI]
 refine ⟨_,(aB (Ap (i0:=1) (N:=["_law_k"]) (ρ:=(fun σ=>[])) (en [] rfl) rfl S.nd rfl (Or.inl rfl) (kG rfl T.gI (ak (aR dZ (pv 0) aD) ao)) (fun _ _ _=>.nil) (fun _ _ _=>(dD ao)))
  (aB (eG dC rfl (tT (aR dZ (pv 0) aD)) (qq rfl (iR (cU (i:=2) S.nd rfl (Or.inl rfl)) (iR (cU (i:=3) S.nd rfl (Or.inl rfl)) qp)))
   (aB (fW (fF fq jN jO ie (aR cz (pv 1) (pv 2)) (ak (pv 3) ao)))
  (aF (fW (fF fq jN jO ie (aR cz (pv 1) (pv 3)) (ak (pv 2) ao))))))
  (aF (bH (pv 1))))),?_⟩
 refine dN (ma (DZ (xs:=(List.range n).map fun i:Nat=>V.int (0+(i:Int))) (n:=n) FJ (fun R h=>⟨_,rfl,tp,_,_,_,rfl,rfl,.of dW,rfl,(n:Int),rfl,by lia,by lia,h _ _ (aj.refl _) (by rw [cQ];exact DW)⟩) (cj (by lia)) (fun _ i y Hx=>Hx y=some (.lst [])∧H y=none) ?_ ?_ ?_))
 ·intro D i y Ha Hb ys ⟨h1,h2⟩ hy e f
  exact ⟨f y _ hy h1,h2⟩
 ·intro D i x hx Hc R sc _ kc
  exact ⟨bY _,fun p np=>kc p _ (eN (aj.refl _) np) np ⟨_,av⟩ ⟨av,none_of sc np⟩⟩
 ·intro D rs H1 nD s1 inj hA eD
  have K0:uG H1 D n rs (fun _=>[]):=⟨eD,inj,fun i hi=>(hA i hi).2,fun i hi=>(hA i hi).1.1⟩;have fr:∀i,i<n→H (rs i)=none:=fun i hi=>(hA i hi).1.2;dsimp only [aO];refine dN ⟨_,rfl,tp,_,_,_,rfl,rfl,.of (s1 _ _ dW),rfl,lt,rfl,⟨_,.of (s1 _ _ elt)⟩,?_⟩;refine Dt (K:=K) (a:=lt) (xs:=us) (fun k σ Hc=>∃(g:Nat→List Nat) (v2 v3:Option V),σ=[some (.ref tp),some (.ref D),v2,v3]∧aj H Hc∧uG Hc D n rs g∧d7 n (L.take k) g∧(∀a,(g a).length≤2*k)∧((∀p∈L,p.1<p.2)→L.Nodup→∀a,(g a).Nodup)) ⟨_,_,_,rfl,s1,K0,d7.nil n,fun _=>ax _,fun _ _ _=>tE⟩ (fun k σ Hc _ ⟨_,_,_,_,sc,_⟩=>.of (sc _ _ elt)) ?_ ?_
  ·rintro k x σ Hc hx ⟨g,v2,v3,rfl,sc,KL,nb,gl,gn⟩
   have hk:k<L.length:=by rw [←hL.1];exact (cu.mp hx).1
   obtain ⟨b,rfl,eb⟩:=hL.2 k x L[k] hx (by simp [hk])
   have pk:=ok L[k] (bT hk);have tk:L.take (k+1)=L.take k++[L[k]]:=by rw [kA,bu hk];rfl
   have NS:L.Nodup→L[k]∉L.take k:=fun nd h=>Uw nd hk h;have Gs:L[k]∈L:=bT hk;generalize L[k]=p at eb pk tk NS Gs;obtain ⟨p1,p2⟩:=p;dsimp only at pk eb;obtain ⟨i,rfl⟩:=gA pk.1;obtain ⟨j,rfl⟩:=gA pk.2.2.1;have hi:i<n:=by lia
   have hj:j<n:=by lia
   refine ⟨b,_,rfl,.of (sc _ _ eb),rfl,_,_,rfl,_,_,rfl,rfl,?_⟩;have off:∀(Hx:Hp) (i:Nat) (o:HO),i<n→aj H Hx→aj H (upd Hx (rs i) o):=fun Hx i o hi sx a u e=>by
    rw [aH (fun z=>by rw [z,fr i hi] at e;cases e)]
    exact sx _ _ e
   have K1:=KL.snoc j hi;have K2:=K1.snoc i hj;have g1:=gl i;have g2:(iF g i j j).length≤2*k+1:=bR EN (by have:=gl j;lia)
   refine ⟨_,rfl,_,rfl,D,_,_,_,rfl,rfl,.of KL.lst,k4 hi,.inl ⟨rfl,_,.of (KL.at' i hi)⟩,_,rfl,rs i,_,_,rfl,rfl,KL.at' i hi,cj (by rw [aC];lia),?_⟩
   refine ⟨_,rfl,_,rfl,D,_,_,_,rfl,rfl,.of K1.lst,k4 hj,.inl ⟨rfl,_,.of (K1.at' j hj)⟩,_,rfl,rs j,_,_,rfl,rfl,K1.at' j hj,cj (by rw [aC];lia),?_⟩
   exact ⟨_,_,_,rfl,off _ _ _ hj (off _ _ _ hi sc),K2,by rw [tk];exact nb.snoc,fun a=>bR EN (by have:=EN (g:=g) (i:=i) (j:=j) (a:=a);have:=gl a;lia),fun up nd a=>Uy (gn up nd) nb hi hj (by have:=up _ Gs;dsimp only at this;lia) (NS nd) (fun h=>by have h1:=up _ (List.mem_of_mem_take h);have h2:=up _ Gs;dsimp only at h1 h2;lia) a⟩
  ·rintro σ Hc ⟨g,v2,v3,rfl,sc,KL,nb,gl,gn⟩
   rw [hL.1,gu] at nb;rw [hL.1] at gl;exact ⟨_,rfl,kk _ _ _ _ sc nD fr KL nb gl gn⟩
theorem Ya:b8 ["_law_shape","_law_places","_law_names","_law_found","_law_i","_law_j"] ["_law_shape","_law_places"] (bj BL):=cV
theorem Gu(T:Txt K mg t):bK P w K mg base cB 3 t.r6 t.vy ["_law_shape","_law_places"] VY:=by
 have S:=Ya;refine T.pG.dQ S (fun _ _ _ _ H _ _ _ hr h=>?_);obtain ⟨tp,a,n,L,U,rfl,fO,nl,lt,ph,ea,hS,kk⟩:=h;have fJ:=eV.mp hS;have wI:U.Nodup:=fJ.1.imp fun z e=>by lia
 have lS:=Bf hS
 refine ⟨_,(aB (putL 2 S.nd (cC yo rfl T.nS oA (ak (pv 1) ao)))
  (aB (putL 3 S.nd (dD ao))
  (aB (eG dC rfl (tT (aR dZ (pv 0) aD)) (qq rfl (iR (cU (i:=4) S.nd rfl (Or.inl rfl)) (iR (cU (i:=5) S.nd rfl (Or.inl rfl)) qp)))
   (aF (cK (PW.pt (pw_and (nq (yr (K:=K)) (pv 4) (pv 2) rfl) (pw_and1 (nq (yr (K:=K)) (pv 5) (pv 2) rfl)))) (aF (fW (fF fq jN jO ie (pv 3) (ak (kI (ak (fF fq C7 C8 EZ (pv 2) (ak (pv 4) ao)) (ak (fF fq C7 C8 EZ (pv 2) (ak (pv 5) ao)) ao))) ao)))) cT)))
  (aF (bH (kI (ak (cC jt rfl T.iK iP (ak (pv 2) ao)) (ak (iT xG rfl T.wb boot_tuple (ak (cC Em rfl T.nS oA (ak (pv 3) ao)) ao)) ao)))))))),?_⟩
 refine bC fun _ fP=>⟨_,rfl,a,U.map iN,rfl,by rw [ea,cI];rfl,by rw [aC];lia,fun ws D pm so nD=>?_⟩
 have nX:ws=U.map iN:=LJ pm so fJ.1;subst nX;have s1:aj H (upd H D (.lst ((U.map iN).map V.int))):=aQ nD;have eD:upd H D (.lst ((U.map iN).map V.int)) D=some (.lst ((U.map iN).map V.int)):=av;generalize upd H D (.lst ((U.map iN).map V.int))=H1 at s1 eD ⊢;dsimp only [aO];refine fP _ _ ?_;refine bC fun _ iL=>⟨by show 0≤sizeLine;decide,fun fd gp=>?_⟩
 have s2:aj H1 (upd H1 fd (.lst [])):=aQ gp;have zb:upd H1 fd (.lst []) fd=some (.lst []):=av;have nf:H fd=none:=none_of s1 gp;have Df:D≠fd:=fT eD gp;generalize upd H1 fd (.lst [])=H2 at s2 zb ⊢;dsimp only [aO];refine iL _ _ ?_;have gJ:=s1.trans s2;obtain ⟨lk,us,dW,wH,hL⟩:=id (fO.mono gJ);have dF:L.length≤450:=bR (Fs nl lt) (by have:n*n≤30*30:=qe ph ph;lia)
 refine bC fun _ jE=>⟨_,rfl,tp,_,_,_,rfl,rfl,.of dW,rfl,lk,rfl,⟨_,.of wH⟩,?_⟩;refine Dt (K:=K) (a:=lk) (xs:=us) (fun k σ Hc=>∃(xs:List V) (v4 v5:Option V),σ=[some (.ref tp),some (.ref a),some (.ref D),some (.ref fd),v4,v5]∧aj H Hc∧Hc D=some (.lst ((U.map iN).map V.int))∧Hc lk=some (.tup us)∧aY Hc us L∧Hc fd=some (.lst xs)∧aY Hc xs (((L.take k).filter (fN U)).map (gG U))) ⟨[],_,_,rfl,gJ,s2 _ _ eD,wH,hL,zb,aY.nil _⟩ (fun k σ Hc _ ⟨_,_,_,_,_,_,el,_⟩=>.of el) ?_ ?_
 ·rintro k x σ Hc hx ⟨xs,v4,v5,rfl,sc,g_,d8,Cz,ef,hX⟩
  have hk:k<L.length:=by rw [←hL.1];exact (cu.mp hx).1
  obtain ⟨b,rfl,eb⟩:=Cz.2 k x L[k] hx (by simp [hk])
  have pk:=lt L[k] (bT hk);have tk:((L.take (k+1)).filter (fN U)).map (gG U)=((L.take k).filter (fN U)).map (gG U)++(([L[k]]).filter (fN U)).map (gG U):=by rw [kA,bu hk,mY,fj];rfl
  have lX:xs.length≤450:=by rw [hX.1,aC];have:=tF (fN U) (L.take k);rw [oi] at this;lia
  generalize L[k]=p at eb pk tk;obtain ⟨p1,p2⟩:=p;refine ⟨b,_,rfl,.of eb,rfl,_,_,rfl,_,_,rfl,rfl,?_⟩;have no:fN U (p1,p2)=false→∃(xs:List V) (v4 v5:Option V),[some (V.ref tp),some (.ref a),some (.ref D),some (.ref fd),some (.int p1),some (.int p2)]=[some (.ref tp),some (.ref a),some (.ref D),some (.ref fd),v4,v5]∧aj H Hc∧Hc D=some (.lst ((U.map iN).map V.int))∧Hc lk=some (.tup us)∧aY Hc us L∧Hc fd=some (.lst xs)∧aY Hc xs (((L.take (k+1)).filter (fN U)).map (gG U)):=fun e=>by
   refine ⟨xs,_,_,rfl,sc,g_,d8,Cz,ef,?_⟩;rw [tk,zP (by rw [e];exact dA)]
   simp only [zO,sY,ko];exact hX
  refine ⟨_,rfl,_,rfl,D,_,rfl,.inl (.of g_),rfl,EU _,_,rfl,dh (fun h1=>?_) (fun h1=>?_)⟩
  ·refine ⟨_,rfl,_,rfl,D,_,rfl,.inl (.of g_),rfl,EU _,_,rfl,dh (fun h2=>?_) (fun h2=>?_)⟩
   ·have m1:p1∈U.map iN:=df (by rw [←o_];exact h1)
    have m2:p2∈U.map iN:=df (by rw [←o_];exact h2)
    obtain ⟨i,hi,e1⟩:=nN.mp m1;obtain ⟨j,hj,e2⟩:=nN.mp m2;have ip:fN U (p1,p2)=true:=by unfold fN;rw [a_ m1,a_ m2];rfl
    have ix:gG U (p1,p2)=((i:Int),(j:Int)):=by unfold gG;simp only [e1,e2,cQ];rw [mI wI hi,mI wI hj]
    have at':∀(c:Nat) (hc:c<U.length) (z:Int),z=((U[c]:Nat):Int)→(U.map iN)[c]?=some z∧∀m,m<c→(U.map iN)[m]?≠some z:=fun c hc z e=>by
     subst e;refine ⟨by rw [bq,bu hc];rfl,fun m hm h=>?_⟩
     rw [bq,bu (show m<U.length by lia)] at h
     have h':=Option.some.inj h;have h2:((U[m]:Nat):Int)=((U[c]:Nat):Int):=h';have:=(lC wI).mp (show U[m]=U[c] by lia)
     lia
    have a1:=at' i hi p1 e1;have a2:=at' j hj p2 e2;refine ⟨_,rfl,.inl ⟨rfl,_,.of ef⟩,_,rfl,.inl ⟨rfl,_,.of g_⟩,_,rfl,D,U.map iN,i,p1,rfl,rfl,g_,by rw [aC];lia,a1.1,a1.2,_,rfl,.inl ⟨rfl,_,.of g_⟩,_,rfl,D,U.map iN,j,p2,rfl,rfl,g_,by rw [aC];lia,a2.1,a2.2,by show 2≤sizeLine;decide,fun tq pK=>?_⟩
    have st:aj Hc (upd Hc tq (.tup [.int (i:Int),.int (j:Int)])):=aQ pK;have NT:upd Hc tq (.tup [.int (i:Int),.int (j:Int)]) tq=some (.tup [.int (gG U (p1,p2)).1,.int (gG U (p1,p2)).2]):=by rw [av,ix]
    generalize upd Hc tq (.tup [.int (i:Int),.int (j:Int)])=Hd at st NT ⊢;have fQ:=st _ _ ef;have keep:∀b o,b≠fd→Hd b=some o→upd Hd fd (.lst (xs++[.ref tq])) b=some o:=fun b o nb e=>by rw [aH nb];exact e
    refine ⟨fd,xs,_,rfl,rfl,fQ,cj (by lia),xs++[.ref tq],_,_,rfl,eN (sc.trans st) nf,keep _ _ Df (st _ _ g_),keep _ _ (fun z=>by rw [z,ef] at d8;cases d8) (st _ _ d8),(Cz.mono st).cf fQ keep,av,?_⟩
    rw [tk,tL ip];exact ((hX.mono st).push NT).cf fQ keep
   ·exact no (by unfold fN;rw [bL (p:=p2∈U.map iN) (fun h=>h2 (by rw [o_];exact a_ h)),Bool.and_false])
  ·exact no (by unfold fN;rw [bL (p:=p1∈U.map iN) (fun h=>h1 (by rw [o_];exact a_ h)),wU])
 ·rintro σ Hc ⟨xs,v4,v5,rfl,sc,g_,d8,Cz,ef,hX⟩
  refine jE _ _ ?_;rw [hL.1,gu] at hX;have mz:=VW hS lt;have uR:=VX hS lt nl;have lM:((L.filter (fN U)).map (gG U)).length≤450:=by rw [aC];exact bR (tF _ _) dF
  generalize hM:(L.filter (fN U)).map (gG U)=M at hX mz uR lM;dsimp only;have small:∀q∈M,0≤q.2∧q.2<1000:=fun q hq=>by obtain ⟨c,d,hc,hd,cd,rfl,_⟩:=(mz q).mp hq;simp only;lia
  refine ⟨_,rfl,D,_,rfl,.inl (.of g_),_,rfl,?_⟩;dsimp only [tX];refine Ko ef hX (by lia) small fun l' ws N H3 s4 qW qR hN pN oN=>?_
  have Yb:N.Pairwise lexLt:=V1 (pN.nodup_iff.mpr uR) (fun q hq=>small q (pN.mem_iff.mp hq)) oN;have sub:mH L U N:=⟨Yb,fun z=>by rw [pN.mem_iff,mz]⟩
  refine ⟨l',ws,rfl,.inl ⟨.of qR,fun sU yU=>?_⟩⟩;have s5:aj H3 (upd H3 sU (.tup ws)):=aQ yU;have elt:upd H3 sU (.tup ws) sU=some (.tup ws):=av;generalize upd H3 sU (.tup ws)=H4 at s5 elt ⊢;refine ⟨by show 2≤sizeLine;decide,fun tq pK=>?_⟩
  have s6:aj H4 (upd H4 tq (.tup [.int (((U.map iN).map V.int).length:Int),.ref sU])):=aQ pK;have sT:=sc.trans (s4.trans s5);refine kk _ tq N (sT.trans s6) (none_of sT pK) ⟨sU,ws,?_,s6 _ _ elt,(hN.mono s5).mono s6⟩ sub ⟨pN.nodup_iff.mpr uR,sub.lt,Fs (pN.nodup_iff.mpr uR) sub.lt⟩;rw [av,aC,aC]
theorem Yc:b8 ["_law_order","_law_places","_law_names"] ["_law_order","_law_places"] (bj BM):=cV
theorem Yd(T:Txt K mg t):bK P w K mg base cB 3 t.r_ t.vz ["_law_order","_law_places"] VZ:=by
 have S:=Yc;refine T.vZ.dQ S (fun _ _ _ _ H _ _ _ hr h=>?_);obtain ⟨ro,a,n,o,U,rfl,sW,ho,ph,ea,hS,kk⟩:=h;have fJ:=eV.mp hS;have wI:U.Nodup:=fJ.1.imp fun z e=>by lia
 have lS:=Bf hS;have lo:o.length≤30:=by rw [ho.length_eq,dI];exact ph
 refine ⟨_,(aB (jW 2 S.nd (cC yo rfl T.nS oA (ak (pv 1) ao)))
  (aF (bH (fG (N:=["_law_place","_law_names"]) (ρ:=(fun σ=>[σ[2]?.join])) (en [2] rfl) rfl (fu (pv 0)) (fun _ _ _=>(.one (nq (yr (K:=K)) (pv 0) (pv 1) rfl))) (fun _ _ _=>(V0 (K:=K) fq C7 C8 EZ (pv 1) (ak (pv 0) ao))))))),?_⟩
 refine bC fun _ fP=>⟨_,rfl,a,U.map iN,rfl,by rw [ea,cI];rfl,by rw [aC];lia,fun ws D pm so nD=>?_⟩
 have nX:ws=U.map iN:=LJ pm so fJ.1;subst nX;have s1:aj H (upd H D (.lst ((U.map iN).map V.int))):=aQ nD;have eD:upd H D (.lst ((U.map iN).map V.int)) D=some (.lst ((U.map iN).map V.int)):=av;generalize upd H D (.lst ((U.map iN).map V.int))=H1 at s1 eD ⊢;dsimp only [aO];refine fP _ _ ?_;refine uj (VS (xs:=o.map fun k:Nat=>V.int (k:Int)) (fun v=>ee v ((U.map iN).map V.int)) (fun v=>match v with | .int z=>.int (U.idxOf z.toNat:Int) | v=>v) (fun R h=>⟨_,rfl,ro,rfl,⟨_,.of (s1 _ _ sW)⟩,h _ _ (aj.refl _) (ju (.of (s1 _ _ sW)))⟩) (by rw [aC];exact cj (by lia)) ?_ ?_ ?_)
 ·intro x hx Hc R sc kR
  obtain ⟨k,hk,rfl⟩:=bD.mp hx;exact ⟨_,rfl,_,rfl,D,_,rfl,.inl (.of (sc _ _ eD)),rfl,EU _,_,rfl,kR _ (aj.refl _)⟩
 ·intro x hx hc Hc R sc kR
  obtain ⟨k,hk,rfl⟩:=bD.mp hx;rw [o_] at hc;obtain ⟨c,fU,e⟩:=nN.mp (df hc);have ek:k=U[c]:=by lia
  refine ⟨_,rfl,.inl ⟨rfl,_,.of (sc _ _ eD)⟩,_,rfl,D,U.map iN,c,(k:Int),rfl,rfl,sc _ _ eD,by rw [aC];lia,by rw [bq,bu fU,ek];rfl,fun m hm h=>?_,?_⟩
  ·rw [bq,bu (show m<U.length by lia)] at h
   have h':=Option.some.inj h;have h2:((U[m]:Nat):Int)=(k:Int):=h';have:=(lC wI).mp (show U[m]=U[c] by lia)
   lia
  ·have e2:(V.int (c:Int))=V.int (U.idxOf (k:Int).toNat:Int):=by rw [cQ,ek,mI wI fU]
   rw [e2];exact kR _ (aj.refl _)
 ·intro D2 Hc yS sc pJ
  refine kk _ D2 (s1.trans sc) (none_of s1 yS) ?_;rw [pJ]
  congr 2
  unfold jA;rw [xb];have ef:((fun v=>ee v ((U.map iN).map V.int)) ∘ fun k:Nat=>V.int (k:Int))=fun p=>decide (p∈U):=by
   funext p
   show ee (.int (p:Int)) ((U.map iN).map V.int)=_;rw [o_];refine mW.mpr ⟨fun h=>?_,fun h=>bD.mpr ⟨p,h,rfl⟩⟩;obtain ⟨x,hx,e⟩:=bD.mp h;have:(x:Int)=(p:Int):=e;have:x=p:=by lia
   exact this▸hx
  rw [ef,cI,cI];refine hE fun p _=>?_;show V.int (U.idxOf (p:Int).toNat:Int)=V.int (U.idxOf p:Int);rw [cQ]
theorem Ye:b8 ["_law_shape","_law_order","_law_later","_law_place","_law_left","_law_above","_law_way"] ["_law_shape","_law_order"] (bj BN):=cV
theorem Yf(T:Txt K mg t):bK P w K mg base cB 6 t.si t.vB ["_law_shape","_law_order"] V2:=by
 have S:=Ye;refine T.v9.dQ S (fun _ _ _ _ H _ _ _ hr h=>?_);obtain ⟨tp,ro,n,L,o,rfl,fO,cm,lB,ph,sW,ho,kk⟩:=h;have jb:=hr.units;have hu:=hr.Ip;have Yg:H ro=some (.lst ((o.map iN).map V.int)):=by rw [sW,cI];rfl
 have lo:o.length=n:=by rw [ho.length_eq,dI]
 refine ⟨_,(aB (jW 2 S.nd (a8 (FL T) hr T.BR T.pE.kp T.BQ l_ (ak (pv 0) (ak (pv 1) ao))))
  (aB (eG dC rfl (kG rfl T.gI (ak (aR dZ (pv 0) aD) ao)) (cU (i:=3) S.nd rfl (Or.inr rfl))
   (aB (Ap (i0:=4) (N:=["_law_one","_law_later","_law_place"]) (ρ:=(fun σ=>[σ[2]?.join,σ[3]?.join])) (en [2,3] rfl) rfl S.nd rfl (Or.inl rfl) (fu (pv 1)) (fun _ _ _=>(.one (nq (yr (K:=K)) (pv 0) (aR (oS (K:=K)) (pv 1) (pv 2)) rfl))) (fun _ _ _=>(pv 0)))
  (aF (cK (cL (En jb) (pv 4) (dD ao)) (aB (jW 5 S.nd (aR cz (pv 4) aD))
  (aB (cK (jQ (cC (Aq (K:=K) rfl) rfl T.yP boot_any (ak (fG (N:=["_law_one","_law_later","_law_above"]) (ρ:=(fun σ=>[σ[2]?.join,σ[5]?.join])) (en [2,5] rfl) rfl (fu (IF IJ (pv 4) (ID aD) IC)) (fun _ _ _=>.nil) (fun _ _ _=>(xA (AX (K:=K)) (pv 0) (aR (oS (K:=K)) (pv 1) (pv 2)) rfl))) ao))) (aF (bH fV)) cT)
  (aB (jW 6 S.nd (dD (ak (pv 5) ao)))
  (aB (tS dC (cL (En jb) (aR cz (pv 2) (aR cz (pv 6) (HY H_ aD))) (dD ao)) (aF (fW (fF fq jN jO ie (pv 6) (ak (aR cz (fG (N:=["_law_one","_law_later","_law_way"]) (ρ:=(fun σ=>[σ[2]?.join,σ[6]?.join])) (en [2,6] rfl) rfl (fu (pv 1)) (fun _ _ _=>(.one (nq (yr (K:=K)) (pv 0) (aR (oS (K:=K)) (pv 1) (aR (oS (K:=K)) (pv 2) (HY H_ aD))) rfl))) (fun _ _ _=>(pv 0))) aD) ao)))))
  (aF (cK (jQ (cC (Aq (K:=K) rfl) rfl T.yP boot_any (ak (fG (N:=["_law_one","_law_way"]) (ρ:=(fun σ=>[σ[6]?.join])) (en [6] rfl) rfl (fu (pv 4)) (fun _ _ _=>.nil) (fun _ _ _=>(xA (AX (K:=K)) (pv 0) (pv 1) rfl))) ao))) (aF (bH fV)) cT)))))) cT))))
  (aF (bH fV)))),?_⟩
 refine bC fun _ fP=>⟨_,rfl,_,rfl,tp,ro,n,L,o.map iN,rfl,fO,cm,lB,by lia,Yg,by rw [aC];lia,fun no=>absurd (ho.map iN) no,fun o2 e2 mE H1 D rs g s1 nD B6 la zg=>?_⟩
 have qP:=pB e2;subst qP;obtain ⟨lk,us,dW,wH,hL⟩:=id (fO.mono s1);dsimp only [aO];refine fP _ _ ?_;refine bC fun _ iL=>⟨_,rfl,tp,_,_,_,rfl,rfl,.of dW,rfl,_,rfl,by lia,by lia,?_⟩
 have Bh:o2.Nodup:=ho.nodup_iff.mpr hI;have CA:∀{Hx:Hp},aj H1 Hx→Hx ro=some (.lst (o2.map fun k:Nat=>V.int (k:Int))):=fun sx=>sx _ _ (s1 _ _ sW);have lax:∀{Hx:Hp} {p:Nat},aj H1 Hx→p<n→Hx (rs p)=some (.lst ((g p).map fun k:Nat=>V.int (k:Int))):=fun sx hp=>sx _ _ (la.2 _ hp);have CB:∀{Hx:Hp},aj H1 Hx→Hx D=some (.lst ((List.range n).map fun p=>V.ref (rs p))):=fun sx=>sx _ _ la.1;have CD:∀{p:Nat},p<n→gS ((List.range n).map fun p=>V.ref (rs p)) (p:Int)=some (.ref (rs p)):=fun{p} hp=>iU (by rw [bq,jK hp];rfl)
 have NU:∀(u p:Nat),ee (.int (u:Int)) ((g p).map fun k:Nat=>V.int (k:Int))=decide (u∈g p):=fun u p=>by
  have e:((g p).map fun k:Nat=>V.int (k:Int))=((g p).map iN).map V.int:=by rw [cI];rfl
  rw [e,o_];refine mW.mpr ⟨fun h=>?_,fun h=>bD.mpr ⟨u,h,rfl⟩⟩;obtain ⟨x,hx,e⟩:=bD.mp h;have:(x:Int)=(u:Int):=e;have:x=u:=by lia
  exact this▸hx
 have NV:∀p:Nat,(o2.map fun k:Nat=>V.int (k:Int)).filter (fun v=>ee v ((g p).map fun k:Nat=>V.int (k:Int)))=(o2.filter fun u=>decide (u∈g p)).map fun k:Nat=>V.int (k:Int):=fun p=>by
  rw [xb]
  congr 1
  refine List.filter_congr fun u _=>?_;exact NU u p
 refine oG (fun i σ Hc=>∃(v3 v4 v5 v6:Option V),σ=[some (.ref tp),some (.ref ro),some (.ref D),v3,v4,v5,v6]∧aj H1 Hc) ⟨_,_,_,_,rfl,aj.refl _⟩ ?_ ?_
 ·rintro p σ Hc hp ⟨v3,v4,v5,v6,rfl,sc⟩
  dsimp only [aO];have zp:(0:Int)+(p:Int)=(p:Int):=oz _;rw [zp];refine bC fun _ jE=>ma (A3 (xs:=o2.map fun k:Nat=>V.int (k:Int)) (fun v=>ee v ((g p).map fun k:Nat=>V.int (k:Int))) (fun R h=>⟨_,rfl,ro,rfl,⟨_,.of (CA sc)⟩,h _ _ (aj.refl _) (ju (.of (CA sc)))⟩) (by rw [aC];exact cj (by lia)) ?_ (fun x Hc R h=>⟨_,rfl,h⟩) ?_)
  ·intro x hx Hd R sd kR
   obtain ⟨u,hu,rfl⟩:=bD.mp hx;have sx:=sc.trans sd;exact ⟨_,rfl,_,rfl,_,rfl,D,_,_,_,rfl,rfl,.of (CB sx),CD hp,rs p,_,rfl,.inl (.of (lax sx hp)),rfl,qT _,_,rfl,kR⟩
  intro Dl H2 M9 s2 n4;rw [NV] at n4;dsimp only [aO];refine jE _ _ ?_;have gJ:=sc.trans s2;refine ⟨_,rfl,bY _,fun em Yh=>?_⟩;have s3:aj H2 (upd H2 em (.lst [])):=aQ Yh;have Gv:upd H2 em (.lst []) em=some (.lst []):=av;generalize upd H2 em (.lst [])=H3 at s3 Gv ⊢;have gm:=gJ.trans s3;cases ef:o2.filter fun u=>decide (u∈g p) with
  | nil=>rw [ef] at n4;exact ⟨Dl,em,_,rfl,rfl,.of (s3 _ _ n4),Gv,false,rfl,fY ⟨_,_,_,_,rfl,gm⟩⟩
  | cons v rest=>
   rw [ef] at n4;refine ⟨Dl,em,_,rfl,rfl,.of (s3 _ _ n4),Gv,true,rfl,t_ ?_⟩;have mv:v∈o2∧v∈g p:=by
    have:=bI.mp (show v∈o2.filter fun u=>decide (u∈g p) by rw [ef];exact bV)
    exact ⟨this.1,df this.2⟩
   have vn:v<n:=bb.mp (ho.mem_iff.mp mv.1);have mr:∀u∈rest,u∈g v:=fun u hu=>by
    have:=bI.mp (show u∈o2.filter fun u=>decide (u∈g p) by rw [ef];exact bX _ hu)
    exact LP zg hp mv.2 (df this.2) (Fv Bh ef u hu)
   have adi:rest.length≤30:=by have:=tF (fun u=>decide (u∈g p)) o2;rw [ef,dY] at this;lia
   refine bC fun _ sJ=>⟨_,rfl,Dl,_,0,.int (v:Int),rfl,rfl,.of (s3 _ _ n4),iU (j:=0) rfl,?_⟩;dsimp only [aO];refine sJ _ _ ?_;refine bC fun _ sM=>Be (any_none (xs:=rest.map fun k:Nat=>V.int (k:Int)) (fun R h=>?_) (by rw [aC];exact cj (by lia)) ?_ fun H5 s5=>fY ?_)
   ·refine ⟨_,rfl,1,rfl,Dl,_,rfl,.of (s3 _ _ n4),fun ps Gw=>?_⟩
    have c1:nz ((v::rest).map fun k:Nat=>V.int (k:Int)) (some 1) none=rest.map fun k:Nat=>V.int (k:Int):=by rw [show (some (1:Int))=some ((1:Nat):Int) from rfl,Ue];rfl
    rw [c1];exact ⟨ps,rfl,⟨_,.of av⟩,h _ _ (aQ Gw) (ju (.of av))⟩
   ·intro x hx Hd R sd kR
    obtain ⟨u,hu,rfl⟩:=bD.mp hx;have sx:=gm.trans sd;refine ⟨_,rfl,_,rfl,_,rfl,D,_,_,_,rfl,rfl,.of (CB sx),CD vn,rs v,_,rfl,.inl (.of (lax sx vn)),rfl,qT _,?_⟩;have e:(!ee (V.int (u:Int)) ((g v).map fun k:Nat=>V.int (k:Int)))=false:=by rw [NU,a_ (mr u hu)];rfl
    rw [e];exact kR _ (aj.refl _)
   dsimp only [iQ];refine sM _ _ ?_;have CF:=gm.trans s5;refine bC fun _ zh=>⟨_,rfl,by show 1≤sizeLine;decide,fun wy Gx=>?_⟩
   have s6:aj H5 (upd H5 wy (.lst [.int (v:Int)])):=aQ Gx;have NW:upd H5 wy (.lst [.int (v:Int)]) wy=some (.lst [.int (v:Int)]):=av;have Yi:H1 wy=none:=none_of CF Gx;generalize upd H5 wy (.lst [.int (v:Int)])=H6 at s6 NW ⊢;dsimp only [aO];refine zh _ _ ?_;have Gy:=CF.trans s6;have Yj:=((s3.trans s5).trans s6) _ _ n4;have Yk:Dl≠wy:=fT ((s3.trans s5) _ _ n4) Gx;refine bC fun _ zi=>⟨fun m σ Hc=>∃(ws:List Nat) (x:Nat),σ=[some (.ref tp),some (.ref ro),some (.ref D),some (.int (p:Int)),some (.ref Dl),some (.int (v:Int)),some (.ref wy)]∧x<n∧m=n-o2.idxOf x∧aj H1 Hc∧Hc Dl=some (.lst ((v::rest).map fun k:Nat=>V.int (k:Int)))∧Hc wy=some (.lst ((ws++[x]).map fun k:Nat=>V.int (k:Int)))∧ws.length≤o2.idxOf x∧∀u∈v::rest,u∈ws++[x]∨u∈g x,⟨_,[],v,rfl,vn,rfl,Gy,Yj,NW,bY _,fun u hu=>?_⟩,?_⟩
   ·rcases bh.mp hu with rfl | h
    ·exact .inl (bV)
    ·exact .inr (mr u h)
   rintro m σ Hd ⟨ws,x,rfl,xn,rfl,sd,sI,y6,lws,NX⟩;have ix:o2.idxOf x<n:=by rw [←lo];exact qb.mpr (ho.mem_iff.mpr (bb.mpr xn))
   have last:gS ((ws++[x]).map fun k:Nat=>V.int (k:Int)) (-1)=some (.int (x:Int)):=TQ (by simp) (by simp)
   refine ⟨_,rfl,_,rfl,_,rfl,wy,_,-1,.int (x:Int),rfl,rfl,.of y6,last,D,_,(x:Int),_,rfl,rfl,.of (CB sd),CD xn,bY _,fun zl Yl=>?_⟩;have se:aj Hd (upd Hd zl (.lst [])):=aQ Yl;have NY:upd Hd zl (.lst []) zl=some (.lst []):=av;generalize upd Hd zl (.lst [])=He at se NY ⊢;have wJ:=sd.trans se;have mO:=se _ _ y6;refine ⟨rs x,zl,_,rfl,rfl,.of (lax wJ xn),NY,_,rfl,dh (fun eL=>?_) (fun NZ=>?_)⟩
   ·have Ym:g x≠[]:=fun z=>by rw [z] at eL;cases eL
    refine ⟨fun σ Hc=>∃(ws:List Nat) (x':Nat),σ=[some (.ref tp),some (.ref ro),some (.ref D),some (.int (p:Int)),some (.ref Dl),some (.int (v:Int)),some (.ref wy)]∧x'<n∧o2.idxOf x<o2.idxOf x'∧aj H1 Hc∧Hc Dl=some (.lst ((v::rest).map fun k:Nat=>V.int (k:Int)))∧Hc wy=some (.lst ((ws++[x']).map fun k:Nat=>V.int (k:Int)))∧ws.length≤o2.idxOf x'∧∀u∈v::rest,u∈ws++[x']∨u∈g x',?_,?_⟩
    ·rintro σ' H' ⟨Yn,x',rfl,CG,ii,a1,a2,a3,a4,a5⟩
     have ix':o2.idxOf x'<n:=by rw [←lo];exact qb.mpr (ho.mem_iff.mpr (bb.mpr CG))
     exact ⟨n-o2.idxOf x',by lia,Yn,x',rfl,CG,rfl,a1,a2,a3,a4,a5⟩
    dsimp only;refine ⟨_,rfl,.inl ⟨rfl,_,.of mO⟩,?_⟩;have lwx:ws.length<n:=by lia
    refine Ft (Fw (A3 (xs:=o2.map fun k:Nat=>V.int (k:Int)) (fun v=>ee v ((g x).map fun k:Nat=>V.int (k:Int))) (fun R h=>⟨_,rfl,ro,rfl,⟨_,.of (CA wJ)⟩,h _ _ (aj.refl _) (ju (.of (CA wJ)))⟩) (by rw [aC];exact cj (by lia)) ?_ (fun x Hc R h=>⟨_,rfl,h⟩) ?_))
    ·intro y hy Hf R sf kR
     obtain ⟨u,hu,rfl⟩:=bD.mp hy;have sx:=wJ.trans sf;exact ⟨_,rfl,_,rfl,_,rfl,_,rfl,wy,_,-1,.int (x:Int),rfl,rfl,.of (sf _ _ mO),last,D,_,(x:Int),_,rfl,rfl,.of (CB sx),CD xn,rs x,_,rfl,.inl (.of (lax sx xn)),rfl,qT _,_,rfl,kR⟩
    intro Dc Hf Yo sf g_;rw [NV] at g_;cases eg:o2.filter fun u=>decide (u∈g x) with
    | nil=>obtain ⟨y,hy⟩:=List.exists_mem_of_ne_nil _ Ym;have qB:=((zg x xn).2 y).mp hy;have:y∈o2.filter fun u=>decide (u∈g x):=bI.mpr ⟨ho.mem_iff.mpr (bb.mpr qB.1),a_ hy⟩;rw [eg] at this;cases this
    | cons x' rst=>
     rw [eg] at g_;have mx:x'∈o2∧x'∈g x:=by
      have:=bI.mp (show x'∈o2.filter fun u=>decide (u∈g x) by rw [eg];exact bV)
      exact ⟨this.1,df this.2⟩
     have CG:x'<n:=bb.mp (ho.mem_iff.mp mx.1);have ii:=(((zg x xn).2 x').mp mx.2).2.1;refine ⟨Dc,_,0,.int (x':Int),rfl,rfl,.of g_,iU (j:=0) rfl,?_⟩;have F5:=sf _ _ mO;refine ⟨wy,_,_,rfl,rfl,F5,by rw [aC,di,kr];exact cj (by lia),?_⟩
     have Yp:=wJ.trans sf;refine ⟨ws++[x],x',rfl,CG,ii,?_,(aH Yk).trans ((se.trans sf) _ _ sI),?_,by rw [di,kr];lia,fun u hu=>?_⟩
     ·exact eN Yp Yi
     ·rw [av,fj (l₂:=[x'])]
      rfl
     ·rcases NX u hu with h | h
      ·exact .inl (kj _ h)
      ·by_cases e:u=x'
       ·subst e
        exact .inl (d9 _ bV)
       ·have Gi:=((zg x xn).2 u).mp h
        have mu:u∈o2.filter fun u=>decide (u∈g x):=bI.mpr ⟨ho.mem_iff.mpr (bb.mpr Gi.1),a_ h⟩;rw [eg] at mu;have Yq:=(bh.mp mu).resolve_left e;exact .inr (LP zg xn mx.2 h (Fv Bh eg u Yq))
   ·have Yr:g x=[]:=by
     cases e:g x with
     | nil=>rfl
     | cons y l=>rw [e] at NZ;exact absurd rfl NZ
    refine zi _ _ ?_;refine Be (any_none (xs:=(v::rest).map fun k:Nat=>V.int (k:Int)) (fun R h=>⟨_,rfl,Dl,rfl,⟨_,.of (se _ _ sI)⟩,h _ _ (aj.refl _) (ju (.of (se _ _ sI)))⟩) (by rw [aC,dY];exact cj (by lia)) ?_ fun H8 s8=>fY ⟨_,_,_,_,rfl,wJ.trans s8⟩)
    intro y hy Hf R sf kR;obtain ⟨u,hu,rfl⟩:=bD.mp hy;refine ⟨_,rfl,_,rfl,wy,_,rfl,.inl (.of (sf _ _ mO)),rfl,qT _,?_⟩;have mu:u∈ws++[x]:=(NX u hu).resolve_right (by rw [Yr];exact mR)
    have e:(!ee (V.int (u:Int)) ((ws++[x]).map fun k:Nat=>V.int (k:Int)))=false:=by
     have e:((ws++[x]).map fun k:Nat=>V.int (k:Int))=((ws++[x]).map iN).map V.int:=by rw [cI];rfl
     rw [e,o_,a_ (show (u:Int)∈(ws++[x]).map iN from bD.mpr ⟨u,mu,rfl⟩)];rfl
    rw [e];exact kR _ (aj.refl _)
 ·rintro σ Hc ⟨v3,v4,v5,v6,rfl,sc⟩
  refine iL _ _ ?_;exact kk _ (s1.trans sc)
theorem Ys:b8 ["_law_shape","_law_near","_law_whole","_law_place","_law_some","_law_linked","_law_rest","_law_word","_law_told"] ["_law_shape"] (bj BO):=cV
theorem Yt(T:Txt K mg t)(hB:ke base mg):bK P w K mg base cB 8 t.sj t.vD ["_law_shape"] (V3 139 jc):=by
 have S:=Ys;have N0:=Xu (P:=P) (w:=w) (base:=base) T hB;refine T.v_.dQ S (fun _ _ _ _ H _ _ _ hr h=>?_);obtain ⟨tp,n,L,rfl,fO,pw,lt,pR,tab,kk⟩:=h;have jb:=hr.units;have hu:=hr.Ip;have nl:L.Nodup:=pw.imp fun h e=>by subst e;unfold lexLt at h;lia
 have dF:L.length≤50:=bR (Fs nl lt) (by have:n*n≤10*10:=qe pR pR;lia)
 have cm:eB n L:=fun p hp=>by have:=lt p hp;exact ⟨this.1,by lia,by lia,this.2.2⟩
 have lB:k8 L:=fun p hp=>by have:=lt p hp;lia
 refine ⟨_,(aB (jW 1 S.nd (a8 (X_ T) hr T.MA T.vY.kp T.Mz bQ (ak (pv 0) ao)))
  (aB (putL 2 S.nd (aR dZ (a8 N0 hr T.FE T.sE.kp T.FD bQ (ak (pv 0) ao)) aD))
  (aB (eG dC rfl (kG rfl T.gI (ak (aR dZ (pv 0) aD) ao)) (cU (i:=3) S.nd rfl (Or.inr rfl))
   (aB (jW 4 S.nd (aR cz (pv 1) (pv 3)))
  (aB (Rq (i0:=5) (N:=["_law_one","_law_some","_law_near"]) (ρ:=(fun σ=>[σ[4]?.join,σ[1]?.join])) ⟨rfl,rfl,(fun _=>rfl),(fun _=>rfl),by decide +kernel,(List.forall_mem_cons.mpr ⟨rfl,(List.forall_mem_cons.mpr ⟨rfl,(List.forall_mem_nil _)⟩)⟩),Rj (by rfl),rfl,by decide +kernel,rfl,(fun σ j v h=>match j,h with | 0,h=>⟨4,_,rfl,rfl,join_some h,Or.inr (Or.inl rfl),.inl rfl,.inl rfl⟩ | 1,h=>⟨1,_,rfl,rfl,join_some h,Or.inr (Or.inl rfl),.inl rfl,.inl rfl⟩ | j+2,h=>by cases h),(fun _ _=>rfl)⟩ rfl S.nd rfl (Or.inl rfl) (fu (pv 4)) (fun _ _ _=>(.one (cL jo (cC (Jq (K:=K)) rfl T.iK iP (ak (fG (N:=["_law_other","_law_one","_law_near"]) (ρ:=(fun σ=>[σ[0]?.join,σ[2]?.join])) (en [0,2] rfl) rfl (Rw (K:=K) (pv 1)) (fun _ _ _=>(.one (PW.pt (pw_and (cL tW (pv 0) (pv 1)) (pw_and1 (nq (AX (K:=K)) (pv 0) (aR (oS (K:=K)) (pv 2) (pv 1)) rfl)))))) (fun _ _ _=>(pv 0))) ao)) aD))) (fun _ _ _=>(pv 0)))
  (aF (cK (PW.pt (pw_and (cL jo (cC jt rfl T.iK iP (ak (pv 5) ao)) (cC jt rfl T.iK iP (ak (pv 4) ao))) (pw_and1 (cL jS (aR dZ (pv 0) aD) aD)))) (aB (jW 6 S.nd (fG (N:=["_law_one","_law_place"]) (ρ:=(fun σ=>[σ[3]?.join])) (en [3] rfl) rfl (kG rfl T.gI (ak (aR dZ (pv 0) aD) ao)) (fun _ _ _=>(.one (cL tW (pv 0) (pv 1)))) (fun _ _ _=>(pv 0))))
  (aB (@tQ _ _ _ _ _ _ (a8 N0 hr T.FE T.sE.kp T.FD bQ (ak (a8 (Gu T) hr T.BW T.pG.kp T.BV bQ (ak (pv 0) (ak (pv 6) ao))) ao)) (qq rfl (iR (cU (i:=7) S.nd rfl (Or.inl rfl)) (iR (cU (i:=8) S.nd rfl (Or.inl rfl)) qp))) (by rfl) (by rfl) (by rfl))
  (aB (cK (cL tW (pv 7) (pv 2)) (aF (bH fV)) cT)
  (aF (cK (cL jo (pv 7) xq) (aF (cK (tP (jQ (a8 (Na T) hr T.FC T.sD.kp T.FA l_ (ak (pv 0) (ak (b7 DL (dD (ak (pv 3) ao)) (fG (N:=["_law_one","_law_rest"]) (ρ:=(fun σ=>[σ[6]?.join])) (en [6] rfl) rfl (fu (pv 8)) (fun _ _ _=>.nil) (fun _ _ _=>(aR (oS (K:=K)) (pv 1) (pv 0))))) ao))))) (aF (bH fV)) cT)) cT))))) cT)))))
  (aF (bH fV))))),?_⟩
 refine bC fun _ fP=>⟨_,rfl,tp,n,L,rfl,fO,cm,by lia,by lia,fun H1 D rs g s1 nD B6 CH nb lg Yu=>?_⟩
 dsimp only [aO];refine fP _ _ ?_;have gnd:=Yu (fun p hp=>(lt p hp).2.1) nl;have N1:∀i,(g i).length≤100:=fun i=>bR (lg i) (by lia)
 have N2:=fO.mono s1;have N3:=tab.mono s1;refine bC fun R iL=>?_;have rest:∀(wd:String) (H2:Hp),cO 139 H1 H2→cG 139 jc gg H2→(wd="order"∧(∃o:List Nat,o.Perm (List.range n)∧b9 n L o L)∨wd="ring"∧∀o:List Nat,o.Perm (List.range n)→¬b9 n L o L)→R [some (.ref tp),some (.ref D),some (.str wd),none,none,none,none,none,none] H2:=by
  intro wd H2 s2 t2 Yv;refine iL _ _ ?_;obtain ⟨ps1,N4⟩:=N3.at;have ne1:∀{b:Addr} {xs:List V},(H1 b=some (.lst xs)∨H1 b=some (.tup xs))→b≠139:=fun{b xs} e z=>by rw [z,N4] at e;rcases e with e | e <;> cases e
  have CI:∀{Hx:Hp},cO 139 H1 Hx→cY Hx tp n L:=fun sx=>Lr N2 N4 sx;have Dx:∀{Hx:Hp},cO 139 H1 Hx→Hx D=some (.lst ((List.range n).map fun i=>V.ref (rs i))):=fun sx=>sx _ _ (ne1 (.inl CH.lst)) CH.lst;have rx:∀{Hx:Hp} {i:Nat},i<n→cO 139 H1 Hx→Hx (rs i)=some (.lst ((g i).map fun k:Nat=>V.int (k:Int))):=fun hi sx=>sx _ _ (ne1 (.inl (CH.at' _ hi))) (CH.at' _ hi);have tr:∀{Hx Hy:Hp},cO 139 H1 Hx→aj Hx Hy→cO 139 H1 Hy:=fun a b x o nx e=>b x o (a x o nx e);obtain ⟨lk,us,dW,wH,hLk⟩:=id (CI s2);refine bC fun _ jE=>⟨_,rfl,tp,_,_,_,rfl,rfl,.of dW,rfl,(n:Int),rfl,by lia,by lia,?_⟩
  rw [cQ];refine oG (fun i σ Hc=>∃v:Nat→Option V,σ=[some (.ref tp),some (.ref D),some (.str wd),v 3,v 4,v 5,v 6,v 7,v 8]∧cO 139 H1 Hc∧cG 139 jc gg Hc) ⟨fun _=>none,rfl,s2,t2⟩ ?_ ?_
  ·rintro p σ Hc hp ⟨v,rfl,sc,tc⟩
   dsimp only [aO];rw [show (0:Int)+(p:Int)=(p:Int) from oz _];refine bC fun _ sJ=>⟨_,rfl,_,rfl,D,_,(p:Int),.ref (rs p),rfl,rfl,.of (Dx sc),iU (by rw [bq,jK hp];rfl),?_⟩
   dsimp only [aO];refine sJ _ _ ?_;have mem:∀{x u:Nat},x<n→u∈g x→u<n∧aL n L x u:=fun{x u} hx hu=>by
    have h:=(nb x u hx).mp hu;have un:u<n:=by
     rcases h with h | h
     ·have:=lt _ h
      simp only at this;lia
     ·have:=lt _ h
      simp only at this;lia
    exact ⟨un,hx,un,h⟩
   let c:V→Bool:=fun x=>match x with
    | .int z=>decide (((g p).filter fun b=>!decide (b=z.toNat) && !decide (b∈g z.toNat)).length=0)
    | _=>false
   refine bC fun _ sM=>ma (UG (xs:=(g p).map fun k:Nat=>V.int (k:Int)) c (fun R h=>⟨_,rfl,rs p,rfl,⟨_,.of (rx hp sc)⟩,h _ _ (aj.refl _) (ju (.of (rx hp sc)))⟩) (by rw [aC];exact cj (by have:=N1 p;lia)) ?_ (fun x Hc R h=>⟨_,rfl,h⟩) ?_)
   ·intro x hx Hd R sd kR
    obtain ⟨u,hu,rfl⟩:=bD.mp hx;have un:=(mem hp hu).1;have sx:=tr sc sd;refine Fw (qH (A3 (xs:=(g p).map fun k:Nat=>V.int (k:Int)) (fun y=>!decide (y=.int (u:Int)) && !ee y ((g u).map fun k:Nat=>V.int (k:Int))) (fun R h=>⟨_,rfl,rs p,rfl,⟨_,.of (rx hp sx)⟩,h _ _ (aj.refl _) (ju (.of (rx hp sx)))⟩) (by rw [aC];exact cj (by have:=N1 p;lia)) ?_ (fun x Hc R h=>⟨_,rfl,h⟩) ?_))
    ·intro y hy He R' se CJ
     obtain ⟨b,hb,rfl⟩:=bD.mp hy;have sy:=tr sx se;refine ⟨_,rfl,_,rfl,rfl,_,rfl,dh (fun h1=>?_) (fun h1=>?_)⟩
     ·have Gz:(!decide (V.int (b:Int)=V.int (u:Int)))=true:=h1
      refine ⟨_,rfl,_,rfl,_,rfl,D,_,(u:Int),.ref (rs u),rfl,rfl,.of (Dx sy),iU (by rw [bq,jK un];rfl),rs u,_,rfl,.inl (.of (rx un sy)),rfl,qT _,_,rfl,?_⟩
      rw [Gz,Bool.true_and] at CJ;exact CJ
     ·have Gz:(!decide (V.int (b:Int)=V.int (u:Int)))=false:=Bool.eq_false_iff.mpr h1
      rw [Gz,wU] at CJ;exact CJ
    ·intro D2 He yS se pJ
     refine ⟨D2,_,rfl,.inl (.of pJ),rfl,_,rfl,?_⟩;have ec:decide (V.int ((((g p).map fun k:Nat=>V.int (k:Int)).filter fun y=>!decide (y=.int (u:Int)) && !ee y ((g u).map fun k:Nat=>V.int (k:Int))).length:Int)=V.int 0)=c (.int (u:Int)):=by
      show _=decide (((g p).filter fun b=>!decide (b=(u:Int).toNat) && !decide (b∈g (u:Int).toNat)).length=0);rw [cQ,xb,aC,qE];have ef:((fun y=>!decide (y=V.int (u:Int)) && !ee y ((g u).map fun k:Nat=>V.int (k:Int))) ∘ fun k:Nat=>V.int (k:Int))=fun b=>!decide (b=u) && !decide (b∈g u):=by
       funext b
       show (!decide (V.int (b:Int)=V.int (u:Int)) && !ee (.int (b:Int)) ((g u).map fun k:Nat=>V.int (k:Int)))=_;rw [qE,AY]
       congr 2
       exact mW.mpr ⟨fun h=>by lia,fun h=>by lia⟩
      rw [ef];exact mW.mpr ⟨fun h=>by lia,fun h=>by lia⟩
     rw [ec];exact kR _ se
   intro D3 H3 nD3 s3 Yw;dsimp only [aO];refine sM _ _ ?_;have mL:=tr sc s3;have next:∀(Hx:Hp) (w:Nat→Option V),cO 139 H1 Hx→cG 139 jc gg Hx→∃v:Nat→Option V,[some (V.ref tp),some (.ref D),some (.str wd),w 3,w 4,w 5,w 6,w 7,w 8]=[some (.ref tp),some (.ref D),some (.str wd),v 3,v 4,v 5,v 6,v 7,v 8]∧cO 139 H1 Hx∧cG 139 jc gg Hx:=fun Hx w a b=>⟨w,rfl,a,b⟩
   refine ⟨_,rfl,D3,_,rfl,.inl (.of Yw),_,rfl,rs p,_,rfl,.inl (.of (rx hp mL)),rfl,_,rfl,dh (fun hl=>?_) (fun hl=>?_)⟩
   ·obtain ⟨lk3,us3,N5,adv,hL3⟩:=id (CI mL)
    refine ⟨_,rfl,tp,_,_,_,rfl,rfl,.of N5,rfl,_,_,rfl,rfl,_,rfl,dh (fun h1=>?_) (fun h1=>?_)⟩
    ·have n1:1<(n:Int):=df h1
     have all:∀u∈g p,c (.int (u:Int))=true:=fun u hu=>by
      have hl':((((g p).map fun k:Nat=>V.int (k:Int)).filter c).length:Int)=(((g p).map fun k:Nat=>V.int (k:Int)).length:Int):=by have:=df hl;injection this
      have:=List.length_filter_eq_length_iff.mp (show (((g p).map fun k:Nat=>V.int (k:Int)).filter c).length=((g p).map fun k:Nat=>V.int (k:Int)).length by lia)
      exact this _ (bD.mpr ⟨u,hu,rfl⟩)
     have free:∀x y,x≠y→aL n L p x→aL n L p y→aL n L x y:=fun x y xy hx hy=>by
      have gx:x∈g p:=(nb p x hp).mpr hx.2.2;have gy:y∈g p:=(nb p y hp).mpr hy.2.2;have h:=df (all x gx);rw [cQ] at h;refine gB fun z=>?_;have ny:y∉g x:=fun h'=>z (mem hx.2.1 h').2;have:y∈(g p).filter fun b=>!decide (b=x) && !decide (b∈g x):=bI.mpr ⟨gy,by rw [bL (Ne.symm xy),bL ny];rfl⟩
      have:=List.length_pos_of_mem this;lia
     have hU:((List.range n).filter fun x=>!decide (x=p))∈g9 n:=eV.mpr ⟨w_.filter _,fun x hx=>bb.mp (bI.mp hx).1⟩;have mU:∀x,x∈((List.range n).filter fun x=>!decide (x=p))↔x<n∧x≠p:=fun x=>by rw [bI,bb];simp
     have eU:((List.range n).map fun i:Nat=>V.int (0+(i:Int))).filter (fun v=>!decide (v=.int (p:Int)))=((List.range n).filter fun x=>!decide (x=p)).map fun k:Nat=>V.int (k:Int):=by
      rw [xb];have ef:((fun v=>!decide (v=V.int (p:Int))) ∘ fun i:Nat=>V.int (0+(i:Int)))=fun x=>!decide (x=p):=by
       funext b
       show (!decide (V.int (0+(b:Int))=V.int (p:Int)))=_;rw [qE]
       congr 1
       exact mW.mpr ⟨fun h=>by lia,fun h=>by lia⟩
      rw [ef];exact hE fun k _=>by rw [oz]
     generalize ((List.range n).filter fun x=>!decide (x=p))=U at hU mU eU;have lU:=Bf hU;refine bC fun _ zh=>ma (A3 (xs:=(List.range n).map fun i:Nat=>V.int (0+(i:Int))) (fun v=>!decide (v=.int (p:Int))) (fun R h=>⟨_,rfl,tp,_,_,_,rfl,rfl,.of N5,rfl,(n:Int),rfl,by lia,by lia,?_⟩) (by rw [aC,dI];exact cj (by lia)) ?_ (fun x Hc R h=>⟨_,rfl,h⟩) ?_)
     ·rw [cQ]
      exact h _ _ (aj.refl _) DW
     ·intro x hx Hd R sd kR
      obtain ⟨b,hb,rfl⟩:=bD.mp hx;exact ⟨_,rfl,_,rfl,rfl,_,rfl,kR⟩
     intro Dr H4 nDr s4 GA;rw [eU] at GA;dsimp only [aO];refine zh _ _ ?_;have Cv:=tr mL s4;have t4:=(tc.mono s3).mono s4;refine bC fun R7 zi=>⟨_,rfl,_,rfl,tp,Dr,n,L,U,rfl,CI Cv,nl,lt,by lia,GA,hU,fun H5 tq L2 s5 pK Yx sub gY=>?_⟩
     have wq:=tr Cv s5;have t5:=t4.mono s5;have GB:=s5 _ _ GA;obtain ⟨ps5,Yy⟩:=t5.at;have fin:∀(w2:String) (T6 l6:Addr) (o6:List Nat) (H6:Hp),cO 139 H5 H6→cG 139 jc gg H6→H6 T6=some (.tup [.str w2,.ref l6])→H6 l6=some (.lst (o6.map fun k:Nat=>V.int (k:Int)))→(w2="order"∧o6.Perm (List.range U.length)∧b9 U.length L2 o6 L2∨w2="ring"∧∀o:List Nat,o.Perm (List.range U.length)→¬b9 U.length L2 o L2)→R7 [some (.ref tp),some (.ref D),some (.str wd),some (.int (p:Int)),some (.ref (rs p)),some (.ref D3),some (.ref Dr),some (.str w2),some (.ref l6)] H6:=by
      intro w2 T6 l6 o6 H6 s6 t6 wK wM GC;refine zi _ _ ?_;have sL:cO 139 H1 H6:=fun b o nb e=>s6 b o nb (wq b o nb e);have Yz:H6 Dr=some (.lst (U.map fun k:Nat=>V.int (k:Int))):=s6 _ _ (fun z=>by rw [z,Yy] at GB;cases GB) GB
      have same:w2=wd:=by
       rcases Yv with ⟨rfl,o,po,fo⟩ | ⟨rfl,no⟩
       ·rcases GC with ⟨rfl,_⟩ | ⟨rfl,YA⟩
        ·rfl
        ·exact absurd (VO hU po sub lt fo) (YA _ (Fu hU po))
       ·rcases GC with ⟨rfl,wN,GD⟩ | ⟨rfl,_⟩
        ·obtain ⟨po,fo⟩:=LQ pw lt hp hU mU sub free wN GD
         exact absurd fo (no _ po)
        ·rfl
      refine bC fun _ GF=>⟨_,rfl,_,rfl,rfl,false,by rw [same,a_ rfl];rfl,fY ?_⟩
      dsimp only [iQ];refine GF _ _ ?_;rcases GC with ⟨rfl,wN,GD⟩ | ⟨rfl,_⟩
      ·refine ⟨_,rfl,rfl,true,rfl,t_ ?_⟩
       obtain ⟨po,fo⟩:=LQ pw lt hp hU mU sub free wN GD;have YB:U.map (fun k:Nat=>V.int (k:Int))=(List.range U.length).map fun k=>V.int ((U.getD k 0:Nat):Int):=by
        refine hG (by simp) fun k h1 h2=>?_
        rw [aC] at h1;rw [fD,fD,mX,du,bu h1];rfl
       refine ⟨_,rfl,?_⟩;refine Ft (Fw ⟨_,rfl,by show 1≤sizeLine;decide,fun D8 YC=>?_⟩)
       have s8:aj H6 (upd H6 D8 (.lst [.int (p:Int)])):=aQ YC;have e8:upd H6 D8 (.lst [.int (p:Int)]) D8=some (.lst [.int (p:Int)]):=av;generalize upd H6 D8 (.lst [.int (p:Int)])=H8 at s8 e8 ⊢;refine VH (l:=Dr) (n:=U.length) (f:=fun k=>U.getD k 0) (o:=o6) (fun R h=>⟨_,rfl,l6,rfl,⟨_,.of (s8 _ _ wM)⟩,h _ _ (aj.refl _) (ju (.of (s8 _ _ wM)))⟩) rfl (by rw [s8 _ _ Yz,YB]) (fun x hx=>bb.mp (wN.mem_iff.mp hx)) (by rw [wN.length_eq,dI];lia) fun D9 H9 nD9 s9 e9=>?_
       refine ⟨D8,D9,_,_,rfl,rfl,s9 _ _ e8,e9,?_,fun CK YD=>?_⟩
       ·rw [aC,aC,wN.length_eq,dI]
        exact mP (cj (by show 1+U.length≤1000;lia))
       have wO:=(s8.trans s9).trans (aQ (o:=.lst ([V.int (p:Int)]++(o6.map fun k=>U.getD k 0).map fun k:Nat=>V.int (k:Int))) YD);have N6:upd H9 CK (.lst ([V.int (p:Int)]++(o6.map fun k=>U.getD k 0).map fun k:Nat=>V.int (k:Int))) CK=some (.lst (((p::o6.map fun k=>U.getD k 0).map iN).map V.int)):=by rw [av];simp only [cI,cR];rfl
       generalize upd H9 CK (.lst ([V.int (p:Int)]++(o6.map fun k=>U.getD k 0).map fun k:Nat=>V.int (k:Int)))=YE at wO N6 ⊢;have N7:=tr sL wO;refine ⟨tp,CK,n,L,(p::o6.map fun k=>U.getD k 0).map iN,rfl,CI N7,cm,lB,by lia,N6,by rw [aC,po.length_eq,dI];lia,fun no=>absurd (po.map iN) no,fun o2 e2 mE GG M2 zo f2=>?_⟩
       have qP:=pB e2;have eM:=b9.uniq f2 (qP▸fo);refine ⟨true,by rw [a_ eM],fY ?_⟩
       exact next _ (fun k=>List.getD [none,none,none,_,_,_,_,_,_] k none) (tr N7 zo) ((t6.mono wO).mono zo)
      ·refine ⟨_,rfl,rfl,false,rfl,fY ?_⟩
       exact next _ (fun k=>List.getD [none,none,none,_,_,_,_,_,_] k none) sL t6
     refine ⟨tq,U.length,L2,rfl,Yx,sub.pw,sub.lt,by lia,t5,fun H6 T6 l6 o6 s6 t6 nT YF wK wM YG YH=>?_,fun H6 T6 l6 zs s6 t6 nT YF wK wM bare nd rn no=>?_⟩
     ·exact ⟨T6,_,rfl,.of wK,rfl,_,_,rfl,_,_,rfl,rfl,fin _ T6 l6 o6 H6 s6 t6 wK wM (.inl ⟨rfl,YG,YH⟩)⟩
     ·exact ⟨T6,_,rfl,.of wK,rfl,_,_,rfl,_,_,rfl,rfl,fin _ T6 l6 zs H6 s6 t6 wK wM (.inr ⟨rfl,no⟩)⟩
    ·exact next _ (fun k=>List.getD [none,none,none,_,_,_,_,_,_] k none) mL (tc.mono s3)
   ·exact next _ (fun k=>List.getD [none,none,none,_,_,_,_,_,_] k none) mL (tc.mono s3)
  ·rintro σ Hc ⟨v,rfl,sc,tc⟩
   refine jE _ _ ?_;exact kk _ (fun b o nb e=>sc b o nb (s1 b o e)) tc
 refine ⟨_,rfl,tp,n,L,rfl,N2,pw,lt,by lia,N3,fun H4 T4 l3 o3 s4 t4 nT mM eT yT YI YJ=>?_,fun H4 T4 l3 zs s4 t4 nT mM eT yT bare nd rn no=>?_⟩
 ·exact ⟨T4,_,_,_,rfl,rfl,.of eT,rfl,rest _ H4 s4 t4 (.inl ⟨rfl,o3,YI,YJ⟩)⟩
 ·exact ⟨T4,_,_,_,rfl,rfl,.of eT,rfl,rest _ H4 s4 t4 (.inr ⟨rfl,no⟩)⟩
theorem YK:b8 ["script","_law_pen","_law_k","_law_shape","_law_order","_law_fewer","_law_full","_law_places","_law_part","_law_sum","_law_at"] ["script"] (bj BP):=cV
theorem YL(T:Txt K mg t)(hB:ke base mg):bK P w K mg base cB 10 t.pD t.su ["script"] (Bb K 139):=by
 have S:=YK;have YM:=Yt (P:=P) (w:=w) (base:=base) T hB;refine T.wa.dQ S (fun _ _ _ _ H _ _ _ hr h=>?_);obtain ⟨uO,a,ns,rfl,hS,hlen,kQ⟩:=h;have jb:=hr.units;have hu:=ku (qc (show 1≤64 by decide) _) hr.units
 refine ⟨_,(aB (jW 1 S.nd (dD (ak (pv 0) (ak aD (ak aD ao)))))
  (aB (eG dC rfl (kG rfl T.gI (ak aD ao)) (cU (i:=2) S.nd rfl (Or.inl rfl))
   (aB (putL 3 S.nd (a8 (X3 T) hr T.Mv T.vW.kp T.Mu bQ (ak (pv 1) (ak aD ao))))
  (aB (putL 4 S.nd (a8 (NG T) hr T.FG T.sF.kp T.FF bQ (ak (pv 1) (ak (iT (Am rfl) rfl T.pH boot_list (ak (iT Ak rfl T.gI An (ak (aR dZ (pv 3) aD) ao)) ao)) ao))))
  (aB (putL 5 S.nd (kI (ak (aR dZ (pv 3) aD) (ak (iT xG rfl T.wb boot_tuple (ak (fG (N:=["_law_link","_law_pen"]) (ρ:=(fun σ=>[σ[1]?.join])) (en [1] rfl) rfl (tT (aR dZ (pv 3) aD)) (fun _ _ _=>(.one (cL jS (a8 (ki T) hr T.jC T.gH.kp T.jB bQ (ak (pv 1) (ak aD ao))) aD))) (fun _ _ _=>(pv 0))) ao)) ao))))
  (aB (jW 6 S.nd (a8 (B5 T) hr T.yO T.nQ.kp T.yN l_ (ak (pv 3) (ak (pv 4) ao))))
  (aB (cK (jQ (cC (Aq (K:=K) rfl) rfl T.yP boot_any (ak (fG (N:=["_law_link","_law_full"]) (ρ:=(fun σ=>[σ[6]?.join])) (en [6] rfl) rfl (tT (aR dZ (a8 (B5 T) hr T.yO T.nQ.kp T.yN l_ (ak (pv 5) (ak (pv 4) ao))) aD)) (fun _ _ _=>.nil) (fun _ _ _=>(xA (LF (K:=K) jb) (pv 0) (aR (Jp (K:=K)) (pv 1) aD) rfl))) ao))) (aF (bH fV)) cT)
  (aB (cK (cL jS (a8 (FV T) hr T.BU T.pF.kp T.BS l_ (ak (pv 5) (ak (pv 4) ao))) (a8 (FV T) hr T.BU T.pF.kp T.BS l_ (ak (pv 3) (ak (pv 4) ao)))) (aF (bH fV)) cT)
  (aB (jW 7 S.nd (Ua (fG (N:=["_law_place","_law_pen"]) (ρ:=(fun σ=>[σ[1]?.join])) (en [1] rfl) rfl (kG rfl T.gI (ak (aR dZ (pv 3) aD) ao)) (fun _ _ _=>(.one (cL jS (a8 (ki T) hr T.jC T.gH.kp T.jB bQ (ak (pv 1) (ak aD ao))) aD))) (fun _ _ _=>(pv 0))) (Dm (dD (ak aD ao)))))
  (aB (putL 8 S.nd (a8 (B5 T) hr T.yO T.nQ.kp T.yN l_ (ak (a8 (Gu T) hr T.BW T.pG.kp T.BV bQ (ak (pv 3) (ak (pv 7) ao))) (ak (a8 (Yd T) hr T.MC T.vZ.kp T.MB bQ (ak (pv 4) (ak (pv 7) ao))) ao))))
  (aB (cK (jQ (cC (Aq (K:=K) rfl) rfl T.yP boot_any (ak (fG (N:=["_law_link","_law_full","_law_places"]) (ρ:=(fun σ=>[σ[6]?.join,σ[7]?.join])) (en [6,7] rfl) rfl (tT (aR dZ (pv 8) aD)) (fun _ _ _=>.nil) (fun _ _ _=>(xA (LF (K:=K) jb) (pv 0) (aR (Jp (K:=K)) (a8 (Gu T) hr T.BW T.pG.kp T.BV bQ (ak (pv 1) (ak (pv 2) ao))) aD) rfl))) ao))) (aF (bH fV)) cT)
  (aB (putL 9 S.nd aD)
  (aB (eG dC rfl (kG rfl T.gI (ak (aR dZ (pv 3) aD) ao)) (cU (i:=10) S.nd rfl (Or.inl rfl))
   (aF (putL 9 S.nd (b7 jR (pv 9) (a8 (WY T) hr T.Md T.vM.kp T.Mc l_ (ak (pv 3) (ak (iT xG rfl T.wb boot_tuple (ak (cC yo rfl T.nS oA (ak (IF IJ (pv 4) IC (ID (pv 10))) ao)) ao)) (ak (aR cz (pv 4) (pv 10)) ao))))))))
  (aB (cK (cL tW (pv 9) (a8 (FV T) hr T.BU T.pF.kp T.BS l_ (ak (pv 3) (ak (pv 4) ao)))) (aF (bH fV)) cT)
  (aF (cK (PW.pt (pw_or (tP (jQ (a8 (Yf T) hr T.ME T.v9.kp T.MD bQ (ak (pv 3) (ak (pv 4) ao))))) (pw_or1 (tP (jQ (a8 YM hr T.MG T.v_.kp T.MF bQ (ak (pv 3) ao))))))) (aF (bH fV)) cT)))))))))))))))
  (aF (bH fV)))),?_⟩
 refine ⟨_,rfl,by show 3≤sizeLine;decide,fun P0 nP=>?_⟩
 have p0:bG (upd H P0 (.lst [.ref a,.int 0,.int 0])) P0 a:=⟨0,0,av,by decide,by decide⟩
 have N8:a7 K (er P0 (upd H P0 (.lst [.ref a,.int 0,.int 0]))) a (ns.map V.int):=by rw [Jr];exact aj.seq (fun b o e=>x8 (fT e nP) e) hS
 have t0:cG 139 jc gg (upd H P0 (.lst [.ref a,.int 0,.int 0])):=.inl (aQ nP _ _ uO);generalize upd H P0 (.lst [.ref a,.int 0,.int 0])=H0 at p0 N8 t0 ⊢;dsimp only [aO];refine dN ⟨3,rfl,by decide,by decide,?_⟩
 refine oG (fun i σ Hc=>∃v:Nat→Option V,σ=[some (.ref a),some (.ref P0),v 2,v 3,v 4,v 5,v 6,v 7,v 8,v 9,v 10]∧bG Hc P0 a∧a7 K (er P0 Hc) a (ns.map V.int)∧cG 139 jc gg Hc) ⟨fun _=>none,rfl,p0,N8,t0⟩ ?_ ?_
 ·rintro i σ Hc hi ⟨v,rfl,pc,GH,tc⟩
  dsimp only [aO];refine bC fun _ fP=>⟨_,rfl,P0,a,ns,8,rfl,pc,GH,by decide,by decide,fun tp n L H2 s2 p2 lA tpP fO ok pw n1 n8=>?_⟩
  dsimp only [aO];refine fP _ _ ?_;have cm:eB n L:=fun p hp=>by have:=ok.lt p hp;exact ⟨this.1,by lia,by lia,this.2.2⟩
  have lB:k8 L:=fun p hp=>by have:=ok.lt p hp;lia
  have dF:L.length≤64:=bR ok.dF (bR (Nat.div_le_self _ _) (qe n8 n8));have sV:a7 K (er P0 H2) a (ns.map V.int):=aj.seq s2 GH;have t2:=tc.Ls pc s2;have GI:∀{Hx:Hp},aI P0 H2 Hx→cY Hx tp n L:=fun sx=>(fO.mono sx).mono me;have lu:(dw n).length=n:=by unfold dw;simp
  obtain ⟨JJ,us0,YN,adD,adE⟩:=id (GI (aI.refl _));refine bC fun _ iL=>⟨_,rfl,_,rfl,tp,_,_,_,rfl,rfl,.of YN,rfl,(n:Int),rfl,fun q1 yW=>⟨q1,n,rfl,av,by lia,fun l nl=>?_⟩⟩
  have sl:aj H2 (upd (upd H2 q1 (.gO 0 (n:Int))) l (.lst (dw n))):=(aQ yW).trans (aQ nl);have el:upd (upd H2 q1 (.gO 0 (n:Int))) l (.lst (dw n)) l=some (.lst (dw n)):=av;have lP:l≠P0:=p2.ne (none_of (aQ yW) nl);generalize upd (upd H2 q1 (.gO 0 (n:Int))) l (.lst (dw n))=H3 at sl el ⊢;have s3:=aI.of (P:=P0) sl;have p3:=p2.mono sl;refine ⟨P0,a,l,ns,dw n,rfl,p3,aj.seq s3 sV,lP,el,by lia,fun ro ys H4 s4 p4 nro N9 sW YO=>?_⟩
  obtain ⟨o,rfl,ho⟩:=Tz YO;have GJ:=s3.trans s4;have lo:o.length=n:=by rw [ho.length_eq,dI]
  have zq:(o.map iN).length<64:=by rw [aC];lia
  dsimp only [aO];refine iL _ _ ?_;have YQ:a7 K (er P0 H4) a (ns.map V.int):=aj.seq GJ sV;obtain ⟨N_,YR,Oa,Ob,YS⟩:=id (fO.mono GJ);refine bC fun _ jE=>⟨_,rfl,tp,_,_,_,rfl,rfl,.of (me _ _ Oa),rfl,?_⟩;refine Ft (qH (VU (K:=K) (P:=P0) (a:=a) (l:=N_) (us:=YR) (Z:=L) p4 Ob YS (cj (by lia)) (fun R h=>⟨_,rfl,tp,_,_,_,rfl,rfl,.of (me _ _ Oa),rfl,N_,rfl,⟨_,.of (me _ _ Ob)⟩,h⟩) ?_ (fun x Hc R h=>⟨_,rfl,h⟩) ?_))
  ·intro T Hd R sd pd kR
   exact ⟨_,rfl,P0,a,ns,4,rfl,pd,aj.seq sd YQ,by decide,fZ.of_lt (by decide) (by decide),fun c H5 c0 c1 s5 p5=>⟨_,_,rfl,rfl,_,rfl,kR _ _ s5 p5⟩⟩
  intro Dw ws L1 H5 DwP nDw s5 p5 sub YT YU;refine ⟨Dw,_,rfl,.inl ⟨.of YU,fun lf YV=>?_⟩⟩;have s6:aj H5 (upd H5 lf (.tup ws)):=aQ YV;have Ca:upd H5 lf (.tup ws) lf=some (.tup ws):=av;generalize upd H5 lf (.tup ws)=H6 at s6 Ca ⊢;refine ⟨by show 2≤sizeLine;decide,fun tf YW=>?_⟩
  have s7:aj H6 (upd H6 tf (.tup [.int (n:Int),.ref lf])):=aQ YW;have Oc:upd H6 tf (.tup [.int (n:Int),.ref lf]) tf=some (.tup [.int (n:Int),.ref lf]):=av;generalize upd H6 tf (.tup [.int (n:Int),.ref lf])=H7 at s7 Oc ⊢;dsimp only [aO];refine jE _ _ ?_;have GK:=s6.trans s7;have zf:=s5.trans (aI.of GK);have p7:=p5.mono GK;have Od:cY H7 tf n L1:=⟨lf,ws,Oc,s7 _ _ Ca,(YT.mono (aI.of (P:=P0) GK)).mono me⟩;have CL:∀z∈L1,z∈L:=fun z hz=>sub.subset hz;have JM:∀z∈L1,0≤z.1∧z.1<z.2∧z.2<(n:Int):=fun z hz=>ok.lt z (CL z hz);have pw1:L1.Pairwise lexLt:=C0 sub pw;have LL:L1.Nodup:=List.Nodup.sublist sub ok.nd;have Oe:eB n L1:=fun p hp=>cm p (CL p hp);have Of:k8 L1:=fun p hp=>lB p (CL p hp);have GL:=GJ.trans zf;have GN:=GI GL;have Og:∀{Hx:Hp},aj H7 Hx→Hx ro=some (.lst (o.map fun k:Nat=>V.int (k:Int))):=fun sx=>sx _ _ (zf.at N9 sW);have CM:∀{Hx:Hp},aj H7 Hx→Hx ro=some (.lst ((o.map iN).map V.int)):=fun sx=>by rw [Og sx,cI];rfl
  refine bC fun _ sJ=>⟨_,rfl,_,rfl,tp,ro,n,L,o.map iN,rfl,GN,cm,lB,by lia,CM (aj.refl _),zq,fun no=>absurd (ho.map iN) no,fun o2 e2 mE H8 t8 M s8 YX Oh fM lM=>?_⟩
  have qP:=pB e2;subst qP;dsimp only [aO];refine sJ _ _ ?_;obtain ⟨YY,YZ,Y0,Y1,Y2⟩:=id Oh;obtain ⟨M1,zr⟩:=KW n L1 o2;have ur:=VJ CL fM zr;refine bC fun _ sM=>Be (LV (M:=M1) (fun R h=>⟨_,rfl,_,rfl,tf,ro,n,L1,o2.map iN,rfl,Od.mono s8,Oe,Of,by lia,CM s8,zq,fun no=>absurd (ho.map iN) no,fun o3 e3 ho3 H9 t9 M3 s9 nt9 Y3 Y4 lM3=>?_⟩) ?_ ?_ fun H9 s9=>fY ?_)
  ·have Y5:=pB e3
   subst Y5;have:=b9.uniq Y4 zr;subst this;obtain ⟨l9,u9,Y6,Oi,Y7⟩:=id Y3;exact ⟨t9,_,_,_,rfl,rfl,.of Y6,rfl,l9,rfl,⟨_,.of Oi⟩,h _ _ s9 l9 u9 rfl Oi Y7⟩
  ·exact bR (KG zr (by lia)) (by decide)
  ·intro b z hz Hd R sd eb kR
   have GO:=sd;refine ⟨_,rfl,_,rfl,t8,_,_,_,rfl,rfl,.of (GO _ _ Y0),rfl,b,YY,YZ,M,z,rfl,rfl,eb,GO _ _ Y1,Y2.mono GO,?_⟩;rw [a_ (ur z hz)];exact kR _ (aj.refl _)
  dsimp only [iQ];refine sM _ _ ?_;have GP:=s8.trans s9;refine bC fun _ zh=>⟨_,rfl,_,rfl,tf,ro,n,L1,o2.map iN,rfl,Od.mono GP,Oe,Of,by lia,CM GP,zq,fun no=>absurd (ho.map iN) no,fun o4 e4 ho4 YE wO d1 q_=>?_⟩
  have Y8:=pB e4;have Y9:=q_ M1 (Y8▸zr);subst Y9;have GQ:=GP.trans wO;refine ⟨_,rfl,_,rfl,tp,ro,n,L,o2.map iN,rfl,GN.mono GQ,cm,lB,by lia,CM GQ,zq,fun no=>absurd (ho.map iN) no,fun o5 e5 ho5 GG zo d2 hd2=>?_⟩
  have Y_:=pB e5;have Za:=hd2 M (Y_▸fM);subst Za;have dle:=VL ur (A4 fM) (A4 zr) fM.lt;refine ⟨_,_,rfl,rfl,false,dP V.bl (bL (by lia)),fY ?_⟩
  have CN:=GQ.trans zo;dsimp only [iQ];refine zh _ _ ?_;have Zb:=p7.mono CN;have Zc:a7 K (er P0 H7) a (ns.map V.int):=aj.seq GL sV;have Zd:a7 K (er P0 GG) a (ns.map V.int):=aj.seq (aI.of CN) Zc;obtain ⟨adP,adQ,Ze,adR,adS⟩:=id (GN.mono CN);refine bC fun Rp zi=>ma ?_;have Oj:∀(Dp:Addr) (U:List Nat) (jI:Hp),Dp≠P0→aI P0 GG jI→bG jI P0 a→U∈g9 n→jI Dp=some (.lst (U.map fun k:Nat=>V.int (k:Int)))→Rp [some (.ref a),some (.ref P0),some (.int (0+(i:Int))),some (.ref tp),some (.ref ro),some (.ref tf),some (.ref t8),some (.ref Dp),v 8,v 9,v 10] jI:=by
   intro Dp U jI Ol gJ zt hU wQ;refine zi _ _ ?_;have Om:=(aI.of CN).trans gJ;have GR:=GL.trans Om;have Zf:=t2.Ls p2 GR;have Zg:a7 K (er P0 jI) a (ns.map V.int):=aj.seq GR sV;have Oo:=GI GR;have t8P:t8≠P0:=p7.ne YX;have Zh:cY jI t8 n M:=((Oh.er (p7.mono s8)).mono ((aI.of ((s9.trans wO).trans zo)).trans gJ)).mono me;have GS:jI ro=some (.lst (o2.map fun k:Nat=>V.int (k:Int))):=Om.at N9 (Og (aj.refl _));have Zi:∀{Hx:Hp},aj jI Hx→Hx ro=some (.lst ((o2.map iN).map V.int)):=fun sx=>by rw [sx _ _ GS,cI];rfl
   have lU:=Bf hU;refine bC fun _ GF=>⟨_,rfl,_,rfl,tp,Dp,n,L,U,rfl,Oo,ok.nd,ok.lt,by lia,wQ,hU,fun H13 tw L2 gm ntw Zj sb gY=>?_⟩
   refine ⟨_,rfl,_,rfl,ro,Dp,n,o2,U,rfl,gm _ _ GS,ho,by lia,gm _ _ wQ,hU,fun H14 Dc kh Yo g_=>?_⟩
   have cp:=Fu hU ho;have Zk:eB U.length L2:=fun p hp=>by have:=gY.lt p hp;exact ⟨this.1,by lia,by lia,this.2.2⟩
   have Zl:k8 L2:=fun p hp=>by have:=gY.lt p hp;lia
   refine ⟨tw,Dc,U.length,L2,(jA U o2).map iN,rfl,Zj.mono kh,Zk,Zl,by lia,by rw [g_,cI];rfl,by rw [aC,cp.length_eq,dI];lia,fun no=>absurd (cp.map iN) no,fun o6 e6 ho6 H15 tx M2 CF ntx Zm GU lM2=>?_⟩
   have Zn:=pB e6;rw [Zn] at GU;have Oq:=(gm.trans kh).trans CF;obtain ⟨lx,ux,Zo,Ot,Zp⟩:=id Zm;dsimp only [aO];refine GF _ _ ?_;refine bC fun _ Zq=>Be (LV (M:=M2) (fun R h=>⟨_,rfl,tx,_,_,_,rfl,rfl,.of Zo,rfl,lx,rfl,⟨_,.of Ot⟩,h _ _ (aj.refl _) lx ux rfl Ot Zp⟩) (bR (KG GU (by lia)) (by decide)) ?_ fun GV Gy=>fY ?_)
   ·intro b z hz Hd R sd eb kR
    have Ou:=Oq.trans sd;refine ⟨_,rfl,_,rfl,_,rfl,t8,Dp,n,M,U,rfl,Zh.mono Ou,A4 fM,fM.lt,by lia,Ou _ _ wQ,hU,fun He ty M3 se nty Zr Zs Ef=>?_⟩
    obtain ⟨ly,uy,Zt,Zu,Zv⟩:=id Zr;refine ⟨ty,_,_,_,rfl,rfl,.of Zt,rfl,b,ly,uy,M3,z,rfl,rfl,se _ _ eb,Zu,Zv,?_⟩;rw [a_ (LO hU ho sb Zs ok.lt fM GU z hz)];exact kR _ se
   dsimp only [iQ];refine Zq _ _ ?_;have CO:=Oq.trans Gy;have GW:∀{Hx:Hp},aj GV Hx→Hx ro=some (.lst (o2.map fun k:Nat=>V.int (k:Int))):=fun sx=>sx _ _ (CO _ _ GS);have zu:∀{Hx:Hp},aj GV Hx→cY Hx tp n L:=fun sx=>Oo.mono (CO.trans sx);refine bC fun _ Zw=>Zw _ _ ?_;obtain ⟨ad2,ad3,Zx,ad4,ad5⟩:=id (zu (aj.refl _));refine bC fun _ Zy=>⟨_,rfl,tp,_,_,_,rfl,rfl,.of Zx,rfl,(n:Int),rfl,by lia,by lia,?_⟩
   rw [cQ];refine oG (fun k σ Hx=>∃v10:Option V,σ=[some (.ref a),some (.ref P0),some (.int (0+(i:Int))),some (.ref tp),some (.ref ro),some (.ref tf),some (.ref t8),some (.ref Dp),some (.ref tx),some (.int (i9 n L [] (o2.take k))),v10]∧aj GV Hx) ⟨_,rfl,aj.refl _⟩ ?_ ?_
   ·rintro k σ Hx hk ⟨v10,rfl,sx⟩
    have fg:k<o2.length:=by lia
    dsimp only [aO];rw [show (0:Int)+(k:Int)=(k:Int) from oz _];refine ⟨_,rfl,_,rfl,_,rfl,_,rfl,(k:Int),rfl,ro,_,rfl,.of (GW sx),fun ps Gw=>?_⟩;rw [TB _ k (by rw [aC];lia),←List.map_take]
    have sp:aj Hx (upd Hx ps (.lst ((o2.take k).map fun k:Nat=>V.int (k:Int)))):=aQ Gw;have Ov:upd Hx ps (.lst ((o2.take k).map fun k:Nat=>V.int (k:Int))) ps=some (.lst (((o2.take k).map iN).map V.int)):=by rw [av,cI];rfl
    generalize upd Hx ps (.lst ((o2.take k).map fun k:Nat=>V.int (k:Int)))=Hy at sp Ov ⊢;refine ⟨ps,(o2.take k).map iN,rfl,Ov,by rw [aC,oi];lia,fun zs D2 mw so2 n2=>?_⟩
    obtain ⟨dn,rfl,pd⟩:=EI mw;refine ⟨D2,_,rfl,.inl ⟨.of av,fun lq Zz=>?_⟩⟩;have sq:=(sp.trans (aQ (o:=.lst ((dn.map iN).map V.int)) n2)).trans (aQ (o:=.tup ((dn.map iN).map V.int)) Zz);have Ow:upd (upd Hy D2 (.lst ((dn.map iN).map V.int))) lq (.tup ((dn.map iN).map V.int)) lq=some (.tup (dn.map fun k:Nat=>V.int (k:Int))):=by rw [av,cI];rfl
    generalize upd (upd Hy D2 (.lst ((dn.map iN).map V.int))) lq (.tup ((dn.map iN).map V.int))=Hz at sq Ow ⊢;have GX:=sx.trans sq;have on:o2[k]<n:=bb.mp (ho.mem_iff.mp (bT fg));refine ⟨_,rfl,_,rfl,ro,_,(k:Int),.int ((o2[k]:Nat):Int),rfl,rfl,.of (GW GX),iU (by rw [bq,bu fg];rfl),tp,lq,n,L,dn,o2[k],rfl,zu GX,cm,by lia,Ow,by rw [pd.length_eq,oi];lia,on,fun Hw f c sw nb hc=>?_⟩
    refine ⟨_,_,rfl,rfl,?_⟩;have ZA:Fp n L L (fun x=>x):=⟨fun k h=>h,fun j k _ _ e=>e,fun x hx=>⟨x,hx,rfl⟩,fun j k _ _=>Iff.rfl⟩;have ec:(c:Int)*c+3*c+1=iH n L ((o2.take k).foldl eC []) o2[k]:=by rw [E5 nb hc];refine ZA.cost cm cm (S:=(o2.take k).foldl eC []) (S':=dn) (fun x _=>?_) on;rw [LU,pd.mem_iff];simp
    have et:i9 n L [] (o2.take (k+1))=i9 n L [] (o2.take k)+((c:Int)*c+3*c+1):=by rw [ec,kA,bu fg];exact KO n L (o2.take k) [] o2[k]
    refine ⟨some (.int (k:Int)),?_,GX.trans sw⟩;rw [et];rfl
   ·rintro σ Hx ⟨v10,rfl,sx⟩
    refine Zy _ _ ?_;have ZC:i9 n L [] (o2.take n)=(nK n M:Int):=by
     have e:o2.take n=o2:=by have:=gu (l:=o2);rw [lo] at this;exact this
     rw [e];exact UI ho cm fM
    refine bC fun _ ZD=>⟨_,rfl,_,rfl,_,rfl,tp,ro,n,L,o2.map iN,rfl,zu sx,cm,lB,by lia,Zi (CO.trans sx),zq,fun no=>absurd (ho.map iN) no,fun o7 e7 ho7 H17 ZE d3 y8=>?_⟩
    have ZF:=pB e7;have ZG:=y8 M (ZF▸fM);subst ZG;refine ⟨rfl,false,by rw [ZC,a_ rfl];rfl,fY ?_⟩
    dsimp only [iQ];refine ZD _ _ ?_;have GY:=sx.trans ZE;refine ⟨_,rfl,_,rfl,tp,ro,n,L,o2,rfl,zu GY,cm,lB,by lia,GW GY,ho,fun H18 ZH=>⟨true,rfl,fY ?_⟩⟩
    have Ox:=GY.trans ZH;have GZ:=CO.trans Ox;have G0:=Zf.mono GZ;have Oy:=zt.mono GZ;refine ⟨_,rfl,tp,n,L,rfl,zu Ox,pw,ok.lt,by lia,G0,fun H19 Oz ZI=>⟨true,rfl,fY ?_⟩⟩
    obtain ⟨aea,ZJ⟩:=G0.at;have OA:P0≠139:=G0.Vl Oy;exact ⟨fun k=>List.getD [none,none,_,_,_,_,_,_,_,_,_] k none,rfl,Oz.jX OA Oy,a7.st (aj.seq (aI.of GZ) Zg) (x8 (Ne.symm OA) ZJ) Oz.er,ZI⟩
  refine V5 (VT (P:=P0) (a:=a) (n:=n) (cj (by lia)) Zb (fun R h=>⟨_,rfl,tp,_,_,_,rfl,rfl,.of Ze,rfl,(n:Int),rfl,by lia,by lia,by rw [cQ];exact h⟩) ?_ (fun x Hc R h=>⟨_,rfl,h⟩) ?_)
  ·intro k hk Hd R sd pd kR
   exact ⟨_,rfl,P0,a,ns,3,rfl,pd,aj.seq sd Zd,by decide,fZ.of_lt (by decide) (by decide),fun c H5 c0 c1 s5 p5=>⟨_,_,rfl,rfl,_,rfl,kR _ _ s5 p5⟩⟩
  intro Dp U jI Ol nDp gJ zt hU wQ;refine ⟨Dp,_,rfl,.of wQ,dh (fun he=>?_) (fun he=>?_)⟩
  ·refine ⟨by show 1≤sizeLine;decide,fun Dz OB=>?_⟩
   have sz:aj jI (upd jI Dz (.lst [.int 0])):=aQ OB;exact Oj Dz [0] _ (zt.ne OB) (gJ.trans (aI.of sz)) (zt.mono sz) (eV.mpr ⟨C5 ..,fun x hx=>by rw [bS.mp hx];lia⟩) av
  ·exact Oj Dp U jI Ol gJ zt hU wQ
 ·rintro σ Hc ⟨v,rfl,pc,GH,tc⟩
  exact kQ _
theorem ZK{l:PySem.W.OpenLaw}(T:Txt K mg t):K.lookup 139=none∧(∃uQ,L2.tabIn K uQ 139=true)∧∃fd:FuncData,(∀(s:Shared) (v:Value),BindsTo s fd ⟨[v],[]⟩ [("script",v)])∧∀base:Heap,K.In base→base.Ns mainGlobals mg→L2.ke base mg→bK l.prog w K mg base cB 10 t.pD fd ["script"] (L2.Bb K 139):=by obtain ⟨oc,od,kV,doc,pm,an,bW,ct,kJ,e,lk,eF⟩:=T.wa.ex;refine ⟨T.MU,⟨_,T.tab⟩,t.su,fun s v=>?_,fun base _ _ hB=>YL T hB⟩;rw [e];exact .of_eq rfl
end
theorem walk{l:PySem.W.OpenLaw}{q:Program}{loose:List Str}{XP:(Str→Option Value)→Heap→Prop}{YP:World→Heap→Prop}{d:DefRec}{K:Params→PySem.W.Frag}(hn:l.most=some 63)(xM:d.params.defaults=[])
  (hY:∀(w:World) (h:Heap),YP w h→(K w.params).In h) (hP:∀(w:World) (h:Heap),YP w h→h.get? 139=some (PySem.W.tabObj #[]))
  (F:∀(w:World) (mg:cJ) (fa:Addr) (h:Heap),(K w.params).In h→h.Ns mainGlobals mg→mg d.name=some (.ref fa)→
   (K w.params).lookup 139=none∧(∃uQ,L2.tabIn (K w.params) uQ 139=true)∧∃fd:FuncData,(∀(s:Shared) (u:Value),BindsTo s fd ⟨[u],[]⟩ [("script",u)])∧∀base:Heap,(K w.params).In base→base.Ns mainGlobals mg→L2.ke base mg→bK l.prog w (K w.params) mg base cB 10 fa fd ["script"] (L2.Bb (K w.params) 139)) :
  PySem.W.WalkO q loose XP YP l.row.toRowW d [] (fun f vs=>PySem.call f vs):=
 L2.Vh hn xM ⟨rfl,by decide,by decide⟩ hY hP F
theorem ZL{K:aE}{h:Heap}{mg:cJ}(X:K.In h)(G:h.Ns mainGlobals mg)
  {lh:Addr}
  {vE:Addr}
  {ZM:Tok}
  {rf rg rh rj rm rp rq rA rB rC rE rF rG rH rJ rK rN rO rP rQ rR rS rT rV rW rX rY rZ r6 r_ si sj pD:Addr} {uU uV uW uX uY uZ u0 u4 u5 u6 u7 u_ va vb pC vc vd ve vf vg vh vi vj vk vp vt vv vw vy vz vB vD su:FuncData}
  (G1:PySem.W.nsIn K mainGlobals "NoOrder"=some (some (.ref lh)))
  (G2:PySem.W.nsIn K mainGlobals "NoSize"=some (some (.ref vE)))
  (ZN:mg "is_whole"=some (.ref rf))
  (vF:aS K "is_whole" Bj rf uU)
  (ZO:mg "neighbours"=some (.ref rg))
  (nO:aS K "neighbours" Bk rg uV)
  (ZP:mg "is_order"=some (.ref rh))
  (vG:aS K "is_order" Bl rh uW)
  (ZQ:mg "check_order"=some (.ref rj))
  (vH:aS K "check_order" Bm rj uX)
  (ZR:mg "turns_of"=some (.ref rm))
  (vI:aS K "turns_of" Bn rm uY)
  (ZS:mg "link_all"=some (.ref rp))
  (vJ:aS K "link_all" Bo rp uZ)
  (ZT:mg "later"=some (.ref rq))
  (pE:aS K "later" Bp rq u0)
  (ZU:mg "filled"=some (.ref rA))
  (nQ:aS K "filled" Bq rA u4)
  (ZV:mg "place_deeds"=some (.ref rB))
  (sC:aS K "place_deeds" Br rB u5)
  (ZW:mg "deeds"=some (.ref rC))
  (pF:aS K "deeds" Bs rC u6)
  (ZX:mg "check_size"=some (.ref rE))
  (vK:aS K "check_size" Bt rE u7)
  (ZY:mg "still_near"=some (.ref rF))
  (vL:aS K "still_near" Bu rF u_)
  (ZZ:mg "cost"=some (.ref rG))
  (vM:aS K "cost" Bv rG va)
  (Z0:mg "is_perfect"=some (.ref rH))
  (sD:aS K "is_perfect" Bw rH vb)
  (Z2:mg "likely_order"=some (.ref rJ))
  (vO:aS K "likely_order" Bx rJ pC)
  (Z3:mg "walk_back"=some (.ref rK))
  (vP:aS K "walk_back" By rK vc)
  (Z4:mg "unmet"=some (.ref rN))
  (vQ:aS K "unmet" Bz rN vd)
  (Z5:mg "ring_over"=some (.ref rO))
  (vR:aS K "ring_over" BA rO ve)
  (Z6:mg "bare_ring"=some (.ref rP))
  (vS:aS K "bare_ring" BB rP vf)
  (Z7:mg "perfect"=some (.ref rQ))
  (sE:aS K "perfect" BC rQ vg)
  (Z8:mg "_law_fill"=some (.ref rR))
  (vT:aS K "_law_fill" BD rR vh)
  (Z9:mg "_law_next"=some (.ref rS))
  (gH:aS K "_law_next" BE rS vi)
  (Z_:mg "_law_turned"=some (.ref rT))
  (sF:aS K "_law_turned" BF rT vj)
  (aaa:mg "_law_tied_by"=some (.ref rV))
  (vU:aS K "_law_tied_by" BG rV vk)
  (aab:mg "_law_grown_links"=some (.ref rW))
  (vV:aS K "_law_grown_links" BH rW vp)
  (aac:mg "_law_drawn"=some (.ref rX))
  (vW:aS K "_law_drawn" BI rX vt)
  (aad:mg "_law_named"=some (.ref rY))
  (vX:aS K "_law_named" BJ rY vv)
  (aae:mg "_law_beside"=some (.ref rZ))
  (vY:aS K "_law_beside" BK rZ vw)
  (aaf:mg "_law_within"=some (.ref r6))
  (pG:aS K "_law_within" BL r6 vy)
  (aag:mg "_law_cut"=some (.ref r_))
  (vZ:aS K "_law_cut" BM r_ vz)
  (aah:mg "_law_way_right"=some (.ref si))
  (v9:aS K "_law_way_right" BN si vB)
  (aai:mg "_law_begins_right"=some (.ref sj))
  (v_:aS K "_law_begins_right" BO sj vD)
  (aaj:mg "law"=some (.ref pD))
  (wa:aS K "law" BP pD su)
  (G3:PySem.W.nsIn K mainGlobals "ValueError"=some none)
  (G4:PySem.W.nsIn K mainGlobals "all"=some none)
  (G5:PySem.W.nsIn K mainGlobals "any"=some none)
  (G6:PySem.W.nsIn K mainGlobals "bool"=some none)
  (G7:PySem.W.nsIn K mainGlobals "enumerate"=some none)
  (G8:PySem.W.nsIn K mainGlobals "int"=some none)
  (G9:PySem.W.nsIn K mainGlobals "isinstance"=some none)
  (G_:PySem.W.nsIn K mainGlobals "len"=some none)
  (Hi:PySem.W.nsIn K mainGlobals "list"=some none)
  (Hj:PySem.W.nsIn K mainGlobals "max"=some none)
  (Hl:PySem.W.nsIn K mainGlobals "min"=some none)
  (Ho:PySem.W.nsIn K mainGlobals "range"=some none)
  (Hq:PySem.W.nsIn K mainGlobals "reversed"=some none)
  (Hr:PySem.W.nsIn K mainGlobals "set"=some none)
  (Hs:PySem.W.nsIn K mainGlobals "sorted"=some none)
  (Ht:PySem.W.nsIn K mainGlobals "sum"=some none)
  (Hu:PySem.W.nsIn K mainGlobals "tuple"=some none)
  (HA:PySem.W.nsIn K mainGlobals "zip"=some none)
  (HB:PySem.W.nsIn K mainGlobals "MOST"=some (some (.int 9 ZM)))
  (HC:PySem.W.excIn K lh [.type "ValueError",.type "Exception",.type "BaseException",.type "object"] "ValueError.__new__"=true)
  (HD:PySem.W.excIn K vE [.type "ValueError",.type "Exception",.type "BaseException",.type "object"] "ValueError.__new__"=true)
  (HE:L2.tabIn K pC 139=true)
  (HF:K.lookup 139=none)
  : ∃t:Fx,Txt K mg t:=by
 refine ⟨⟨rf,uU,rg,uV,rh,uW,rj,uX,rm,uY,rp,uZ,rq,u0,rA,u4,rB,u5,rC,u6,rE,u7,rF,u_,rG,va,rH,vb,rJ,pC,rK,vc,rN,vd,rO,ve,rP,vf,rQ,vg,rR,vh,rS,vi,rT,vj,rV,vk,rW,vp,rX,vt,rY,vv,rZ,vw,r6,vy,r_,vz,si,vB,sj,vD,pD,su,lh,vE⟩,?_⟩
 exact {
  vF:=vF
  LX:=vF.b_
  LY:=ZN
  nO:=nO
  yL:=nO.b_
  yM:=ZO
  vG:=vG
  LZ:=vG.b_
  L0:=ZP
  vH:=vH
  L3:=vH.b_
  L4:=ZQ
  vI:=vI
  L5:=vI.b_
  L6:=ZR
  vJ:=vJ
  L7:=vJ.b_
  L8:=ZS
  pE:=pE
  BQ:=pE.b_
  BR:=ZT
  nQ:=nQ
  yN:=nQ.b_
  yO:=ZU
  sC:=sC
  Fy:=sC.b_
  Fz:=ZV
  pF:=pF
  BS:=pF.b_
  BU:=ZW
  vK:=vK
  L9:=vK.b_
  L_:=ZX
  vL:=vL
  Ma:=vL.b_
  Mb:=ZY
  vM:=vM
  Mc:=vM.b_
  Md:=ZZ
  sD:=sD
  FA:=sD.b_
  FC:=Z0
  vO:=vO
  Me:=vO.b_
  Mf:=Z2
  vP:=vP
  Mg:=vP.b_
  Mh:=Z3
  vQ:=vQ
  Mi:=vQ.b_
  Mj:=Z4
  vR:=vR
  Mk:=vR.b_
  Ml:=Z5
  vS:=vS
  Mm:=vS.b_
  Mn:=Z6
  sE:=sE
  FD:=sE.b_
  FE:=Z7
  vT:=vT
  Mo:=vT.b_
  Mp:=Z8
  gH:=gH
  jB:=gH.b_
  jC:=Z9
  sF:=sF
  FF:=sF.b_
  FG:=Z_
  vU:=vU
  Mq:=vU.b_
  Mr:=aaa
  vV:=vV
  Ms:=vV.b_
  Mt:=aab
  vW:=vW
  Mu:=vW.b_
  Mv:=aac
  vX:=vX
  Mw:=vX.b_
  Mx:=aad
  vY:=vY
  Mz:=vY.b_
  MA:=aae
  pG:=pG
  BV:=pG.b_
  BW:=aaf
  vZ:=vZ
  MB:=vZ.b_
  MC:=aag
  v9:=v9
  MD:=v9.b_
  ME:=aah
  v_:=v_
  MF:=v_.b_
  MG:=aai
  wa:=wa
  V6:=wa.b_
  MJ:=aaj
  MK:=cx X G G1
  ML:=cx X G G2
  V7:=fS X G G3
  MM:=fS X G G4
  yP:=fS X G G5
  MN:=fS X G G6
  FH:=fS X G G7
  MO:=fS X G G8
  BX:=fS X G G9
  iK:=fS X G G_
  pH:=fS X G Hi
  BY:=fS X G Hj
  FI:=fS X G Hl
  gI:=fS X G Ho
  MP:=fS X G Hq
  V8:=fS X G Hr
  nS:=fS X G Hs
  MQ:=fS X G Ht
  wb:=fS X G Hu
  V9:=fS X G HA
  MR:=⟨_,cx X G HB,_,rfl⟩
  MS:=HC
  MT:=HD
  tab:=HE
  MU:=HF
 }
end My
namespace PySem.W.Fast
def tw2333376926816753938:Unit:=()
def tw3550406388816322820:Unit:=()
def tw5600517145729843638:Unit:=()
def tw891485914750222783:Unit:=()
def tw10518216898850909928:Unit:=()
def tw12798503823844645686:Unit:=()
def tw1224344306015803916:Unit:=()
def tw4962809013754356399:Unit:=()
def tw11014921217919133628:Unit:=()
def tw888129722979243766:Unit:=()
def tw16850632363066687435:Unit:=()
def tw614799801274145236:Unit:=()
def tw2830188298745324737:Unit:=()
def tw1344247133938984206:Unit:=()
def tw13596875884558528820:Unit:=()
def tw11964506013257047705:Unit:=()
def tw12944850699942083272:Unit:=()
def tw13012481792730971508:Unit:=()
def tw17945677095559601705:Unit:=()
def tw6456524924337390617:Unit:=()
def tw333361861293225118:Unit:=()
def tw8660006933098065129:Unit:=()
def tw9091319445997005101:Unit:=()
def tw18409279293822970408:Unit:=()
def tw16716374265180801224:Unit:=()
def tw9299139346317300478:Unit:=()
def tw16999461803852258774:Unit:=()
def tw17379363874989408297:Unit:=()
def tw5481877347375808413:Unit:=()
def tw4988112153576455723:Unit:=()
def tw9957935528740328639:Unit:=()
def tw13367440582089072718:Unit:=()
def tw11523385390065921717:Unit:=()
def tw6438768786264709728:Unit:=()
def tw11595280806835985352:Unit:=()
def tw12940442495496725540:Unit:=()
def tw9356479256661307920:Unit:=()
def tw2498251607534007366:Unit:=()
def tw906566904826800297:Unit:=()
def tw10573520271858449610:Unit:=()
def tw736100133025801398:Unit:=()
def tw2475887734939681668:Unit:=()
def tw10025895266107955894:Unit:=()
def tw2339475118265059637:Unit:=()
def tw2455625210810471964:Unit:=()
def tw18279759788984472822:Unit:=()
def tw13376923619118629297:Unit:=()
def tw15077478781899047319:Unit:=()
def tw5086665464724453228:Unit:=()
def tw10306323071534607235:Unit:=()
def tw11799775404646429557:Unit:=()
def tw5888166833710803648:Unit:=()
def tw2722965134114077571:Unit:=()
def tw8509554456354913018:Unit:=()
def tw17410311765689841298:Unit:=()
def tw8062709271992902286:Unit:=()
def tw6231150467413956886:Unit:=()
def tw17867326589748519957:Unit:=()
def tw17511607614283698098:Unit:=()
def tw8572291465346006574:Unit:=()
def tw4571080119101053042:Unit:=()
def tw9934561632293482496:Unit:=()
def tw4109292299926176776:Unit:=()
def tw5907570550789656603:Unit:=()
def tw10405105110864849443:Unit:=()
def tw14945883180392167477:Unit:=()
def tw16438619643604422265:Unit:=()
def tw3631302819484917995:Unit:=()
def tw14773675480396227370:Unit:=()
def tw5255592788135458025:Unit:=()
def tw5909678906929014488:Unit:=()
def tw2368920485052453359:Unit:=()
def tw1306865254919093179:Unit:=()
def tw14047291543112694580:Unit:=()
def tw17486585529663396900:Unit:=()
def tw10897078080850465587:Unit:=()
def tw12589562796251860831:Unit:=()
def tw15412812975721463481:Unit:=()
def tw8937483210907154669:Unit:=()
def tw1258110829705335984:Unit:=()
def tw13684768707325407239:Unit:=()
def tw9411656202927095516:Unit:=()
def tw10183999567905732011:Unit:=()
def tw3047331678871208419:Unit:=()
def tw14218808960154983480:Unit:=()
def tw17905732649874807569:Unit:=()
def tw17204236613479503280:Unit:=()
def tw17566726377203840224:Unit:=()
def tw15286283285421117551:Unit:=()
def tw316446149346458634:Unit:=()
def tw15885199934840383434:Unit:=()
def tw12611907062714792778:Unit:=()
def tw1848940460326243573:Unit:=()
def tw1198318952303290520:Unit:=()
def tw2646807377865386693:Unit:=()
def tw1004746434824481976:Unit:=()
def tw14046988444314644068:Unit:=()
def tw3432296248451047110:Unit:=()
def tw14527940931441720203:Unit:=()
def tw16251111025524361414:Unit:=()
def tw6756560809588080015:Unit:=()
def tw4058527779323011464:Unit:=()
def tw1104956070219095020:Unit:=()
def tw11032183228462047859:Unit:=()
def tw525212059833719488:Unit:=()
def tw16434695260719980347:Unit:=()
def tw13423455936261762884:Unit:=()
def tw15533824234481418432:Unit:=()
def tw10701209267254936282:Unit:=()
def tw1324991152479457570:Unit:=()
def tw6636852300560673653:Unit:=()
def tw4796027711231658259:Unit:=()
def tw18327498384885235992:Unit:=()
def tw1351365532824217192:Unit:=()
def tw10094699997604887529:Unit:=()
def tw4887333003177887700:Unit:=()
def tw4381270763076816648:Unit:=()
def tw16327309157453175523:Unit:=()
def tw3876528021458536423:Unit:=()
def tw12350306442273435454:Unit:=()
def tw15329804250139327076:Unit:=()
def tw1304361254937138071:Unit:=()
def tw6697580221982543790:Unit:=()
def tw9996433517986317410:Unit:=()
def tw18275688776172648734:Unit:=()
def tw5785062838531693308:Unit:=()
def tw398952995888566523:Unit:=()
def tw222067139742499907:Unit:=()
def tw13477435717954087883:Unit:=()
def tw17896369810756416811:Unit:=()
def tw9789773259418628529:Unit:=()
def tw3030442166313145246:Unit:=()
def tw12513646195623045631:Unit:=()
def tw4781342168046811567:Unit:=()
def tw9946761491608386294:Unit:=()
def tw11946973687272938271:Unit:=()
def tw17292934954982622944:Unit:=()
def tw721799212474167509:Unit:=()
def tw9580809522707949871:Unit:=()
def tw11633936969866995604:Unit:=()
def tw18071284733118969389:Unit:=()
def tw10467434107280138849:Unit:=()
def tw15167528838969125770:Unit:=()
def tw15374298605394746484:Unit:=()
def tw18071680535411495175:Unit:=()
def tw16059662378299259561:Unit:=()
def tw7178087808418761095:Unit:=()
def tw13711373324318994229:Unit:=()
def tw276817225220580772:Unit:=()
def tw2529121591901562306:Unit:=()
def tw4724823051375820741:Unit:=()
def tw6604054362297673751:Unit:=()
def tw14961235454447027849:Unit:=()
def tw11604687227547265138:Unit:=()
def tw11250283136371892499:Unit:=()
def tw1116830282635337828:Unit:=()
def tw5021969808969925685:Unit:=()
def tw13651293699609041202:Unit:=()
def tw5372788922212815164:Unit:=()
def tw14735071440630555041:Unit:=()
def tw12417223188059356988:Unit:=()
def tw1930219873198939649:Unit:=()
def tw12646149043320795218:Unit:=()
def tw10919599326821377473:Unit:=()
def tw13257677171907506583:Unit:=()
def tw3769467369570404786:Unit:=()
def tw11067507535205310698:Unit:=()
def tw8878479155746761237:Unit:=()
def tw17354117054321838758:Unit:=()
end PySem.W.Fast
open PySem PySem.W PyProof.Rows
set_option maxRecDepth 100000 in
set_option maxHeartbeats 0 in
theorem PySem.Challenge.cw_bandwright_k97_whole_filling_grows_holds : PySem.Challenge.rw_bandwright_k97_whole_filling_grows.Holds := by
 w_on;o_law;k_head;(case hw=>w_witness2)
 k_fill
 refine My.walk (l:=PySem.Challenge.rw_bandwright_k97_whole_filling_grows) rfl rfl (fun w h Y=>PySem.W.km_in_of Y) (fun w h Y=>PySem.W.km_tabs_of Y 139 (bS.mpr rfl)) ?F
 case F=>
  intro w mg fa h KX G xN
  have T:∃t,My.Txt (L2.IY KX) mg t:=by
   dsimp only [L2.IY]
   refine' My.ZL KX G ?G1 ?G2 (cx KX G ?aak) (L2.cW (st:=My.Bj) ?aal ?aam ?aan) (cx KX G ?aao) (L2.cW (st:=My.Bk) ?aap ?aaq ?aar) (cx KX G ?aas) (L2.cW (st:=My.Bl) ?aat ?aau ?aav) (cx KX G ?aaw) (L2.cW (st:=My.Bm) ?aax ?aay ?aaz) (cx KX G ?aaA) (L2.cW (st:=My.Bn) ?aaB ?aaC ?aaD) (cx KX G ?aaE) (L2.cW (st:=My.Bo) ?aaF ?aaG ?aaH) (cx KX G ?aaI) (L2.cW (st:=My.Bp) ?aaJ ?aaK ?aaL) (cx KX G ?aaM) (L2.cW (st:=My.Bq) ?aaN ?aaO ?aaP) (cx KX G ?aaQ) (L2.cW (st:=My.Br) ?aaR ?aaS ?aaT) (cx KX G ?aaU) (L2.cW (st:=My.Bs) ?aaV ?aaW ?aaX) (cx KX G ?aaY) (L2.cW (st:=My.Bt) ?aaZ ?aa0 ?aa1) (cx KX G ?aa2) (L2.cW (st:=My.Bu) ?aa3 ?aa4 ?aa5) (cx KX G ?aa6) (L2.cW (st:=My.Bv) ?aa7 ?aa8 ?aa9) (cx KX G ?aa_) (L2.cW (st:=My.Bw) ?aba ?abb ?abc) (cx KX G ?abd) (L2.cW (st:=My.Bx) ?abe ?abf ?abg) (cx KX G ?abh) (L2.cW (st:=My.By) ?abi ?abj ?abk) (cx KX G ?abl) (L2.cW (st:=My.Bz) ?abm ?abn ?abo) (cx KX G ?abp) (L2.cW (st:=My.BA) ?abq ?abr ?abt) (cx KX G ?abu) (L2.cW (st:=My.BB) ?abv ?abw ?abx) (cx KX G ?aby) (L2.cW (st:=My.BC) ?abz ?abA ?abB) (cx KX G ?abC) (L2.cW (st:=My.BD) ?abD ?abE ?abF) (cx KX G ?abG) (L2.cW (st:=My.BE) ?abH ?abI ?abJ) (cx KX G ?abK) (L2.cW (st:=My.BF) ?abL ?abM ?abN) (cx KX G ?abO) (L2.cW (st:=My.BG) ?abP ?abQ ?abR) (cx KX G ?abS) (L2.cW (st:=My.BH) ?abT ?abU ?abV) (cx KX G ?abW) (L2.cW (st:=My.BI) ?abX ?abY ?abZ) (cx KX G ?ab0) (L2.cW (st:=My.BJ) ?ab1 ?ab2 ?ab3) (cx KX G ?ab4) (L2.cW (st:=My.BK) ?ab5 ?ab6 ?ab7) (cx KX G ?ab8) (L2.cW (st:=My.BL) ?ab9 ?ab_ ?acd) (cx KX G ?ace) (L2.cW (st:=My.BM) ?acf ?acg ?ach) (cx KX G ?aci) (L2.cW (st:=My.BN) ?acj ?ack ?acm) (cx KX G ?acn) (L2.cW (st:=My.BO) ?aco ?acp ?acq) (cx KX G ?acr) (L2.cW (st:=My.BP) ?acs ?acu ?acv) ?G3 ?G4 ?G5 ?G6 ?G7 ?G8 ?G9 ?G_ ?Hi ?Hj ?Hl ?Ho ?Hq ?Hr ?Hs ?Ht ?Hu ?HA ?HB ?HC ?HD ?HE ?HF
   (case G1|G2|aak|aal|aam|aan|aao|aap|aaq|aar|aas|aat|aau|aav|aaw|aax|aay|aaz|aaA|aaB|aaC|aaD|aaE|aaF|aaG|aaH|aaI|aaJ|aaK|aaL|aaM|aaN|aaO|aaP|aaQ|aaR|aaS|aaT|aaU|aaV|aaW|aaX|aaY|aaZ|aa0|aa1|aa2|aa3|aa4|aa5|aa6|aa7|aa8|aa9|aa_|aba|abb|abc|abd|abe|abf|abg|abh|abi|abj|abk|abl|abm|abn|abo|abp|abq|abr|abt|abu|abv|abw|abx|aby|abz|abA|abB|abC|abD|abE|abF|abG|abH|abI|abJ|abK|abL|abM|abN|abO|abP|abQ|abR|abS|abT|abU|abV|abW|abX|abY|abZ|ab0|ab1|ab2|ab3|ab4|ab5|ab6|ab7|ab8|ab9|ab_|acd|ace|acf|acg|ach|aci|acj|ack|acm|acn|aco|acp|acq|acr|acs|acu|acv|G3|G4|G5|G6|G7|G8|G9|G_|Hi|Hj|Hl|Ho|Hq|Hr|Hs|Ht|Hu|HA|HB=>k_is)
   (case HC|HD=>k_exc)
   (case HE|HF=>kernel_rfl)
  obtain ⟨t,T⟩:=T
  have e0:=xN.symm.trans T.MJ
  cases e0
  exact My.ZK T
#print axioms PySem.Challenge.cw_bandwright_k97_whole_filling_grows_holds
