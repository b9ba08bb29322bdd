import PyProof.Rows.All
import Wide.All
import OpenK.AllK
import Wide.FinOn
import Lean
import PyProof.EqAt
import PyProof.EqKinds
import PyProof.TupleCall
import PySem.Challenge.RW_bandwright_k11_undone_counted
set_option Elab.async false
set_option linter.all false
set_option maxRecDepth 100000
abbrev dI:=@decide_eq_false
abbrev jC:=@beq_eq_false_iff_ne
abbrev aq:=@if_pos
abbrev ar:=@if_neg
abbrev aZ:=@PySem.Heap.lt_size
abbrev cw:=@Nat.lt_of_lt_of_le
abbrev eW:=@Nat.lt_irrefl
abbrev dB:=@Nat.ne_of_lt
abbrev wQ:=@PySem.W.hideAll_get
abbrev qM:=@List.mem_filter
abbrev gM:=@List.mem_range
abbrev aN:=@Nat.le_trans
abbrev wR:=@List.filterMap_cons
abbrev g9:=@List.mem_cons_self
abbrev fO:=@List.mem_cons_of_mem
abbrev dq:=@List.mem_cons
abbrev lC:=@List.mem_append
abbrev aW:=@List.getElem?_eq_some_iff
abbrev ku:=@List.getElem?_set_self
abbrev kz:=@List.getElem?_set_ne
abbrev a_:=@PySem.wpAny_mono
abbrev lE:=@PySem.wpAny_truthy_bool
abbrev dR:=@congrArg
abbrev qN:=@PySem.wpAny_execs_nil
abbrev wU:=@PySem.wpAny_assign_Name
abbrev bG:=@PySem.wpAny_bind
abbrev qO:=@PySem.wpAny_standAt
abbrev dC:=@PySem.wpAny_pure
abbrev oB:=@PySem.wpAny_newObj_type
abbrev b9:=@PySem.Heap.get?_push_of_some
abbrev oC:=@PySem.wpAny_passesOwn
abbrev cJ:=@Bool.false_ne_true
abbrev iC:=@Int.mul_one
abbrev wV:=@PySem.wpAny_pyIter_list
abbrev fc:=@PySem.Heap.get?_push_size
abbrev aI:=@Nat.le_refl
abbrev wX:=@PyProof.Rows.callWith_type1
abbrev cM:=@List.mem_append_right
abbrev cT:=@Nat.zero_le
abbrev AG:=@Int.fdiv_eq_ediv_of_nonneg
abbrev uE:=@Bool.eq_iff_iff
abbrev cK:=@List.size_toArray
abbrev kA:=@beq_iff_eq
abbrev cx:=@List.length_cons
abbrev wY:=@PySem.W.looks_findIn
abbrev gu:=@List.map_cons
abbrev aD:=@List.length_map
abbrev qP:=@PySem.Heap.size_push
abbrev qQ:=@Nat.le_of_eq
abbrev qR:=@Nat.lt_succ_self
abbrev iD:=@PySem.W.kia_one
abbrev wZ:=@List.append_nil
abbrev uF:=@PySem.codeAny_mono
abbrev uH:=@PySem.wpAny_Call_Name_kw
abbrev w5:=@PySem.W.callWith_K
abbrev fP:=@Nat.le_succ
abbrev oE:=@List.nodup_cons
abbrev w6:=@List.of_mem_zip
abbrev AH:=@Option.isSome_iff_exists
abbrev w9:=@List.length_take
abbrev iE:=@PySem.mem_of_lookup
abbrev fE:=@List.getElem?_append_right
abbrev eX:=@List.getElem?_append_left
abbrev bo:=@List.getElem?_map
abbrev mS:=@List.mem_of_getElem?
abbrev fe:=@List.length_append
abbrev cU:=@Int.toNat_natCast
abbrev jD:=@List.length_set
abbrev qS:=@List.all_cons
abbrev uI:=@Bool.and_eq_true
abbrev oF:=@List.any_cons
abbrev mT:=@List.replicate_succ
abbrev w_:=@List.flatten_cons
abbrev xa:=@List.length_singleton
abbrev lF:=@List.nil_append
abbrev lH:=@List.map_nil
abbrev cN:=@decide_eq_true
abbrev bA:=@PySem.W.mg_of
abbrev eK:=@Nat.lt_of_le_of_lt
abbrev oG:=@PySem.wpAny_loadPart_at
abbrev AI:=@PySem.F.typeOf_object_class
abbrev AJ:=@List.range_succ_eq_map
abbrev oH:=@List.all_eq_true
abbrev uJ:=@Bool.false_or
abbrev oI:=@List.forall_mem_nil
abbrev gw:=@List.forall_mem_cons
abbrev qT:=@PySem.wpAny_comprehension_free
abbrev xb:=@PySem.wpAny_newFunctionEnv
abbrev xc:=@PySem.codeAny_compLoop_tests
abbrev jd:=@PySem.lookup_relabel_local
abbrev qU:=@PySem.wpAny_tests_nil
abbrev qV:=@PySem.wpAny_tests_one
abbrev qW:=@PySem.codeAny_compStart_list
abbrev AK:=@PyProof.noPylong_of_log2
abbrev bq:=@List.getD_eq_getElem?_getD
abbrev g_:=@List.mem_singleton
abbrev uK:=@beq_self_eq_true
abbrev uM:=@Nat.gcd_pos_of_pos_right
abbrev kC:=@Int.natAbs_pos
abbrev uN:=@Int.natAbs_natCast
abbrev oJ:=@Nat.pow_le_pow_right
abbrev gy:=@Int.emod_nonneg
abbrev gN:=@Int.emod_lt_of_pos
abbrev AL:=@Int.mul_le_mul_of_nonneg_left
abbrev cy:=@Int.mul_zero
abbrev oK:=@Int.gcd_dvd_left
abbrev oM:=@Int.gcd_dvd_right
abbrev je:=@Int.natAbs_mul
abbrev iF:=@Int.dvd_trans
abbrev oN:=@Int.mul_pos
abbrev oO:=@Int.dvd_mul_left
abbrev jE:=@Int.mul_ediv_cancel_left
abbrev iG:=@Int.mul_assoc
abbrev fg:=@Int.mul_comm
abbrev xf:=@Int.mul_left_comm
abbrev oP:=@Int.natAbs_ediv_le_natAbs
abbrev oQ:=@Int.natAbs_neg
abbrev oR:=@Int.dvd_refl
abbrev oS:=@Int.le_of_dvd
abbrev AM:=@Int.emod_add_mul_ediv
abbrev uO:=@Int.mul_emod
abbrev jf:=@Int.emod_eq_of_lt
abbrev xg:=@Int.fdiv_eq_ediv_of_dvd
abbrev jF:=@Int.mul_neg
abbrev xh:=@Int.mul_ne_zero
abbrev AN:=@Int.dvd_of_emod_eq_zero
abbrev jG:=@Nat.sub_self
abbrev AO:=@PySem.exec_Assign_Name_used
abbrev qX:=@List.not_mem_nil
abbrev xj:=@Nat.le_add_right
abbrev uP:=@List.take_length
abbrev mU:=@List.lookup_cons
abbrev mV:=@Nat.not_lt
abbrev xk:=@PySem.SeqAt.RcAt.lists
abbrev uQ:=@PySem.Around.in1_units
abbrev mX:=@List.getElem?_zip_eq_some
abbrev uR:=@List.getElem?_eq_none
abbrev xl:=@Nat.mul_le_mul_right
abbrev AQ:=@Classical.choose_spec
abbrev lI:=@Int.zero_dvd
abbrev xn:=@Int.mul_eq_zero
abbrev qY:=@Int.sub_self
abbrev jH:=@Int.one_mul
abbrev kD:=@Int.zero_mul
abbrev a7:=@List.getElem_mem
abbrev mY:=@Int.eq_of_mul_eq_mul_left
abbrev AR:=@Int.natAbs_dvd_natAbs
abbrev oT:=@Int.mul_sub
abbrev uS:=@Nat.mul_assoc
abbrev kF:=@Nat.mul_le_mul
abbrev qZ:=@Nat.le_mul_of_pos_left
abbrev AS:=@Classical.byContradiction
abbrev xo:=@List.mem_reverse
abbrev AU:=@Nat.le_mul_of_pos_right
abbrev kG:=@List.ext_getElem
abbrev oU:=@List.map_map
abbrev jI:=@List.length_zip
abbrev gO:=@List.mem_iff_getElem
abbrev xp:=@List.range_succ
abbrev oV:=@List.map_append
abbrev q5:=@List.map_congr_left
abbrev AV:=@List.getElem?_zipWith
abbrev q8:=@List.filter_append
abbrev da:=@List.mem_map
abbrev gP:=@List.getElem_map
abbrev q_:=@List.filter_cons
abbrev AW:=@List.pairwise_lt_range
abbrev fQ:=@List.length_range
abbrev rf:=@List.find?_cons
abbrev mZ:=@List.length_nil
abbrev AX:=@PySem.SeqAt.RcAt.lists_lengths
abbrev xq:=@List.length_pos_of_mem
abbrev bw:=@List.getElem?_eq_getElem
abbrev AY:=@Int.emod_eq_emod_iff_emod_sub_eq_zero
abbrev m4:=@List.getElem?_of_mem
abbrev gQ:=@PySem.PassesOwn.never
abbrev hJ:=@of_decide_eq_true
abbrev cV:=@PySem.boot_len
abbrev rg:=@PySem.F.excBase_ValueError
abbrev m5:=@List.cons_append
abbrev dW:=@List.set_cons_zero
abbrev dY:=@List.set_cons_succ
abbrev uT:=@PySem.F.plainAttrs_list
abbrev AZ:=@PySem.F.slot_list_append
abbrev A3:=@PySem.F.type_list_append
abbrev uU:=@Nat.add_le_add_left
abbrev hV:=@PySem.W.mg_none_of
abbrev bu:=List (List (Int×Int))
abbrev a8:=List (Int×Int)
abbrev aE:=Nat→Nat→Int
abbrev cz:=PySem.Str→Option PySem.Value
abbrev aJ:=PySem.Value→PySem.Shared→Prop
abbrev aA:=PySem.W.Frag
abbrev aM:=List (PySem.Addr×PySem.Obj)
namespace L2
open PySem PySem.Spec PyProof.Rows
abbrev Key:=Sum Int Str
def rh:Key→Value→Bool
 | .inl k,v=>Value.isInt k v
 | .inr x,v=>Value.isStrOf x v
def Mc(w:World):Key→Int
 | .inl k=>hashInt k
 | .inr x=>hashStr w x
theorem lJ:∀{k:Key} {v:Value},rh k v=true→(∃i t,k=Sum.inl i∧v=Value.int i t)∨(∃x t,k=Sum.inr x∧v=Value.str x t)
 | .inl i,v,h=>by obtain ⟨t,e⟩:=Value.isInt_shape (k:=i) (v:=v) h;exact .inl ⟨i,t,rfl,e⟩
 | .inr x,v,h=>by obtain ⟨t,e⟩:=Value.isStrOf_shape (x:=x) (v:=v) h;exact .inr ⟨x,t,rfl,e⟩
theorem Md(i:Int)(t:Tok):rh (.inl i) (.int i t)=true:=by simp [rh,Value.isInt]
theorem Me(x:Str)(t:Tok):rh (.inr x) (.str x t)=true:=by simp [rh,Value.isStrOf]
theorem Mf(a b:Int):decide ((Sum.inl a:Key)=Sum.inl b)=(a == b):=by
 by_cases e:a=b;·subst e;simp
 ·have h:¬(Sum.inl a:Key)=Sum.inl b:=fun q=>e (Sum.inl.inj q)
  rw [dI h];exact (jC.mpr e).symm
theorem Mg(a b:Str):decide ((Sum.inr a:Key)=Sum.inr b)=decide (a=b):=by
 by_cases e:a=b;·subst e;simp
 ·have h:¬(Sum.inr a:Key)=Sum.inr b:=fun q=>e (Sum.inr.inj q)
  rw [dI h,dI e]
theorem Mh(a:Int)(b:Str):decide ((Sum.inl a:Key)=Sum.inr b)=false:=dI (fun q=>nomatch q)
theorem Mi(a:Str)(b:Int):decide ((Sum.inr a:Key)=Sum.inl b)=false:=dI (fun q=>nomatch q)
def gA(prog:Program)(w:World):PySem.KeyKind prog w Key where
 is:=rh
 hash:=Mc w
 inj:=fun v a b ha hb=>by
  rcases lJ ha with ⟨i,t,rfl,rfl⟩ | ⟨x,t,rfl,rfl⟩
  ·rcases lJ hb with ⟨j,u,rfl,e⟩ | ⟨y,u,rfl,e⟩
   ·injection e with e1 _;rw [e1]
   ·exact nomatch e
  ·rcases lJ hb with ⟨j,u,rfl,e⟩ | ⟨y,u,rfl,e⟩
   ·exact nomatch e
   ·injection e with e1 _;rw [e1]
 byValue:=fun k v h=>by
  rcases lJ h with ⟨i,t,rfl,rfl⟩ | ⟨x,t,rfl,rfl⟩ <;> rfl
 pyHash:=fun hv h=>by
  rcases lJ hv with ⟨i,t,rfl,rfl⟩ | ⟨x,t,rfl,rfl⟩
  ·exact wpAny_pyHash_int h
  ·exact wpAny_pyHash_str h
 eqBool:=fun hu hv h=>by
  rcases lJ hu with ⟨i,t,rfl,rfl⟩ | ⟨x,t,rfl,rfl⟩
  ·rcases lJ hv with ⟨j,u,rfl,rfl⟩ | ⟨y,u,rfl,rfl⟩
   ·rw [Mf] at h;exact wpAny_eqBool_int h
   ·rw [Mh] at h;exact SeqAt.EqAt.int_str i t y u _ _ _ _ h
  ·rcases lJ hv with ⟨j,u,rfl,rfl⟩ | ⟨y,u,rfl,rfl⟩
   ·rw [Mi] at h;exact SeqAt.EqAt.str_int x t j u _ _ _ _ h
   ·rw [Mg] at h;exact wpAny_eqBool_str h
 «strs»:=fun k x t v h=>by
  rcases lJ h with ⟨i,u,rfl,e⟩ | ⟨y,u,rfl,e⟩
  ·exact nomatch e
  ·injection e with e1 _
   subst e1
   cases v <;> rfl
theorem Mj(prog:Program)(w:World)(i:Int)(t:Tok):(gA prog w).is (.inl i) (.int i t)=true:=Md i t
theorem Ml(prog:Program)(w:World)(x:Str)(t:Tok):(gA prog w).is (.inr x) (.str x t)=true:=Me x t
inductive V where
 | aO | bl (b:Bool) | int (i:Int) | str (x:Str) | h_ (b:Array UInt8) | jg (b:UInt64) | ref (a:Addr) | ty (n:String)
 deriving DecidableEq
def RelV:V→Value→Prop
 | .aO,u=>u=Value.none
 | .bl b,u=>u=Value.bool b
 | .int i,u=>∃t,u=Value.int i t
 | .str x,u=>∃t,u=Value.str x t
 | .h_ b,u=>∃t,u=Value.bytes b t
 | .jg b,u=>∃t,u=Value.float b t
 | .ref a,u=>u=Value.ref a
 | .ty n,u=>u=Value.type n
abbrev Vals:List V→List Value→Prop:=Paired RelV
variable {xs:List V} {us:List Value}
theorem Vals.length(r:Vals xs us):xs.length=us.length:=Paired.length r
theorem Vals.get:∀{xs:List V} {us:List Value} {i:Nat} {x:V},Vals xs us→xs[i]?=some x→∃u,us[i]?=some u∧RelV x u
 | _,_,_,_,.nil,e=>by simp at e
 | _,_,0,_,.cons r _,e=>by simp at e;subst e;exact ⟨_,rfl,r⟩
 | _,_,i+1,x,.cons _ t,e=>by
  obtain ⟨u,h1,h2⟩:=Vals.get (i:=i) (x:=x) t (by simpa using e)
  exact ⟨u,by simpa using h1,h2⟩
theorem Vals.set{x:V}{u:Value}(r:RelV x u):∀{xs:List V} {us:List Value} (i:Nat),Vals xs us→Vals (xs.set i x) (us.set i u)
 | _,_,_,.nil=>.nil
 | _,_,0,.cons _ t=>.cons r t
 | _,_,i+1,.cons q t=>.cons q (Vals.set r i t)
theorem Vals.append:∀{xs ys:List V} {us ws:List Value},Vals xs us→Vals ys ws→Vals (xs++ys) (us++ws)
 | _,_,_,_,.nil,s=>s
 | _,_,_,_,.cons r t,s=>.cons r (Vals.append t s)
theorem Vals.take:∀{xs:List V} {us:List Value} (n:Nat),Vals xs us→Vals (xs.take n) (us.take n)
 | _,_,0,_=>.nil
 | _,_,_+1,.nil=>.nil
 | _,_,n+1,.cons r t=>.cons r (Vals.take n t)
theorem Vals.drop:∀{xs:List V} {us:List Value} (n:Nat),Vals xs us→Vals (xs.drop n) (us.drop n)
 | _,_,0,r=>r
 | _,_,_+1,.nil=>.nil
 | _,_,n+1,.cons _ t=>Vals.drop n t
theorem Vals.none_of:∀{xs:List V} {us:List Value} {i:Nat},Vals xs us→xs[i]?=none→us[i]?=none:=fun{xs us i} r e=>by have h1:=r.length;have h2:xs.length≤i:=List.getElem?_eq_none_iff.mp e;exact List.getElem?_eq_none_iff.mpr (by lia)
def ic:Option V→Option Value→Prop
 | some v,some u=>RelV v u
 | none,none=>True
 | _,_=>False
def KV{κ:Type}:List (κ×V)→List (κ×Value)→Prop:=Paired fun(p:κ×V) (q:κ×Value)=>p.1=q.1∧RelV p.2 q.2
def kV:Key→V
 | .inl i=>.int i
 | .inr x=>.str x
inductive HO where
 | lst (xs:List V)
 | tup (xs:List V)
 | dK (ak:List (Key×V)) | dT (ak:List (List Key×V))
 | set (S:Int→Bool) (n:Nat)
 | ins (C dx:Addr) (fs:List (Str×V))
 | own (x:Addr)
 | xd (fs:List (Str×V))
 | met (f x:Addr)
 | xt (lo hi:Int)
 | fh (o:Obj) (u:HO)
 | kH (ps:Array Value)
 | ext (φ:Heap→Prop)
abbrev Hp:=Addr→Option HO
def upd(H:Hp)(a:Addr)(o:HO):Hp:=fun b=>if b=a then some o else H b
variable {H:Hp} {a:Addr} {o:HO}
theorem aB:upd H a o a=some o:=by unfold upd;rw [aq rfl]
variable {b:Addr}
theorem aH(h:b≠a):upd H a o b=H b:=by unfold upd;rw [ar h]
theorem Mm{u:HO}(h:H a=some o)(h':H b=some u)(d:o≠u):a≠b:=by intro e;subst e;rw [h] at h';exact d (Option.some.inj h')
theorem fi(h:H a=some o)(h':H b=none):a≠b:=by intro e;subst e;rw [h] at h';cases h'
section
variable (P:Program) (w:World)
def cC(H:Hp)(h:Heap)(a:Addr):HO→Prop
 | .lst xs=>xs.length≤sizeLine∧∃(ai:List Value) (n:Nat),Vals xs ai∧h.get? a=some {cls:=.type "list",data:=.seq ai.toArray n}
 | .tup xs=>xs.length≤sizeLine∧∃ai:List Value,Vals xs ai∧IsTup h a ai.toArray
 | .dK ak=>ak.length≤sizeLine∧(a == sysModules)=false∧∃vs,KV ak vs∧h.DictOf (gA P w) a vs
 | .dT ak=>ak.length≤sizeLine∧(a == sysModules)=false∧∃xs:List (List Key×Addr×Value),
   Paired (fun(p:List Key×V) (q:List Key×Addr×Value)=>p.1=q.1∧H q.2.1=some (.tup (p.1.map kV))∧RelV p.2 q.2.2) ak xs ∧
   ∃o es ep,h.get? a=some o∧o.ExactDict∧o.data=.dict es ep∧es.toList=xs.map (entryOfKey (tupleKind (gA P w)))∧(xs.map (·.1)).Nodup
 | .set S n=>h.SetOf (intKind P w) a S n
 | .ins C dx fs=>H dx=some (.own a)∧fs.length≤1000∧dx≠a∧h.get? a=some (PySem.W.instObj C dx) ∧
   ∃mA,h.Ns1 dx mA∧(∀f,ic (fs.lookup f) (mA f))∧PySem.Within mA (fs.map (·.1))
 | .own _=>∃o,h.get? a=some o
 | .xd fs=>∃mA,h.Ns1 a mA∧∀f,ic (fs.lookup f) (mA f)
 | .xt lo hi=>∃t u v,h.get? a=some {cls:=.type "range",data:=.fields #[.int lo t,.int hi u,.int 1 v]}
 | .fh o u=>h.get? a=some o∧cC H h a u
 | .kH ps=>h.get? a=some {cls:=.none,data:=.fields ps}
 | .met f x=>h.get? a=some (PySem.W.methodObj (.ref f) (.ref x))
 | .ext φ=>φ h∧(∃o,h.get? a=some o)∧∀h1 h2:Heap,φ h1→(∀o,h1.get? a=some o→h2.get? a=some o)→φ h2
def bT(H:Hp)(h:Heap):Prop:=∀a o,H a=some o→cC P w H h a o
end
section
variable {P:Program} {w:World} {H H':Hp} {h h':Heap} {a:Addr} {o:HO}
theorem cC.lt(x:cC P w H h a o):a<h.objs.size:=by
 cases o with
 | lst xs=>obtain ⟨_,_,_,_,e⟩:=x;exact aZ e
 | tup xs=>obtain ⟨_,_,_,p⟩:=x;exact p.lt
 | dK ak=>obtain ⟨_,_,_,_,o,_,_,e,_⟩:=x;exact aZ e
 | dT ak=>obtain ⟨_,_,_,_,o,_,_,e,_⟩:=x;exact aZ e
 | set S n=>obtain ⟨o,_,_,_,e,_⟩:=x;exact aZ e
 | ins C dx fs=>obtain ⟨_,_,_,e,_⟩:=x;exact aZ e
 | own y=>obtain ⟨_,e⟩:=x;exact aZ e
 | xd fs=>obtain ⟨_,⟨_,_,_,e,_⟩,_⟩:=x;exact aZ e
 | xt lo hi=>obtain ⟨_,_,_,e⟩:=x;exact aZ e
 | fh ob u=>obtain ⟨e,_⟩:=x;exact aZ e
 | kH ps=>exact aZ (show h.get? a=some _ from x)
 | met f y=>exact aZ (show h.get? a=some _ from x)
 | ext φ=>obtain ⟨_,⟨_,e⟩,_⟩:=x;exact aZ e
theorem Paired.A4{α β:Type}{F G:α→β→Prop}:∀{l₁:List α} {l₂:List β},Paired F l₁ l₂→(∀a b,F a b→G a b)→Paired G l₁ l₂
 | _,_,.nil,_=>.nil
 | _,_,.cons r t,f=>.cons (f _ _ r) (Paired.A4 t f)
theorem cC.gB(x:cC P w H h a o)(k:∀b u,(b=a∨H b=some (.own a))→h.get? b=some u→h'.get? b=some u)
  (ho:∀b,H b=some (.own a)→H' b=some (.own a)) (ht:∀b xs,H b=some (.tup xs)→H' b=some (.tup xs)):cC P w H' h' a o:=by
 induction o with
 | lst xs=>obtain ⟨z,ai,n,r,e⟩:=x;exact ⟨z,ai,n,r,k _ _ (.inl rfl) e⟩
 | tup xs=>obtain ⟨z,ai,r,ob,e,c⟩:=x;exact ⟨z,ai,r,ob,k _ _ (.inl rfl) e,c⟩
 | dK ak=>obtain ⟨z,y,vs,r,ob,es,ep,e,c⟩:=x;exact ⟨z,y,vs,r,ob,es,ep,k _ _ (.inl rfl) e,c⟩
 | dT ak=>obtain ⟨z,y,xs,r,ob,es,ep,e,c⟩:=x;exact ⟨z,y,xs,Paired.A4 r fun p q z=>⟨z.1,ht _ _ z.2.1,z.2.2⟩,ob,es,ep,k _ _ (.inl rfl) e,c⟩
 | set S n=>obtain ⟨ob,es,ep,t,e,c⟩:=x;exact ⟨ob,es,ep,t,k _ _ (.inl rfl) e,c⟩
 | ins C dx fs=>obtain ⟨d,z,ne,e,mA,⟨od,es,ep,e2,c⟩,r⟩:=x;exact ⟨ho _ d,z,ne,k _ _ (.inl rfl) e,mA,⟨od,es,ep,k _ _ (.inr d) e2,c⟩,r⟩
 | own y=>obtain ⟨ob,e⟩:=x;exact ⟨ob,k _ _ (.inl rfl) e⟩
 | xd fs=>obtain ⟨mA,⟨od,es,ep,e,c⟩,r⟩:=x;exact ⟨mA,⟨od,es,ep,k _ _ (.inl rfl) e,c⟩,r⟩
 | xt lo hi=>obtain ⟨t,u,v,e⟩:=x;exact ⟨t,u,v,k _ _ (.inl rfl) e⟩
 | fh ob u ih=>obtain ⟨e,q⟩:=x;exact ⟨k _ _ (.inl rfl) e,ih q⟩
 | kH ps=>have e:h.get? a=some {cls:=.none,data:=.fields ps}:=x;show h'.get? a=some {cls:=.none,data:=.fields ps};exact k a _ (.inl rfl) e
 | met f y=>have e:h.get? a=some (PySem.W.methodObj (.ref f) (.ref y)):=x;show h'.get? a=some (PySem.W.methodObj (.ref f) (.ref y));exact k a _ (.inl rfl) e
 | ext φ=>obtain ⟨p,⟨o,e⟩,st⟩:=x;exact ⟨st _ _ p fun o q=>k _ _ (.inl rfl) q,⟨o,k _ _ (.inl rfl) e⟩,st⟩
theorem bT.lt(x:bT P w H h)(e:H a=some o):a<h.objs.size:=(x a o e).lt
theorem bT.fresh(x:bT P w H h)(e:h.objs.size≤a):H a=none:=by
 cases q:H a with
 | none=>rfl
 | some u=>exact absurd (cw (x.lt q) e) (eW _)
theorem bT.kept(x:bT P w H h)(k:∀b u,h.get? b=some u→h'.get? b=some u):bT P w H h':=fun a o e=>(x a o e).gB (fun b u _ q=>k b u q) (fun _ q=>q) fun _ _ q=>q
theorem bT.laid(x:bT P w H h)(k:∀b u,h.get? b=some u→h'.get? b=some u)(hp:h.objs.size≤a)(new:cC P w (upd H a o) h' a o):bT P w (upd H a o) h':=fun b u e=>by
 have hn:=x.fresh hp;by_cases hb:b=a;·subst hb;rw [aB] at e;cases e;exact new
 ·rw [aH hb] at e
  exact (x b u e).gB (fun c v _ q=>k c v q) (fun c q=>by rw [aH (fi q hn)];exact q) fun c xs q=>by rw [aH (fi q hn)];exact q
end
def Rd(H:Hp)(a:Addr)(u:HO):Prop:=H a=some u∨∃o,H a=some (.fh o u)
variable {P:Program} {w:World} {h:Heap}
theorem Rd.ok{u:HO}(r:Rd H a u)(x:bT P w H h):cC P w H h a u:=by
 rcases r with r | ⟨o,r⟩;·exact x a u r
 ·obtain ⟨_,q⟩:=x a _ r
  exact q
def uV:Option HO→Prop
 | some (.lst _)=>True
 | some (.dK _)=>True
 | some (.dT _)=>True
 | some (.set _ _)=>True
 | some (.ins _ _ _)=>True
 | some (.ext _)=>True
 | _=>False
section
variable {P:Program} {w:World} {H:Hp} {h h':Heap} {x e:Addr} {o':HO}
theorem bT.write(ok:bT P w H h)(mu:uV (H x))(he:e=x∨H e=some (.own x))(k:∀b u,b≠e→h.get? b=some u→h'.get? b=some u)(rj:∃u,h'.get? e=some u)
  (new:cC P w (upd H x o') h' x o'):bT P w (upd H x o') h':=fun b u q=>by
 have Fh:∀c y,H c=some (.own y)→c≠x:=fun c y r z=>by subst z;rw [r] at mu;exact mu
 have Mn:∀c xs,H c=some (.tup xs)→c≠x:=fun c xs r z=>by subst z;rw [r] at mu;exact mu
 by_cases hb:b=x;·subst hb;rw [aB] at q;cases q;exact new
 ·rw [aH hb] at q
  by_cases oW:b=e
  ·have q':H b=some (.own x):=by
    rcases he with z | z;·exact absurd (oW.trans z) hb
    ·rw [oW];exact z
   rw [q] at q';cases q';obtain ⟨v,hv⟩:=rj;exact ⟨v,by rw [oW];exact hv⟩
  ·refine (ok b u q).gB (fun c v hc r=>k c v ?_ r) (fun c r=>by rw [aH (Fh c b r)];exact r) fun c xs r=>by rw [aH (Mn c xs r)];exact r
   rcases hc with rfl | hc;·exact oW
   ·rintro rfl
    rcases he with z | z;·exact Fh c b hc z
    ·rw [hc] at z;cases z;exact hb rfl
end
structure Un (fs ex:List Addr) (H H':Hp) (h h':Heap):Prop where
 keep:∀b o,h.get? b=some o→H b=none→b∉fs→b∉ex→h'.get? b=some o
 slot:∀b o,h.get? b=some o→H b=none→b∈fs→b∉ex→∃sl,h'.get? b=some {o with slots:=sl}
 free:∀b o,h.get? b=some o→H b=none→b∉ex→H' b=none
 there:∀b o,h.get? b=some o→b∉ex→∃o',h'.get? b=some o'
 d3:∀b xs,H b=some (.tup xs)→H' b=some (.tup xs)
 dS:∀b o u,H b=some (.fh o u)→H' b=some (.fh o u)
 d5:∀b ps,H b=some (.kH ps)→∃more,H' b=some (.kH (ps++more))
section
variable {fs A6 ex iH:List Addr} {H H1 H2:Hp} {h h1 h2 h':Heap} {a x e:Addr} {o:HO}
theorem Un.any(u:Un fs ex H H1 h h1){ob:Obj}(q:h.get? b=some ob)(n:H b=none)(hx:b∉ex):∃sl,h1.get? b=some {ob with slots:=sl}:=by
 by_cases hb:b∈fs;·exact u.slot b ob q n hb hx
 ·exact ⟨ob.slots,u.keep b ob q n hb hx⟩
theorem Un.kept(k:∀b u,h.get? b=some u→h'.get? b=some u):Un fs ex H H h h':=
 ⟨fun b ob q _ _ _=>k b ob q,fun b ob q _ _ _=>⟨ob.slots,k b ob q⟩,fun _ _ _ n _=>n,fun b ob q _=>⟨ob,k b ob q⟩,fun _ _ q=>q,fun _ _ _ q=>q,fun _ ps q=>⟨#[],by rw [q];simp⟩⟩
theorem Un.refl:Un fs ex H H h h:=Un.kept fun _ _ q=>q
theorem Un.laid(k:∀b u,h.get? b=some u→h'.get? b=some u)(hp:h.objs.size≤a)(hn:H a=none):Un fs ex H (upd H a o) h h' where
 keep:=fun b u q _ _ _=>k b u q
 slot:=fun b u q _ _ _=>⟨u.slots,k b u q⟩
 free:=fun b u q n _=>by rw [aH (dB (cw (aZ q) hp))];exact n
 there:=fun b u q _=>⟨u,k b u q⟩
 d3:=fun b xs q=>by rw [aH (fi q hn)];exact q
 dS:=fun b u xs q=>by rw [aH (fi q hn)];exact q
 d5:=fun b ps q=>⟨#[],by rw [aH (fi q hn),q];simp⟩
theorem Un.write(mu:uV (H x))(he:e=x∨H e=some (.own x))(k:∀b u,b≠e→h.get? b=some u→h'.get? b=some u)(rj:∃u,h'.get? e=some u):Un fs ex H (upd H x o) h h':=by
 have hx:∀b,H b=none→b≠x:=fun b n z=>by subst z;rw [n] at mu;exact mu
 have hb:∀b,H b=none→b≠e:=fun b n z=>by
  subst z;rcases he with r | r;·exact hx b n r
  ·rw [n] at r;cases r
 have hm:∀b u,H b=some u→¬uV (some u)→b≠x:=fun b u q nm z=>by subst z;rw [q] at mu;exact nm mu
 refine ⟨fun b u q n _ _=>k b u (hb b n) q,fun b u q n _ _=>⟨u.slots,k b u (hb b n) q⟩,fun b u q n _=>by rw [aH (hx b n)];exact n,fun b u q _=>?_,
  fun b xs q=>by rw [aH (hm b _ q fun z=>z)];exact q,fun b u xs q=>by rw [aH (hm b _ q fun z=>z)];exact q,fun b ps q=>⟨#[],by rw [aH (hm b _ q fun z=>z),q];simp⟩⟩
 by_cases oW:b=e;·subst oW;exact rj
 ·exact ⟨u,k b u oW q⟩
end
def xv(h:Heap)(H:Hp):List Addr:=(List.range h.objs.size).filter fun a=>(H a).isSome
def lK(h:Heap)(H:Hp):Heap:=PySem.W.hideAll h (xv h H)
theorem Mo(h:Heap)(H:Hp):(lK h H).objs.size=h.objs.size:=PySem.W.hideAll_size _ _
theorem Mp{o:Obj}(e:h.get? b=some o)(n:H b=none):(lK h H).get? b=some o:=
 wQ _ e fun hm=>by have q:(H b).isSome=true:=(qM.mp hm).2;rw [n] at q;simp at q
theorem Mq{o:Obj}(e:(lK h H).get? b=some o):h.get? b=some o∧H b=none:=by
 have e':h.get? b=some o:=PySem.W.of_hideAll (xv h H) e;refine ⟨e',?_⟩;cases q:H b with
 | none=>rfl
 | some x=>
  have hm:b∈xv h H:=qM.mpr ⟨gM.mpr (aZ e'),by simp [q]⟩
  have z:(lK h H).get? b=none:=PySem.W.hideAll_none (xv h H) hm;rw [z] at e;cases e
structure Mod (K:aA) (mg:cz) (base:Heap):Prop where
 cD:K.In base
 glob:base.Ns mainGlobals mg
 blt:∃mb,base.Ns builtinsNs mb∧∀x:Str,x ≠ "__name__"→mb x=bootBuiltins x
 nolimit:base.NoLimit
structure Cx where
 prog:Program
 w:World
 K:PySem.W.Frag
 mg:Str→Option Value
 base:Heap
 A:Around
 N:List Str
 s₀:Shared
 H₀:Hp
 env:Env
 outer:List Env
 stack:List Env
 ex:List Addr
 fn:Str→Bool
 calm:Bool
 pn:List (Addr×Obj)
 xe:Value→Shared→Prop
def b7(l:List Env):List Addr:=l.filterMap (·.frame)
abbrev Cx.fs (X:Cx):List Addr:=b7 X.outer
def lO(sc:Scope)(x:Str):Prop:=sc.names.lookup x=some .local∨sc.names.lookup x=some .cell∨sc.names.lookup x=some .free
def Loc(sc:Scope)(x:Str):Prop:=sc.names.lookup x=some .local∨sc.names.lookup x=some .cell
def Look(env:Env)(h:Heap)(m:cz)(x:Str)(u:Value):Prop:=
 (env.kindOf x=some .local∧m x=some u)∨((env.kindOf x=some .cell∨env.kindOf x=some .free)∧∃c,env.cells.lookup x=some c∧h.IsCell c (some u))
structure Cx.Ok (X:Cx):Prop where
 mod:Mod X.K X.mg X.base
 kind:X.env.scope.kind=.function
 glob:X.env.globals=mainGlobals
 blt:X.env.builtins=builtinsNs
 above:X.s₀.heap.objs.size≤X.env.locals
 inj:∀x y c,X.env.cells.lookup x=some c→X.env.cells.lookup y=some c→x=y
 has:∀x,(X.env.kindOf x=some .cell∨X.env.kindOf x=some .free)→∃c,X.env.cells.lookup x=some c
 kI:∀x c,X.fn x=true→X.env.cells.lookup x=some c→X.s₀.heap.objs.size≤c
 hd:X.calm=true→X.A.handled=none
 frames:X.A.frames=some X.stack
 ie:X.stack=X.outer∨(X.stack=X.env::X.outer∧X.env.frame=some X.env.locals)
 A7:∀b∈X.ex,b≠X.env.locals∧∀x c,X.env.cells.lookup x=some c→c≠b
 bs:∀b o,X.base.get? b=some o→X.s₀.heap.get? b=some o∧X.H₀ b=none
 fj:X.base.objs.size≤X.s₀.heap.objs.size
 jJ:∀b o,X.base.get? b=some o→b∉X.ex
 jK:∀b∈X.ex,b∉X.fs
 iI:X.s₀.heap.FunFrames X.base X.outer
 kJ:∀b∈X.fs,X.H₀ b=none
structure Inv (X:Cx) (pins:aM) (σ:List (Option V)) (H:Hp) (s:Shared):Prop where
 ok:X.Ok
 os:s.os=X.s₀.os
 bare:AllBare s.gens
 base:Un X.fs X.ex X.H₀ H X.s₀.heap s.heap
 loc:∃m,s.heap.Ns X.env.locals m∧∀(i:Nat) (x:Str) (v:V),X.N[i]?=some x→σ[i]?=some (some v)→lO X.env.scope x→∃u,RelV v u∧Look X.env s.heap m x u
 cell:∀x c,X.env.cells.lookup x=some c→∃v,s.heap.IsCell c v
 free:H X.env.locals=none
 fR:∀x c,X.env.cells.lookup x=some c→H c=none
 pin:∀p∈X.pn++pins,s.heap.get? p.1=some p.2∧H p.1=none∧p.1≠X.env.locals∧p.1∉X.fs∧∀v,p.2.data≠.cell v
 au:bT X.prog X.w H s.heap
 len:σ.length=X.N.length
section
variable {X:Cx} {pins:aM} {σ:List (Option V)} {H H':Hp} {s:Shared} {h':Heap}
theorem Cx.Ok.Mr(ok:X.Ok){o:Obj}(e:X.base.get? b=some o):b∉X.fs:=fun hb=>by have:=(ok.iI.mem hb).1;rw [e] at this;cases this
theorem Inv.bs(I:Inv X pins σ H s):∀b o,X.base.get? b=some o→s.heap.get? b=some o∧H b=none:=fun b o e=>⟨I.base.keep b o (I.ok.bs b o e).1 (I.ok.bs b o e).2 (I.ok.Mr e) (I.ok.jJ b o e),I.base.free b o (I.ok.bs b o e).1 (I.ok.bs b o e).2 (I.ok.jJ b o e)⟩
theorem Inv.bk(I:Inv X pins σ H s):∀b o,X.base.get? b=some o→s.heap.get? b=some o:=fun b o e=>(I.bs b o e).1
theorem Inv.mod(I:Inv X pins σ H s):Mod X.K X.mg X.base:=I.ok.mod
theorem Inv.cO(I:Inv X pins σ H s):X.K.In s.heap:=I.ok.mod.cD.keeps I.bk
theorem Inv.lt(I:Inv X pins σ H s):X.env.locals<s.heap.objs.size:=let ⟨_,hn,_⟩:=I.loc;hn.lt
theorem Inv.sz(I:Inv X pins σ H s):X.s₀.heap.objs.size≤s.heap.objs.size:=aN I.ok.above (Nat.le_of_lt I.lt)
theorem Inv.Ms(I:Inv X pins σ H s)(h:s.heap.objs.size≤a):a∉X.fs:=fun hb=>by obtain ⟨_,o,ho,_⟩:=I.ok.iI.mem hb;exact absurd (cw (aZ ho) (aN I.sz h)) (eW _)
theorem Inv.jL(I:Inv X pins σ H s):∀x c,X.env.cells.lookup x=some c→c≠X.env.locals:=fun x c e z=>by obtain ⟨v,o,ho,hd⟩:=I.cell x c e;obtain ⟨m,⟨o',es,ep,lP,A8,_⟩,_⟩:=I.loc;rw [z,lP] at ho;cases ho;rw [A8] at hd;cases hd
theorem Inv.iI(I:Inv X pins σ H s):s.heap.FunFrames X.base X.outer:=by
 have all:∀(l:List Env),(∀b∈b7 l,b∈X.fs)→X.s₀.heap.FunFrames X.base l→s.heap.FunFrames X.base l:=by
  intro l
  induction l with
  | nil=>intro _ _;trivial
  | cons env r ih=>
   intro hs hl;obtain ⟨hk,⟨L,o,hf,hn,ho,hd⟩,hr⟩:=hl;have hL:L∈X.fs:=hs L (by unfold b7;rw [wR,hf];exact g9)
   obtain ⟨sl,e⟩:=I.base.slot L o ho (I.ok.kJ L hL) hL fun z=>I.ok.jK L z hL;exact ⟨hk,⟨L,_,hf,hn,e,hd⟩,ih (fun b hb=>hs b (by unfold b7;rw [wR,hf];exact fO _ hb)) hr⟩
 exact all X.outer (fun _ hb=>hb) I.ok.iI
theorem Inv.stack(I:Inv X pins σ H s):s.heap.FunFrames X.base X.stack:=by
 rcases I.ok.ie with e | ⟨e,hf⟩;·rw [e];exact I.iI
 ·rw [e]
  obtain ⟨m,hn,_⟩:=I.loc;refine .cons (by rw [I.ok.kind];decide) hf hn ?_ I.iI
  exact Heap.get?_none_of_le (aN I.ok.fj I.ok.above)
theorem Inv.m7(I:Inv X pins σ H s):∀b∈b7 X.stack,b∈X.env.locals::X.fs:=fun b hb=>by
 rcases I.ok.ie with e | ⟨e,hf⟩;·rw [e] at hb;exact fO _ hb
 ·rw [e] at hb
  unfold b7 at hb;rw [wR,hf] at hb;exact hb
theorem Inv.m9(I:Inv X pins σ H s):∀b∈b7 X.stack,H b=none:=fun b hb=>by
 rcases dq.mp (I.m7 b hb) with e | hb;·rw [e];exact I.free
 ·obtain ⟨_,o,ho,_⟩:=I.ok.iI.mem hb
  exact I.base.free b o ho (I.ok.kJ b hb) fun z=>I.ok.jK b z hb
variable {g':Array GenState} {t':Nat} {d':Drawn} {ch:List Addr}
theorem Inv.step(I:Inv X pins σ H s)
  (kK:∀b∈ch,(b∈X.ex∨X.s₀.heap.objs.size≤b)∧b≠X.env.locals∧(∀x c,X.env.cells.lookup x=some c→c≠b)∧∀p∈X.pn++pins,p.1≠b)
  (keep:∀b o,b≠X.env.locals→b∉X.fs→b∉ch→s.heap.get? b=some o→H b=none→h'.get? b=some o)
  (slot:∀b o,b≠X.env.locals→b∈X.fs→b∉ch→s.heap.get? b=some o→H b=none→∃sl,h'.get? b=some {o with slots:=sl}) (free:∀b o,b∉ch→s.heap.get? b=some o→H b=none→H' b=none)
  (there:∀b o,b∉ch→s.heap.get? b=some o→∃o',h'.get? b=some o')
  (d3:∀b xs,H b=some (.tup xs)→H' b=some (.tup xs)) (dS:∀b o u,H b=some (.fh o u)→H' b=some (.fh o u)) (d5:∀b ps,H b=some (.kH ps)→∃more,H' b=some (.kH (ps++more)))
  (ns:∀m,s.heap.Ns X.env.locals m→h'.Ns X.env.locals m) (au:bT X.prog X.w H' h') (hg:AllBare g') :
  Inv X pins σ H' {s with heap:=h',gens:=g',drawn:=d',toks:=t'}:=by
 have Fl:∀b o,X.s₀.heap.get? b=some o→b≠X.env.locals:=fun b o e=>dB (cw (aZ e) I.ok.above);have xx:∀b o,X.s₀.heap.get? b=some o→b∉X.ex→b∉ch:=fun b o e hx hb=>by
  rcases (kK b hb).1 with z | z;·exact hx z
  ·exact absurd (cw (aZ e) z) (eW _)
 have cellK:∀x c,X.env.cells.lookup x=some c→∀v,s.heap.IsCell c v→h'.IsCell c v:=fun x c e v ⟨o,ho,hd⟩=>by
  have uW:c∉ch:=fun z=>(kK c z).2.2.1 x c e rfl;by_cases hc:c∈X.fs
  ·obtain ⟨sl,q⟩:=slot c o (I.jL x c e) hc uW ho (I.fR x c e)
   exact ⟨_,q,hd⟩
  ·exact ⟨o,keep c o (I.jL x c e) hc uW ho (I.fR x c e),hd⟩
 refine ⟨I.ok,I.os,hg,⟨fun b o e n hb hx=>?_,fun b o e n hb hx=>?_,fun b o e n hx=>?_,fun b o e hx=>?_,fun b xs e=>d3 b xs (I.base.d3 b xs e),fun b o xs e=>dS b o xs (I.base.dS b o xs e),fun b ps e=>?_⟩,?_,fun x c e=>?_,?_,fun x c e=>?_,fun p hp=>?_,au,I.len⟩;·exact keep b o (Fl b o e) hb (xx b o e hx) (I.base.keep b o e n hb hx) (I.base.free b o e n hx)
 ·obtain ⟨sl,e1⟩:=I.base.slot b o e n hb hx
  obtain ⟨Mt,e2⟩:=slot b _ (Fl b o e) hb (xx b o e hx) e1 (I.base.free b o e n hx);exact ⟨Mt,e2⟩
 ·obtain ⟨o',e1⟩:=I.base.there b o e hx
  exact free b o' (xx b o e hx) e1 (I.base.free b o e n hx)
 ·obtain ⟨o',e1⟩:=I.base.there b o e hx
  exact there b o' (xx b o e hx) e1
 ·obtain ⟨m1,e1⟩:=I.base.d5 b ps e
  obtain ⟨m2,e2⟩:=d5 b _ e1;exact ⟨m1++m2,by rw [e2,Array.append_assoc]⟩
 ·obtain ⟨m,hn,hl⟩:=I.loc
  refine ⟨m,ns m hn,fun i x v e1 e2 e3=>?_⟩;obtain ⟨u,r,l⟩:=hl i x v e1 e2 e3;refine ⟨u,r,?_⟩;rcases l with l | ⟨k,c,e,z⟩;·exact .inl l
  ·exact .inr ⟨k,c,e,cellK x c e _ z⟩
 ·obtain ⟨v,z⟩:=I.cell x c e
  exact ⟨v,cellK x c e v z⟩
 ·obtain ⟨m,⟨o,_,_,ho,_⟩,_⟩:=I.loc
  exact free _ o (fun z=>(kK _ z).2.1 rfl) ho I.free
 ·obtain ⟨v,o,ho,hd⟩:=I.cell x c e
  exact free c o (fun z=>(kK c z).2.2.1 x c e rfl) ho (I.fR x c e)
 ·obtain ⟨e,n,ne,nf,d⟩:=I.pin p hp
  have uW:p.1∉ch:=fun z=>(kK p.1 z).2.2.2 p hp rfl;exact ⟨keep p.1 p.2 ne nf uW e n,free p.1 p.2 uW e n,ne,nf,d⟩
theorem Inv.un(I:Inv X pins σ H s)(u:Un X.fs [] H H' s.heap h')(au:bT X.prog X.w H' h'):Inv X pins σ H' {s with heap:=h',toks:=t'}:=by
 obtain ⟨m,⟨o,es,ep,ho,r⟩,_⟩:=id I.loc;obtain ⟨sl,hL⟩:=u.any ho I.free (by simp)
 exact I.step (g':=s.gens) (d':=s.drawn) (ch:=[]) (fun _ z=>nomatch z) (fun b o _ hb _ e n=>u.keep b o e n hb (by simp)) (fun b o _ hb _ e n=>u.slot b o e n hb (by simp)) (fun b o _ e n=>u.free b o e n (by simp)) (fun b o _ e=>u.there b o e (by simp)) u.d3 u.dS u.d5 (fun m' hm=>by obtain ⟨o',uX,A9,lP,r'⟩:=hm;rw [ho] at lP;cases lP;exact ⟨_,uX,A9,hL,r'⟩) au I.bare
theorem Inv.call(I:Inv X pins σ H s)(u:Un (b7 X.stack) ch H H' s.heap h')(au:bT X.prog X.w H' h')(hg:AllBare g')
  (kK:∀b∈ch,(b∈X.ex∨X.s₀.heap.objs.size≤b)∧b≠X.env.locals∧(∀x c,X.env.cells.lookup x=some c→c≠b)∧∀p∈X.pn++pins,p.1≠b) :
  Inv X pins σ H' {s with heap:=h',gens:=g',drawn:=d',toks:=t'}:=by
 obtain ⟨m,⟨o,es,ep,ho,r⟩,_⟩:=id I.loc;obtain ⟨sl,hL⟩:=u.any ho I.free fun z=>(kK _ z).2.1 rfl;exact I.step (ch:=ch) kK (fun b o hL hb hc e n=>u.keep b o e n (fun z=>(dq.mp (I.m7 b z)).elim hL hb) hc) (fun b o _ _ hc e n=>u.any e n hc) (fun b o hc e n=>u.free b o e n hc) (fun b o hc e=>u.there b o e hc) u.d3 u.dS u.d5 (fun m' hm=>by obtain ⟨o',uX,A9,lP,r'⟩:=hm;rw [ho] at lP;cases lP;exact ⟨_,uX,A9,hL,r'⟩) au hg
theorem Inv.turned{it:Addr}(I:Inv X pins σ H s)(k:∀b o,b≠it→s.heap.get? b=some o→h'.get? b=some o)(hn:H it=none)(hL:it≠X.env.locals)
  (h1:it∈X.ex∨X.s₀.heap.objs.size≤it) (h2:∀x c,X.env.cells.lookup x=some c→c≠it) (h3:∀p∈X.pn++pins,p.1≠it):Inv X pins σ H {s with heap:=h',toks:=t'}:=by
 have Fm:∀b u,H b=some u→b≠it:=fun b u e z=>by rw [z,hn] at e;cases e
 refine I.step (g':=s.gens) (d':=s.drawn) (ch:=[it]) (fun b hb=>?_) (fun b o _ _ hc e _=>k b o (fun z=>hc (by simp [z])) e) (fun b o _ _ hc e _=>⟨o.slots,k b o (fun z=>hc (by simp [z])) e⟩) (fun _ _ _ _ n=>n)
  (fun b o hc e=>⟨o,k b o (fun z=>hc (by simp [z])) e⟩) (fun _ _ e=>e) (fun _ _ _ e=>e) (fun b ps e=>⟨#[],by rw [e];simp⟩) (fun m hm=>?_) (fun b u e=>?_) I.bare
 ·have e:b=it:=by simpa using hb
  subst e;exact ⟨h1,hL,h2,h3⟩
 ·obtain ⟨o,es,ep,ho,r⟩:=hm
  exact ⟨o,es,ep,k _ o (Ne.symm hL) ho,r⟩
 ·refine (I.au b u e).gB (fun c v hc q=>k c v ?_ q) (fun _ q=>q) fun _ _ q=>q
  rcases hc with z | z;·rw [z];exact Fm b u e
  ·exact Fm c _ z
theorem Inv.tok(I:Inv X pins σ H s)(t:Nat):Inv X pins σ H {s with toks:=t}:=I.un (h':=s.heap) (t':=t) Un.refl I.au
theorem Inv.kept(I:Inv X pins σ H s)(k:∀b u,s.heap.get? b=some u→h'.get? b=some u):Inv X pins σ H {s with heap:=h',toks:=t'}:=I.un (Un.kept k) (I.au.kept k)
theorem Inv.laid(I:Inv X pins σ H s)(k:∀b u,s.heap.get? b=some u→h'.get? b=some u)(hp:s.heap.objs.size≤a)(new:cC X.prog X.w (upd H a o) h' a o) :
  Inv X pins σ (upd H a o) {s with heap:=h',toks:=t'}:=I.un (Un.laid k hp (I.au.fresh hp)) (I.au.laid k hp new)
theorem Inv.write{x e:Addr}(I:Inv X pins σ H s)(mu:uV (H x))(he:e=x∨H e=some (.own x))(k:∀b u,b≠e→s.heap.get? b=some u→h'.get? b=some u)(rj:∃u,h'.get? e=some u)
  (new:cC X.prog X.w (upd H x o) h' x o):Inv X pins σ (upd H x o) {s with heap:=h',toks:=t'}:=I.un (Un.write mu he k rj) (I.au.write mu he k rj new)
theorem Inv.Fn{Fo:aM}(I:Inv X pins σ H s)(h:∀p∈Fo,s.heap.get? p.1=some p.2∧H p.1=none∧p.1≠X.env.locals∧p.1∉X.fs∧∀v,p.2.data≠.cell v):Inv X Fo σ H s:=
 ⟨I.ok,I.os,I.bare,I.base,I.loc,I.cell,I.free,I.fR,fun p hp=>(lC.mp hp).elim (fun z=>I.pin p (List.mem_append_left _ z)) (h p),I.au,I.len⟩
variable {i:Nat} {x:Str}
theorem A_{N:List Str}(hN:N.Nodup){j:Nat}(a:N[i]?=some x)(b:N[j]?=some x):i=j:=by obtain ⟨h1,e1⟩:=aW.mp a;obtain ⟨h2,e2⟩:=aW.mp b;exact (List.getElem_inj hN).mp (e1.trans e2.symm)
variable {M:Model} {A:Around} {E:aJ} {v:V} {u:Value} {Q:Unit→Shared→Prop}
theorem xy(I:Inv X pins σ H s)(hN:X.N.Nodup)(hi:X.N[i]?=some x)(hx:Loc X.env.scope x)(r:RelV v u)
  (h:∀s',Inv X pins (σ.set i (some v)) H s'→(∃a,Heap.SameBut a s.heap s'.heap∧(a=X.env.locals∨X.env.cells.lookup x=some a))→Q () s') (hf:X.fn x=true∨X.env.scope.names.lookup x=some .local:=by first | exact .inl rfl | exact .inr rfl | assumption):wpAny M A (storeName X.env x u) Q E s:=by
 obtain ⟨m,hn,hl⟩:=id I.loc;have Ba:(X.env.scope.kind == .class || (X.env.scope.kind == .module && X.env.locals != X.env.globals))=false:=by rw [I.ok.kind];rfl
 have xA:i<σ.length:=by rw [I.len];exact (aW.mp hi).1
 have jL:=I.jL;have tracked:∀{a:Addr} {h':Heap},(∃o,s.heap.get? a=some o∧H a=none)→Heap.SameBut a s.heap h'→bT X.prog X.w H h':=fun{a h'} ha hs b ob e=>by
  obtain ⟨_,_,Fp⟩:=ha;refine (I.au b ob e).gB (fun c w' hc q=>(hs.2 c ?_).trans q) (fun _ q=>q) fun _ _ q=>q;rintro rfl;rcases hc with rfl | hc;·rw [Fp] at e;cases e
  ·rw [Fp] at hc;cases hc
 rcases hx with hk | hk
 ·refine wpAny_storeName_local hk hn (fun h' kL hs=>?_) Ba
  obtain ⟨oL,_,_,Mu,_⟩:=id hn;refine h _ ⟨I.ok,I.os,I.bare,⟨fun b o e n hb hx=>?_,fun b o e n hb hx=>?_,I.base.free,fun b o e hx=>?_,I.base.d3,I.base.dS,I.base.d5⟩,⟨_,kL,fun j y v' e1 e2 e3=>?_⟩,fun y c e=>?_,I.free,I.fR,fun p hp=>?_,tracked ⟨oL,Mu,I.free⟩ hs,by simpa using I.len⟩ ⟨_,hs,.inl rfl⟩
  ·exact (hs.2 b (dB (cw (aZ e) I.ok.above))).trans (I.base.keep b o e n hb hx)
  ·obtain ⟨sl,e1⟩:=I.base.slot b o e n hb hx
   exact ⟨sl,(hs.2 b (dB (cw (aZ e) I.ok.above))).trans e1⟩
  ·obtain ⟨o',e1⟩:=I.base.there b o e hx
   exact ⟨o',(hs.2 b (dB (cw (aZ e) I.ok.above))).trans e1⟩
  ·by_cases hj:j=i
   ·subst hj
    rw [hi] at e1;cases e1;rw [ku xA] at e2;cases e2;exact ⟨u,r,.inl ⟨hk,by simp⟩⟩
   ·rw [kz (Ne.symm hj)] at e2
    obtain ⟨u',r',q⟩:=hl j y v' e1 e2 e3;refine ⟨u',r',?_⟩;rcases q with ⟨k,e⟩ | ⟨k,c,e,z⟩
    ·refine .inl ⟨k,?_⟩
     have:y≠x:=fun e=>hj (A_ hN e1 (e▸hi));simp [this,e]
    ·exact .inr ⟨k,c,e,z.sameBut hs (jL y c e)⟩
  ·obtain ⟨w',z⟩:=I.cell y c e
   exact ⟨w',z.sameBut hs (jL y c e)⟩
  ·obtain ⟨e,n,ne,nf,d⟩:=I.pin p hp
   exact ⟨(hs.2 p.1 ne).trans e,n,ne,nf,d⟩
 ·have Bb:X.fn x=true:=by
   rcases hf with z | z;·exact z
   ·rw [z] at hk;cases hk
  obtain ⟨c,hc⟩:=I.ok.has x (.inl hk);obtain ⟨w',z⟩:=I.cell x c hc;refine wpAny_storeName_cell I.ok.kind hk hc z (fun h' dJ hs=>?_);obtain ⟨oc,Fq,Mv⟩:=id z;refine h {s with heap:=h'} ⟨I.ok,I.os,I.bare,⟨fun b o e n hb hx=>?_,fun b o e n hb hx=>?_,I.base.free,fun b o e hx=>?_,I.base.d3,I.base.dS,I.base.d5⟩,⟨m,hn.sameBut hs (Ne.symm (jL x c hc)),fun j y v' e1 e2 e3=>?_⟩,fun y c' e=>?_,I.free,I.fR,fun p hp=>?_,tracked ⟨oc,Fq,I.fR x c hc⟩ hs,by simpa using I.len⟩ ⟨c,hs,.inr hc⟩
  ·exact (hs.2 b (dB (cw (aZ e) (I.ok.kI x c Bb hc)))).trans (I.base.keep b o e n hb hx)
  ·obtain ⟨sl,e1⟩:=I.base.slot b o e n hb hx
   exact ⟨sl,(hs.2 b (dB (cw (aZ e) (I.ok.kI x c Bb hc)))).trans e1⟩
  ·obtain ⟨o',e1⟩:=I.base.there b o e hx
   exact ⟨o',(hs.2 b (dB (cw (aZ e) (I.ok.kI x c Bb hc)))).trans e1⟩
  ·by_cases hj:j=i
   ·subst hj
    rw [hi] at e1;cases e1;rw [ku xA] at e2;cases e2;exact ⟨u,r,.inr ⟨.inl hk,c,hc,dJ⟩⟩
   ·rw [kz (Ne.symm hj)] at e2
    obtain ⟨u',r',q⟩:=hl j y v' e1 e2 e3;refine ⟨u',r',?_⟩;rcases q with q | ⟨k,c',e,z'⟩;·exact .inl q
    ·refine .inr ⟨k,c',e,z'.sameBut hs ?_⟩
     rintro rfl;exact hj (A_ hN e1 (I.ok.inj _ _ _ e hc▸hi))
  ·by_cases Fs:c'=c
   ·subst Fs;exact ⟨_,dJ⟩
   ·obtain ⟨w2,z2⟩:=I.cell y c' e
    exact ⟨w2,z2.sameBut hs Fs⟩
  ·obtain ⟨e,n,ne,nf,d⟩:=I.pin p hp
   refine ⟨(hs.2 p.1 ?_).trans e,n,ne,nf,d⟩;intro q;rw [q,Fq] at e;have q':oc=p.2:=Option.some.inj e;exact d w' (by rw [←q'];exact Mv)
theorem rp(I:Inv X pins σ H s)(hN:X.N.Nodup)(hi:X.N[i]?=some x)(hx:Loc X.env.scope x)(r:RelV v u)
  (h:∀s',Inv X pins (σ.set i (some v)) H s'→Q () s') (hf:X.fn x=true∨X.env.scope.names.lookup x=some .local:=by first | exact .inl rfl | exact .inr rfl | assumption):wpAny M A (storeName X.env x u) Q E s:=
 xy I hN hi hx r (fun s' I' _=>h s' I') hf
theorem Inv.iJ{s':Shared}(I:Inv X pins σ H s)(ho:s'.os=s.os)(u:Un (b7 X.stack) ch H H' s.heap s'.heap)(au:bT X.prog X.w H' s'.heap)(hg:AllBare s'.gens)
  (kK:∀b∈ch,(b∈X.ex∨X.s₀.heap.objs.size≤b)∧b≠X.env.locals∧(∀x c,X.env.cells.lookup x=some c→c≠b)∧∀p∈X.pn++pins,p.1≠b):Inv X pins σ H' s':=by
 obtain ⟨h',g',d',t',o'⟩:=s';have e:o'=s.os:=ho;subst e;exact I.call (g':=g') (t':=t') (d':=d') u au hg kK
end
abbrev XK:=Value→Option Addr→Hp→Prop
abbrev St:=List (Option V)
abbrev VK:=V→Hp→Prop
abbrev TE:=St→Hp→VK→Prop
abbrev TT:=St→Hp→(Bool→Hp→Prop)→Prop
abbrev TA:=St→Hp→(List V→Hp→Prop)→Prop
structure Ends where
 nx:St→Hp→Prop
 rt:VK
 bk:St→Hp→Prop:=fun _ _=>False
 ct:St→Hp→Prop:=fun _ _=>False
abbrev TS:=Ends→St→Hp→Prop
def EP(X:Cx)(pins:aM)(σ:St)(Q:VK)(u:Value)(s':Shared):Prop:=∃v H',Inv X pins σ H' s'∧RelV v u∧Q v H'
def TP(X:Cx)(pins:aM)(σ:St)(Q:Bool→Hp→Prop)(b:Bool)(s':Shared):Prop:=∃H',Inv X pins σ H' s'∧Q b H'
def AP(X:Cx)(pins:aM)(σ:St)(Q:List V→Hp→Prop)(us:List Value)(s':Shared):Prop:=∃vs H',Inv X pins σ H' s'∧Vals vs us∧Q vs H'
def SP(X:Cx)(pins:aM)(D:Ends)(f:Flow)(s':Shared):Prop:=
 match f with
 | .next=>∃σ' H',Inv X pins σ' H' s'∧D.nx σ' H'
 | .brk=>∃σ' H',Inv X pins σ' H' s'∧D.bk σ' H'
 | .cont=>∃σ' H',Inv X pins σ' H' s'∧D.ct σ' H'
 | .ret u=>∃v σ' H',Inv X pins σ' H' s'∧RelV v u∧D.rt v H'
def PE(X:Cx)(e:Expr)(t:TE):Prop:=
 ∀(pins:aM) (s:Shared) (σ:St) (H:Hp) (Q:VK),Inv X pins σ H s→t σ H Q→wpAny (model X.prog X.w) X.A (eval e X.env) (EP X pins σ Q) X.xe s
def PT(X:Cx)(e:Expr)(t:TT):Prop:=
 ∀(pins:aM) (s:Shared) (σ:St) (H:Hp) (Q:Bool→Hp→Prop),Inv X pins σ H s→t σ H Q→wpAny (model X.prog X.w) X.A (isTrue e X.env (eval e X.env)) (TP X pins σ Q) X.xe s
def PW(X:Cx)(e:Expr)(t:TT):Prop:=
 ∀(whole:Sem Value) (pins:aM) (s:Shared) (σ:St) (H:Hp) (Q:Bool→Hp→Prop),Inv X pins σ H s→t σ H Q→wpAny (model X.prog X.w) X.A (isTrue e X.env whole) (TP X pins σ Q) X.xe s
variable {X:Cx}
theorem PW.pt{e:Expr}{t:TT}(h:PW X e t):PT X e t:=h _
def PA(X:Cx)(es:List Expr)(t:TA):Prop:=
 ∀(pos:Pos) (pins:aM) (s:Shared) (σ:St) (H:Hp) (Q:List V→Hp→Prop),Inv X pins σ H s→t σ H Q→wpAny (model X.prog X.w) X.A (spliced (backTo pos (starEach es X.env))) (AP X pins σ Q) X.xe s
def PS(X:Cx)(st:Stmt)(t:TS):Prop:=
 ∀(pins:aM) (s:Shared) (σ:St) (H:Hp) (D:Ends),Inv X pins σ H s→t D σ H→wpAny (model X.prog X.w) X.A (exec st X.env) (SP X pins D) X.xe s
def eZ(X:Cx)(st:List Stmt)(t:TS):Prop:=
 ∀(pins:aM) (s:Shared) (σ:St) (H:Hp) (D:Ends),Inv X pins σ H s→t D σ H→wpAny (model X.prog X.w) X.A (execs st X.env) (SP X pins D) X.xe s
variable {M:Model} {A:Around} {E:aJ} {s:Shared}
theorem aF{α:Type}{t:Sem α}{Q Q':α→Shared→Prop}(h:wpAny M A t Q E s)(hQ:∀a s,Q a s→Q' a s):wpAny M A t Q' E s:=a_ h hQ fun _ _ x=>x
section
variable {X:Cx}
variable {pins:aM} {σ:St}
theorem bin{a b:Expr}{ta tb:TE}(ha:PE X a ta)(hb:PE X b tb){R:V→V→Hp→Prop}(I:Inv X pins σ H s)(h:ta σ H fun x H1=>tb σ H1 fun y H2=>R x y H2)
  {α:Type} {Q:α→Shared→Prop} {f:Value→Value→Sem α}
  (hf:∀v u s2 x y H2,Inv X pins σ H2 s2→RelV x v→RelV y u→R x y H2→wpAny (model X.prog X.w) X.A (f v u) Q X.xe s2) :
  wpAny (model X.prog X.w) X.A (eval a X.env) (fun v s₁=>wpAny (model X.prog X.w) X.A (eval b X.env) (fun u s₂=>wpAny (model X.prog X.w) X.A (f v u) Q X.xe s₂) X.xe s₁) X.xe s:=by
 refine aF (ha pins s σ H _ I h) fun v s1 ⟨x,H1,I1,r1,q1⟩=>?_;refine aF (hb pins s1 σ H1 _ I1 q1) fun u s2 ⟨y,H2,I2,r2,q2⟩=>?_;exact hf v u s2 x y H2 I2 r1 r2 q2
def oX(i:Nat):TE:=fun σ H Q=>∃v,σ[i]?=some (some v)∧Q v H
def tC(v:V):TE:=fun _ H Q=>Q v H
variable {x:Str} {pos:Pos}
theorem Mw{i:Nat}(hN:X.N[i]?=some x)(hv:lO X.env.scope x)(hd:(x == ("__debug__":Str))=false:=by decide)(fF:(x == ("__classdict__":Str))=false:=by decide):PE X (.Name x pos) (oX i):=by
 intro pins s σ H Q I h;obtain ⟨v,e,h⟩:=h;obtain ⟨m,hn,hl⟩:=I.loc;obtain ⟨u,r,l⟩:=hl i x v hN e hv;have fin:EP X pins σ Q u s:=⟨v,H,I,r,h⟩;rcases l with ⟨hk,hm⟩ | ⟨hk,c,hc,xB⟩;·exact wpAny_Name (wpAny_loadName_local I.ok.kind hk hn hm fin) hd
 ·rcases hk with hk | hk
  ·exact wpAny_Name (wpAny_loadName_cell I.ok.kind hk hc xB fin) hd
  ·exact wpAny_Name (wpAny_loadName_free I.ok.kind hk hc xB fin fF) hd
theorem aj{i j pos}:PE X (.Constant (.int i) j pos) (tC (.int i)):=fun _ _ _ H _ I h=>wpAny_Constant_int ⟨.int i,H,I.tok _,⟨_,rfl⟩,h⟩
theorem gR{b j pos}:PE X (.Constant (.bool b) j pos) (tC (.bl b)):=fun _ _ _ H _ I h=>Constant_bool ⟨.bl b,H,I,rfl,h⟩
theorem oY{j pos}:PE X (.Constant .none j pos) (tC .aO):=fun _ _ _ H _ I h=>Constant_none ⟨.aO,H,I,rfl,h⟩
theorem fZ{x j pos}:PE X (.Constant (.str x) j pos) (tC (.str x)):=fun _ _ _ H _ I h=>Calls.Constant_str ⟨.str x,H,I.tok _,⟨_,rfl⟩,h⟩
def Gl(X:Cx)(x:Str):Prop:=X.env.kindOf x=some .globalImplicit
variable {u:Value} {Q:aJ}
theorem rq(I:Inv X pins σ H s)(hg:Gl X x)(hm:X.mg x=some u)(h:Q u s)
  (hd:(x == ("__debug__":Str))=false:=by decide):wpAny (model X.prog X.w) X.A (eval (.Name x pos) X.env) Q E s:=
 Calls.Name_function_global I.ok.kind hg (Calls.loadGlobal_global (by rw [I.ok.glob];exact I.mod.glob.keeps I.bk) hm h) hd
theorem rz(I:Inv X pins σ H s)(hg:Gl X x)(hm:X.mg x=none)(hv:bootBuiltins x=some u)(h:Q u s)
  (hn:x ≠ "__name__":=by decide) (hd:(x == ("__debug__":Str))=false:=by decide):wpAny (model X.prog X.w) X.A (eval (.Name x pos) X.env) Q E s:=by
 obtain ⟨mb,h1,h2⟩:=I.mod.blt;exact Calls.Name_function_global I.ok.kind hg (Calls.loadGlobal_builtin (by rw [I.ok.glob];exact I.mod.glob.keeps I.bk) hm (by rw [I.ok.blt];exact h1.keeps I.bk) ((h2 x hn).trans hv) h) hd
variable {v:V}
theorem kN(hg:Gl X x)(hm:X.mg x=some u)(r:RelV v u)(hd:(x == ("__debug__":Str))=false:=by decide):PE X (.Name x pos) (tC v):=
 fun _ _ _ H _ I h=>rq I hg hm ⟨v,H,I,r,h⟩ hd
theorem jM(hg:Gl X x)(hm:X.mg x=none)(hv:bootBuiltins x=some u)(r:RelV v u)(hn:x ≠ "__name__":=by decide)(hd:(x == ("__debug__":Str))=false:=by decide):PE X (.Name x pos) (tC v):=
 fun _ _ _ H _ I h=>rz I hg hm hv ⟨v,H,I,r,h⟩ hn hd
variable {a b:Expr} {ta tb:TE} {pos:Pos}
def PC(X:Cx)(op:CmpOp)(a b:Expr)(t:TE):Prop:=
 ∀(pins:aM) (s:Shared) (σ:St) (H:Hp) (Q:VK),Inv X pins σ H s→t σ H Q→
  wpAny (model X.prog X.w) X.A (eval a X.env) (fun v s₁=>wpAny (model X.prog X.w) X.A (eval b X.env) (fun u s₂=>wpAny (model X.prog X.w) X.A (compareOp op v u) (EP X pins σ Q) X.xe s₂) X.xe s₁) X.xe s
def tB(t:TE):TT:=fun σ H Q=>t σ H fun x H1=>∃c,x=.bl c∧Q c H1
variable {op:CmpOp}
theorem Mx{t:TE}(h:PC X op a b t)(h1:behindInMarks op b=false:=by first | exact Mz _ (by decide) (by decide) | rfl):PE X (.Compare a [op] [b] pos) t:=fun pins s σ H Q I hw=>wpAny_Compare1 (h pins s σ H Q I hw) h1
theorem Xt{t:TE}(h:PC X op a b t)(h1:behindInMarks op b=false:=by first | exact Mz _ (by decide) (by decide) | rfl):PT X (.Compare a [op] [b] pos) (tB t):=by intro pins s σ H Q I hw;refine wpAny_isTrue_Compare1 (aF (h pins s σ H _ I hw) fun v s1 h1=>aF h1 fun u s2 h2=>aF h2 fun c s3 ⟨x,H1,I1,r1,q1⟩=>?_) h1;obtain ⟨d,rfl,q⟩:=q1;cases r1;exact lE ⟨H1,I1,q⟩
theorem gC{e:Expr}{t:TE}(h:PE X e t)(he:∀whole,isTrue e X.env whole=(do let v ←whole;standAt e.pos;holding [v] (truthy v)):=by intro _;rfl):PT X e (tB t):=by
 intro pins s σ H Q I hw
 refine isTrue_plain (aF (h pins s σ H _ I hw) fun v s1 ⟨x,H1,I1,r1,q1⟩=>?_) (he _)
 obtain ⟨d,rfl,q⟩:=q1
 cases r1
 exact lE ⟨H1,I1,q⟩
variable {tA Bc:TT} {rest:List Expr}
def Ft(t u:TT):TT:=fun σ H Q=>t σ H fun c H1=>if c=true then Q true H1 else u σ H1 Q
def MA(t:TT):TT:=fun σ H Q=>t σ H fun c H1=>Q (!c) H1
theorem pw_or1(ha:PT X a tA):PW X (.BoolOp .Or [a] pos) tA:=by
 intro wh pins s σ H Q I h;refine isTrue_or (aF (ha pins s σ H Q I h) fun c s1 e=>?_);cases c with
 | false=>exact isTrue_or_nil e
 | true=>exact e
theorem pw_or(ha:PT X a tA)(hb:PW X (.BoolOp .Or (b::rest) pos) Bc):PW X (.BoolOp .Or (a::b::rest) pos) (Ft tA Bc):=by
 intro wh pins s σ H Q I h;refine isTrue_or (aF (ha pins s σ H _ I h) fun c s1 ⟨H1,I1,q1⟩=>?_);cases c with
 | true=>exact ⟨H1,I1,q1⟩
 | false=>exact hb wh pins s1 σ H1 Q I1 q1
theorem iK(ha:PT X a tA):PT X (.UnaryOp .Not a pos) (MA tA):=by intro pins s σ H Q I h;exact isTrue_not (ha pins s σ H (fun c H1=>Q (!c) H1) I h)
def MB(ta tb:TE):TE:=fun σ H Q=>ta σ H fun x H1=>∃c,x=.bl c∧if c=true then tb σ H1 Q else Q (.bl false) H1
def MC(ta:TE):TE:=fun σ H Q=>ta σ H fun x H1=>∃c,x=.bl c∧Q (.bl (!c)) H1
theorem kO{op}{t:TE}(h:PE X a t):PE X (.BoolOp op [a] pos) t:=fun pins s σ H Q I hw=>BoolOp_one (h pins s σ H Q I hw)
theorem fS(ha:PE X a ta)(hb:PE X (.BoolOp .And (b::rest) pos) tb):PE X (.BoolOp .And (a::b::rest) pos) (MB ta tb):=by
 intro pins s σ H Q I h;refine BoolOp_and (aF (ha pins s σ H _ I h) fun v s1 ⟨x,H1,I1,r1,q1⟩=>?_);obtain ⟨c,rfl,q1⟩:=q1;cases r1;refine lE ?_;cases c with
 | true=>exact hb pins s1 σ H1 Q I1 q1
 | false=>exact ⟨.bl false,H1,I1,rfl,q1⟩
theorem lQ(ha:PE X a ta):PE X (.UnaryOp .Not a pos) (MC ta):=by intro pins s σ H Q I h;refine UnaryOp_ (aF (ha pins s σ H _ I h) fun v s1 ⟨x,H1,I1,r1,q1⟩=>?_);obtain ⟨c,rfl,q1⟩:=q1;cases r1;exact not_of (lE ⟨.bl (!c),H1,I1,rfl,q1⟩)
end
def bh(K:aA)(H:Hp)(a:Addr)(xs:List V):Prop:=
 Rd H a (.lst xs) ∨
  ∃(o:Obj) (ai:Array Value) (n:Nat),K.lookup a=some o∧o.cls=.type "list"∧o.dict=none∧o.data=.seq ai n∧ai.size≤sizeLine∧Vals xs ai.toList
def fG(K:aA)(H:Hp)(a:Addr)(xs:List V):Prop:=
 Rd H a (.tup xs) ∨
  ∃(o:Obj) (ai:Array Value) (n:Nat),K.lookup a=some o∧o.cls=.type "tuple"∧o.data=.seq ai n∧ai.size≤sizeLine∧Vals xs ai.toList
def MD:Value→Option V
 | .none=>some .aO
 | .bool b=>some (.bl b)
 | .int i _=>some (.int i)
 | .str x _=>some (.str x)
 | .bytes b _=>some (.h_ b)
 | .float b _=>some (.jg b)
 | .ref a=>some (.ref a)
 | .type n=>some (.ty n)
 | _=>none
variable {x:V} {u:Value}
theorem RelV.abs(r:RelV x u):MD u=some x:=by
 cases x with
 | aO=>cases r;rfl
 | bl _=>cases r;rfl
 | int _=>obtain ⟨t,rfl⟩:=r;rfl
 | str _=>obtain ⟨t,rfl⟩:=r;rfl
 | h_ _=>obtain ⟨t,rfl⟩:=r;rfl
 | jg _=>obtain ⟨t,rfl⟩:=r;rfl
 | ref _=>cases r;rfl
 | ty _=>cases r;rfl
theorem RelV.inj{y:V}(r:RelV x u)(q:RelV y u):x=y:=Option.some.inj (r.abs.symm.trans q.abs)
theorem Vals.inj:∀{xs ys:List V} {us:List Value},Vals xs us→Vals ys us→xs=ys
 | _,_,_,.nil,.nil=>rfl
 | _,_,_,.cons r t,.cons r' t'=>by rw [r.inj r',Vals.inj t t']
section
variable {X:Cx} {pins:aM} {σ:St} {H:Hp} {s:Shared} {a:Addr} {xs ys:List V}
variable {K:aA}
theorem bh.of(h:H a=some (.lst xs)):bh K H a xs:=.inl (.inl h)
theorem fG.of(h:H a=some (.tup xs)):fG K H a xs:=.inl (.inl h)
theorem Inv.list(I:Inv X pins σ H s)(h:bh X.K H a xs):∃ai:List Value,Vals xs ai∧PlainL s.heap a ai.toArray∧xs.length≤sizeLine:=by
 rcases h with h | ⟨o,ai,n,hk,hc,hd,hs,hz,r⟩
 ·obtain ⟨z,ai,n,r,e⟩:=h.ok I.au
  exact ⟨ai,r,⟨_,n,e,rfl,rfl,rfl⟩,z⟩
 ·refine ⟨ai.toList,r,⟨o,n,I.cO a o hk,hc,hd,by simpa using hs⟩,?_⟩
  have e:=r.length;simp only [Array.length_toList] at e;lia
theorem Inv.tuple(I:Inv X pins σ H s)(h:fG X.K H a xs):∃ai:List Value,Vals xs ai∧IsTup s.heap a ai.toArray∧xs.length≤sizeLine:=by
 rcases h with h | ⟨o,ai,n,hk,hc,hs,hz,r⟩
 ·obtain ⟨z,ai,r,p⟩:=h.ok I.au
  exact ⟨ai,r,p,z⟩
 ·refine ⟨ai.toList,r,⟨o,I.cO a o hk,hc,n,by simpa using hs⟩,?_⟩
  have e:=r.length;simp only [Array.length_toList] at e;lia
theorem Inv.xC(I:Inv X pins σ H s)(h:bh X.K H a xs)(h':bh X.K H a ys):xs=ys:=by
 obtain ⟨ai,r,⟨o,n,e,_,_,d⟩,_⟩:=I.list h;obtain ⟨its',r',⟨o',n',e',_,_,d'⟩,_⟩:=I.list h';rw [e] at e';cases e';rw [d] at d';injection d' with d1 _;have:ai=its':=by simpa using dR Array.toList d1
 subst this;exact r.inj r'
end
abbrev Cx.jN (X:Cx) (E:aJ):Cx:={X with xe:=E}
abbrev Cx.m_ (X:Cx):Cx:=X.jN fun _ _=>False
theorem Cx.Ok.jN(ok:X.Ok)(E:aJ):(X.jN E).Ok:=
 ⟨ok.mod,ok.kind,ok.glob,ok.blt,ok.above,ok.inj,ok.has,ok.kI,ok.hd,ok.frames,ok.ie,ok.A7,ok.bs,ok.fj,ok.jJ,ok.jK,ok.iI,ok.kJ⟩
theorem Cx.Ok.lS(ok:(X.jN E).Ok):X.Ok:=
 ⟨ok.mod,ok.kind,ok.glob,ok.blt,ok.above,ok.inj,ok.has,ok.kI,ok.hd,ok.frames,ok.ie,ok.A7,ok.bs,ok.fj,ok.jJ,ok.jK,ok.iI,ok.kJ⟩
section
variable {X:Cx} {pins:aM} {σ:St} {H:Hp} {s:Shared} {E:aJ}
theorem Inv.jN(I:Inv X pins σ H s)(E:aJ):Inv (X.jN E) pins σ H s:=⟨I.ok.jN E,I.os,I.bare,I.base,I.loc,I.cell,I.free,I.fR,I.pin,I.au,I.len⟩
theorem Inv.lS(I:Inv (X.jN E) pins σ H s):Inv X pins σ H s:=⟨I.ok.lS,I.os,I.bare,I.base,I.loc,I.cell,I.free,I.fR,I.pin,I.au,I.len⟩
theorem SP.lS{D:Ends}{f:Flow}{s':Shared}(h:SP (X.jN E) pins D f s'):SP X pins D f s':=by
 cases f with
 | next=>obtain ⟨σ',H',I,q⟩:=h;exact ⟨σ',H',I.lS,q⟩
 | brk=>obtain ⟨σ',H',I,q⟩:=h;exact ⟨σ',H',I.lS,q⟩
 | cont=>obtain ⟨σ',H',I,q⟩:=h;exact ⟨σ',H',I.lS,q⟩
 | ret u=>obtain ⟨v,σ',H',I,r,q⟩:=h;exact ⟨v,σ',H',I.lS,r,q⟩
theorem eZ.m_{st:List Stmt}{t:TS}(h:eZ X.m_ st t):eZ X st t:=fun pins s σ H D I hw=>a_ (h pins s σ H D (I.jN _) hw) (fun _ _ q=>q.lS) fun _ _ z=>False.elim z
end
section
variable {X:Cx} {st:Stmt} {rest:List Stmt} {t u:TS} {e:Expr} {te:TE} {pos:Pos}
def f9:TS:=fun D σ H=>D.nx σ H
def rB(t u:TS):TS:=fun D σ H=>t {D with nx:=u D} σ H
theorem bS:eZ X [] f9:=fun _ _ σ H _ I h=>qN ⟨σ,H,I,h⟩
theorem ao(h1:PS X st t)(h2:eZ X rest u):eZ X (st::rest) (rB t u):=by
 intro pins s σ H D I h;refine wpAny_execs_cons (aF (h1 pins s σ H {D with nx:=u D} I h) fun f s1 q=>?_);cases f with
 | next=>obtain ⟨σ',H',I',q⟩:=q;exact h2 pins s1 σ' H' D I' q
 | ret v=>exact q
 | brk=>exact q
 | cont=>exact q
theorem az(h1:PS X st t):eZ X [st] t:=by
 intro pins s σ H D I h;refine wpAny_execs_cons (aF (h1 pins s σ H D I h) fun f s1 q=>?_);cases f with
 | next=>exact qN q
 | ret v=>exact q
 | brk=>exact q
 | cont=>exact q
theorem Inv.quiet{pins:aM}{σ:St}(I:Inv X pins σ H s):interactive X.env=false:=by simp [interactive,I.ok.kind]
def ME(te:TE):TS:=fun D σ H=>te σ H fun _ H1=>D.nx σ H1
theorem oZ(he:PE X e te)(hs:swapsWith e none pos.line X.env=pure false:=by rfl):PS X (.Expr e pos) (ME te):=by intro pins s σ H D I h;exact wpAny_Expr_any (aF (he pins s σ H _ I h) fun v s1 ⟨x,H1,I1,r1,q1⟩=>⟨σ,H1,I1,q1⟩) I.quiet hs
def Fu(te:TE):TS:=fun D σ H=>te σ H D.rt
theorem aV(he:PE X e te):PS X (.Return (some e) pos) (Fu te):=by intro pins s σ H D I h;exact wpAny_Return_some (aF (he pins s σ H _ I h) fun v s1 ⟨x,H1,I1,r1,q1⟩=>⟨x,σ,H1,I1,r1,q1⟩)
def Bd(c:TT)(t u:TS):TS:=fun D σ H=>c σ H fun b H1=>if b=true then t D σ H1 else u D σ H1
theorem bL{c:Expr}{a b:List Stmt}{tc:TT}(hc:PT X c tc)(ha:eZ X a t)(hb:eZ X b u):PS X (.If c a b pos) (Bd tc t u):=by
 intro pins s σ H D I h;refine wpAny_If (aF (hc pins s σ H _ I h) fun d s1 ⟨H1,I1,q1⟩=>?_);cases d with
 | true=>exact ha pins s1 σ H1 D I1 q1
 | false=>exact hb pins s1 σ H1 D I1 q1
def MF:TS:=fun _ _ _=>False
theorem MG{MH:List Stmt}:eZ X MH MF:=fun _ _ _ _ _ _ h=>h.elim
end
abbrev TG:=V→St→Hp→(St→Hp→Prop)→Prop
abbrev o4:=List V→St→Hp→(St→Hp→Prop)→Prop
def PG(X:Cx)(target:Expr)(t:TG):Prop:=
 ∀(pins:aM) (s:Shared) (σ:St) (H:Hp) (v:V) (u:Value) (Q:St→Hp→Prop),Inv X pins σ H s→RelV v u→t v σ H Q→
  wpAny (model X.prog X.w) X.A (assign target X.env u) (fun _ s'=>∃σ' H',Inv X pins σ' H' s'∧Q σ' H') X.xe s
def xD(X:Cx)(ts:List Expr)(t:o4):Prop:=
 ∀(pins:aM) (s:Shared) (σ:St) (H:Hp) (vs:List V) (us:List Value) (Q:St→Hp→Prop),Inv X pins σ H s→Vals vs us→t vs σ H Q→
  wpAny (model X.prog X.w) X.A (assignInOrder ((assignEach ts X.env).map (·.2)) us) (fun _ s'=>∃σ' H',Inv X pins σ' H' s'∧Q σ' H') X.xe s
abbrev Be:=V→V→V→Hp→(Hp→Prop)→Prop
def Fv(X:Cx)(t:Be):Prop:=
 ∀(pins:aM) (s:Shared) (σ:St) (H:Hp) (o i v:V) (ov iv u:Value) (Q:Hp→Prop),Inv X pins σ H s→RelV o ov→RelV i iv→RelV v u→t o i v H Q→
  wpAny (model X.prog X.w) X.A (setItem ov iv u) (fun _ s'=>∃H',Inv X pins σ H' s'∧Q H') X.xe s
abbrev xE:=V→V→Hp→VK→Prop
def Fw(X:Cx)(op:Operator)(t:xE):Prop:=
 ∀(pins:aM) (s:Shared) (σ:St) (H:Hp) (x y:V) (v u:Value) (Q:VK),Inv X pins σ H s→RelV x v→RelV y u→t x y H Q→
  wpAny (model X.prog X.w) X.A (inplaceOp op v u) (EP X pins σ Q) X.xe s
section
variable {X:Cx} {pos:Pos}
def aS(i:Nat):TG:=fun v σ H Q=>Q (σ.set i (some v)) H
variable {i:Nat}
theorem e7{x:Str}(hN:X.N.Nodup)(hi:X.N[i]?=some x)(hx:Loc X.env.scope x)(hf:X.fn x=true∨X.env.scope.names.lookup x=some .local:=by first | exact .inl rfl | exact .inr rfl | assumption):PG X (.Name x pos) (aS i):=by intro pins s σ H v u Q I r h;exact wU (rp I hN hi hx r (fun s' I'=>⟨_,H,I',h⟩) hf)
def Bf:o4:=fun vs σ H Q=>vs=[]∧Q σ H
def uY(t:TG)(u:o4):o4:=fun vs σ H Q=>∃v r,vs=v::r∧t v σ H fun σ' H'=>u r σ' H' Q
theorem xF:xD X [] Bf:=by intro pins s σ H vs us Q I r h;obtain ⟨e,h⟩:=h;subst e;cases r;exact assignInOrder_nil ⟨σ,H,I,h⟩
variable {e:Expr} {es:List Expr}
theorem ng{t:TG}{u:o4}(h1:PG X e t)(h2:xD X es u)
  (hs:(assignEach (e::es) X.env).map (·.2)=assign e X.env::(assignEach es X.env).map (·.2):=by rfl):xD X (e::es) (uY t u):=by
 intro pins s σ H vs us Q I r h;obtain ⟨v,vr,e1,h⟩:=h;subst e1;cases r with
 | cons r rr=>rw [hs];refine assignInOrder_cons (aF (h1 pins s σ H _ _ _ I r h) fun _ s1 ⟨σ1,H1,I1,q1⟩=>?_);exact h2 pins s1 σ1 H1 _ _ Q I1 rr q1
def Bg(K:aA)(n:Nat)(t:o4):TG:=fun v σ H Q=>∃a xs,v=.ref a∧fG K H a xs∧xs.length=n∧t xs σ H Q
theorem xG{k:Nat}{t:o4}{n:Nat}(hc:X.calm=true)(h:xD X es t)
  (hn:(assignEach es X.env).length=n:=by rfl) (Bh:(assignEach es X.env).findIdx? (·.1)=none:=by rfl):PG X (.Tuple es k pos) (Bg X.K n t):=by
 intro pins s σ H v u Q I r hw;obtain ⟨a,xs,e1,hq,hl,hw⟩:=hw;subst e1;cases r;obtain ⟨ai,rv,ht,hz⟩:=I.tuple hq;refine assign_Tuple_tuple (I.ok.hd hc) ht (by simp [hn,←hl,rv.length]) Bh fun h' hx=>?_
 have I1:Inv X pins σ H {s with heap:=h'}:=I.kept (t':=s.toks) fun b o e=>hx b o (dB (aZ e)) e;exact h pins _ σ H xs _ Q I1 (by simpa using rv) hw
def MI(to ti:TE)(t:Be):TG:=fun v σ H Q=>to σ H fun o H1=>ti σ H1 fun i H2=>t o i v H2 fun H3=>Q σ H3
theorem nh{o i:Expr}{to ti:TE}{t:Be}(ho:PE X o to)(hi:PE X i ti)(hs:Fv X t)
  (ha:∀v,assign (.Subscript o i pos) X.env v=(do
   let ov ←holding [v] (eval o X.env)
   let iv ←holding [v,ov] (eval i X.env)
   standAt pos
   holding [v,ov,iv] (setItem ov iv v)
   release [v,ov,iv] []):=by intro _;rfl):PG X (.Subscript o i pos) (MI to ti t):=by
 intro pins s σ H v u Q I r h
 rw [ha]
 refine bG (wpAny_holding (aF (ho pins s σ H _ I h) fun ov s1 ⟨x,H1,I1,r1,q1⟩=>?_))
 refine bG (wpAny_holding (aF (hi pins s1 σ H1 _ I1 q1) fun iv s2 ⟨y,H2,I2,r2,q2⟩=>?_))
 refine bG (qO (bG (wpAny_holding (aF (hs pins s2 σ H2 x y v ov iv u _ I2 r1 r2 r q2) fun _ s3 ⟨H3,I3,q3⟩=>?_))))
 exact wpAny_release ⟨σ,H3,I3,q3⟩
def lV(te:TE)(g:TG):TS:=fun D σ H=>te σ H fun x H1=>g x σ H1 D.nx
theorem nj{tg e:Expr}{te:TE}{g:TG}(he:PE X e te)(hg:PG X tg g)(hs:swapsWithSole [tg] e pos.line X.env=pure false:=by rfl)(hw:swappedStores [tg] e X.env=pure none:=by rfl)
  (h1:(assignEach [tg] X.env).map (·.2)=[assign tg X.env]:=by rfl):PS X (.Assign [tg] e pos) (lV te g):=by
 intro pins s σ H D I h;refine wpAny_Assign_stores (aF (he pins s σ H _ I h) fun v s1 ⟨x,H1,I1,r1,q1⟩=>?_) hs hw;rw [h1];exact aF (hg pins s1 σ H1 x v _ I1 r1 q1) fun _ s2 q=>q
variable {te:TE} {pos':Pos}
theorem MJ{x:Str}(hN:X.N.Nodup)(hi:X.N[i]?=some x)(hx:Loc X.env.scope x)(he:PE X e te)(hs:swapsWith e (some (.Name x pos')) pos.line X.env=pure false:=by rfl)(hf:X.fn x=true∨X.env.scope.names.lookup x=some .local:=by first | exact .inl rfl | exact .inr rfl | assumption) :
  PS X (.Assign [.Name x pos'] e pos) (lV te (aS i)):=by
 intro pins s σ H D I h;refine wpAny_Assign_Name (aF (he pins s σ H _ I h) fun v s1 ⟨y,H1,I1,r1,q1⟩=>?_) hs;exact rp I1 hN hi hx r1 (fun s2 I2=>⟨_,H1,I2,q1⟩) hf
def MK(i j:Nat)(ta:TA):TS:=fun D σ H=>ta σ H fun vs H1=>∃v w,vs=[v,w]∧D.nx ((σ.set i (some v)).set j (some w)) H1
theorem ML{j:Nat}{x y:Str}{a b:Expr}{ta:TA}{px py pt:Pos}{kt k2 Bi}(hc:X.calm=true)(hN:X.N.Nodup)(hi:X.N[i]?=some x)(hj:X.N[j]?=some y)(Bj:i≠j)
  (hx:X.env.scope.names.lookup x=some .local) (hy:X.env.scope.names.lookup y=some .local) (ha:PA X [a,b] ta)
  (hw:swappedStores [.Tuple [.Name x px,.Name y py] kt pt] (.Tuple [a,b] k2 Bi) X.env=pure (some [x,y]))
  (hs:swapsWithSole [.Tuple [.Name x px,.Name y py] kt pt] (.Tuple [a,b] k2 Bi) pos.line X.env=pure false:=by rfl) :
  PS X (.Assign [.Tuple [.Name x px,.Name y py] kt pt] (.Tuple [a,b] k2 Bi) pos) (MK i j ta):=by
 intro pins s σ H D I h
 rw [exec_Assign_arm]
 refine bG (qO ?_)
 rw [hs]
 refine bG (dC ?_)
 rw [ar (by decide)]
 refine bG (Tuple_ (aF (ha _ pins s σ H _ I h) fun us s1 ⟨vs,H1,I1,r1,q1⟩=>?_))
 obtain ⟨v,w,e1,q1⟩:=q1
 subst e1
 obtain ⟨u1,u2,rfl,rv,kP⟩:∃u1 u2,us=[u1,u2]∧RelV v u1∧RelV w u2:=by
  cases r1 with
  | cons p q=>
   cases q with
   | cons p' q'=>
    cases q'
    exact ⟨_,_,rfl,p,p'⟩
 refine oB ?_ (by show 2≤sizeLine;decide)
 have I2:Inv X pins σ H1 {s1 with heap:=s1.heap.push {cls:=.type "tuple",data:=.seq [u1,u2].toArray}}:=I1.kept (t':=s1.toks) fun b o e=>b9 _ e
 rw [hw]
 refine bG (dC ?_)
 show wpAny (model X.prog X.w) X.A (do rule "assign.swapped-stores";let items ←unpackItems (.ref s1.heap.objs.size) 2 none;assignInOrder [fun v=>bindName X.env y v,fun v=>bindName X.env x v] items.reverse;pure Flow.next) _ _ _
 refine bG (wpAny_rule (bG (unpackItems_tuple (items:=#[u1,u2]) (I.ok.hd hc) (IsTup.new s1.heap _) fun h' Fx=>?_)))
 have I3:=I2.kept (h':=h') (t':=s1.toks) fun b o e=>Fx b o (dB (aZ e)) e
 show wpAny _ _ (assignInOrder [fun v=>bindName X.env y v,fun v=>bindName X.env x v] [u2,u1] >>= fun _=>pure Flow.next) _ _ _
 refine bG (assignInOrder_cons (wpAny_bindName (rp I3 hN hj (.inl hy) kP (fun s2 I4=>?_) (.inr hy))))
 refine assignInOrder_cons (wpAny_bindName (rp I4 hN hi (.inl hx) rv (fun s3 I5=>assignInOrder_nil (dC ?_)) (.inr hx)))
 rw [List.set_comm _ _ (Ne.symm Bj)] at I5
 exact ⟨_,H1,I5,q1⟩
def MM(i:Nat)(te:TE)(ti:xE):TS:=fun D σ H=>∃x,σ[i]?=some (some x)∧te σ H fun y H1=>ti x y H1 fun z H2=>D.nx (σ.set i (some z)) H2
theorem MN{x:Str}{op:Operator}{ti:xE}(hN:X.N.Nodup)(hi:X.N[i]?=some x)(hx:Loc X.env.scope x)(he:PE X e te)(ho:Fw X op ti)(hf:X.fn x=true∨X.env.scope.names.lookup x=some .local:=by first | exact .inl rfl | exact .inr rfl | assumption) :
  PS X (.AugAssign (.Name x pos') op e pos) (MM i te ti):=by
 intro pins s σ H D I h;obtain ⟨v,e1,h⟩:=h;obtain ⟨m,hn,hl⟩:=I.loc;have MO:lO X.env.scope x:=by rcases hx with k | k;exact .inl k;exact .inr (.inl k)
 obtain ⟨u,r,l⟩:=hl i x v hi e1 MO;refine wpAny_AugAssign_Name ?_;have go:wpAny (model X.prog X.w) X.A (eval e X.env) (fun w s₂=>wpAny (model X.prog X.w) X.A (inplaceOp op u w) (fun r s₃=>wpAny (model X.prog X.w) X.A (storeName X.env x r) (fun _=>SP X pins D .next) X.xe s₃) X.xe s₂) X.xe s:=by refine aF (he pins s σ H _ I h) fun w s1 ⟨y,H1,I1,r1,q1⟩=>?_;refine aF (ho pins s1 σ H1 v y u w _ I1 r r1 q1) fun z s2 ⟨zv,H2,I2,r2,q2⟩=>?_;exact rp I2 hN hi hx r2 (fun s3 I3=>⟨_,H2,I3,q2⟩) hf
 rcases l with ⟨hk,hm⟩ | ⟨hk,c,hc,xB⟩;·exact wpAny_loadName_local I.ok.kind hk hn hm go
 ·rcases hk with hk | hk
  ·exact wpAny_loadName_cell I.ok.kind hk hc xB go
  ·rcases hx with k | k
   ·have:X.env.scope.names.lookup x=some .free:=hk
    rw [k] at this;cases this
   ·have:X.env.scope.names.lookup x=some .free:=hk
    rw [k] at this;cases this
def MP(f:Int→Int→Int):xE:=fun x y H Q=>∃i j,x=.int i∧y=.int j∧Q (.int (f i j)) H
theorem MQ:Fw X .Add (MP fun i j=>i+j):=by intro pins s σ H x y v u Q I r1 r2 h;obtain ⟨i,j,e1,e2,q⟩:=h;subst e1;subst e2;obtain ⟨t,rfl⟩:=r1;obtain ⟨t',rfl⟩:=r2;exact iadd_int ⟨.int _,H,I.tok _,⟨_,rfl⟩,q⟩
end
section
variable {X:Cx} {pos:Pos}
def MR(c:TT)(tb:TS):TS:=fun D σ H=>∃W:Nat→St→Hp→Prop,(∃m,W m σ H)∧∀m σ H,W m σ H→
 c σ H fun b H1=>if b=true then ∃N:St→Hp→Prop,(∀σ' H',N σ' H'→∃m',m'<m∧W m' σ' H')∧tb {D with nx:=N,ct:=N,bk:=D.nx} σ H1 else D.nx σ H1
theorem xH{c:Expr}{body:List Stmt}{tc:TT}{tb:TS}(hp:PassesOwn (model X.prog X.w) X.A X.env X.xe)(hc:PT X c tc)(hb:eZ X body tb):PS X (.While c body [] pos) (MR tc tb):=by
 intro pins s σ H D I h;obtain ⟨W,⟨m0,w0⟩,turn⟩:=h;refine wpAny_While (codeAny_whileLoop (fun n s'=>∃σ' H',Inv X pins σ' H' s'∧W n σ' H') ?_ m0 ⟨σ,H,I,w0⟩);rintro n s1 ⟨σ1,H1,I1,w1⟩;refine oC hp (aF (hc pins s1 σ1 H1 _ I1 (turn n σ1 H1 w1)) fun b s2 ⟨H2,I2,q2⟩=>?_);cases b with
 | true=>
  obtain ⟨N,hN,q2⟩:=q2;rw [aq rfl];refine oC hp (aF (hb pins s2 σ1 H2 _ I2 q2) fun f s3 q3=>?_);cases f with
  | next=>obtain ⟨σ3,H3,I3,n3⟩:=q3;obtain ⟨m',hm,w3⟩:=hN σ3 H3 n3;exact ⟨m',hm,σ3,H3,I3,w3⟩
  | cont=>obtain ⟨σ3,H3,I3,n3⟩:=q3;obtain ⟨m',hm,w3⟩:=hN σ3 H3 n3;exact ⟨m',hm,σ3,H3,I3,w3⟩
  | brk=>exact q3
  | ret v=>exact q3
 | false=>rw [ar cJ];exact qN ⟨σ1,H2,I2,q2⟩
end
structure It where
 go:Nat→Hp→Prop
 d6:Nat→Hp→V→Hp→Prop
 stop:Nat→Hp→Prop
def jh(X:Cx)(pins:aM)(H:Hp)(b:Addr):Prop:=
 H b=none∧b≠X.env.locals∧b∉X.fs∧(b∈X.ex∨X.s₀.heap.objs.size≤b)∧(∀x c,X.env.cells.lookup x=some c→c≠b)∧∀p∈X.pn++pins,p.1≠b
variable {σ:St}
theorem Inv.Bk{pins:aM}{H':Hp}(I:Inv X pins σ H s)(hb:s.heap.objs.size≤b)(hn:H' b=none):jh X pins H' b:=by
 refine ⟨hn,Nat.ne_of_gt (cw I.lt hb),I.Ms hb,.inr (aN I.sz hb),fun x c e z=>?_,fun p hp z=>?_⟩
 ·obtain ⟨v,q⟩:=I.cell x c e
  exact absurd (cw q.lt (by rw [z];exact hb)) (eW _)
 ·exact absurd (cw (aZ (I.pin p hp).1) (by rw [z];exact hb)) (eW _)
structure Turn (P:Program) (w:World) (K:aA) (tg:Expr) (J:It) (fp:List Addr) (it:Addr) (tn:Nat→Heap→Prop):Prop where
 mem:it∈fp
 obj:∀i h,tn i h→∀b∈fp,∃o,h.get? b=some o∧∀v,o.data≠.cell v
 keep:∀i h h',tn i h→(∀b∈fp,∀o,h.get? b=some o→h'.get? b=some o)→tn i h'
 item:∀(X:Cx),X.prog=P→X.w=w→X.K=K→X.calm=true→∀(i:Nat) (pins:aM) (s:Shared) (σ:St) (H:Hp) (E:aJ),Inv X pins σ H s→(∀b∈fp,jh X pins H b)→tn i s.heap→J.go i H→
  wpAny (model P w) X.A (pyNext (.ref it)) (fun r s1=>∃u,r=some u ∧
   wpAny (model P w) X.A (letOwnedTupleGo tg (.ref it) u) (fun _ s2=>∃x H',Inv X pins σ H' s2∧RelV x u∧J.d6 i H x H'∧tn (i+1) s2.heap∧∀b∈fp,H' b=none) E s1) E s
 done:∀(X:Cx),X.prog=P→X.w=w→X.K=K→X.calm=true→∀(i:Nat) (pins:aM) (s:Shared) (σ:St) (H:Hp) (E:aJ),Inv X pins σ H s→(∀b∈fp,jh X pins H b)→tn i s.heap→J.stop i H→
  wpAny (model P w) X.A (pyNext (.ref it)) (fun r s1=>r=none∧Inv X pins σ H s1) E s
 self:∀(A:Around) (i:Nat) (s:Shared) (Q:aJ) (E:aJ),tn i s.heap→Q (.ref it) s→wpAny (model P w) A (pyIter (.ref it)) Q E s
abbrev TI:=St→Hp→(It→Hp→Prop)→Prop
def Fy(X:Cx)(pins:aM)(σ:St)(tg:Expr)(R:It→Hp→Prop)(nB:Value)(s2:Shared):Prop:=
 ∃(it:Addr) (fp:List Addr) (tn:Nat→Heap→Prop) (J:It) (H':Hp),nB=.ref it∧Inv X pins σ H' s2∧Turn X.prog X.w X.K tg J fp it tn∧tn 0 s2.heap∧(∀b∈fp,jh X pins H' b)∧R J H'
def PI(X:Cx)(tg iter:Expr)(wi:TI):Prop:=
 ∀(pins:aM) (s:Shared) (σ:St) (H:Hp) (R:It→Hp→Prop),Inv X pins σ H s→wi σ H R→
  wpAny (model X.prog X.w) X.A (eval iter X.env) (fun v s1=>wpAny (model X.prog X.w) X.A (pyIter v) (Fy X pins σ tg R) X.xe s1) X.xe s
variable {tg:Expr}
theorem Fz{it:Addr}{o:Obj}{n:String}{vs:Array Value}{Q:Unit→Shared→Prop}(ho:s.heap.get? it=some o)(hc:o.cls=.type n)(hd:o.data=.fields vs)
    (hn:["enumerate","zip","dict_itemiterator","dict_reverseitemiterator","odict_iterator","itertools.zip_longest","itertools.pairwise"].contains n=false) (hQ:Q () s):wpAny M A (letOwnedTupleGo tg (.ref it) u) Q E s:=by
  unfold letOwnedTupleGo
  cases tg <;> first
    | exact dC hQ
    | (cases u <;> first
        | exact dC hQ
        | (refine bG (wpAny_load ho ?_)
           rw [hc,hd];show wpAny M A (if (["enumerate","zip","dict_itemiterator","dict_reverseitemiterator","odict_iterator","itertools.zip_longest","itertools.pairwise"].contains n && vs[0]? == some (rawInt _))=true then _ else _) Q E s
           rw [ar (by intro h;rw [hn,Bool.false_and] at h;cases h)]
           exact dC hQ))
def kS(K:aA)(a:Addr):It:=
 ⟨fun i H=>∃xs x,bh K H a xs∧xs[i]?=some x,fun i H x H'=>H'=H∧∀xs,bh K H a xs→xs[i]?=some x,fun i H=>∃xs,bh K H a xs∧xs.length≤i⟩
def nC(lo:Int)(n:Nat):It:=⟨fun i _=>i<n,fun i H x H'=>H'=H∧x=.int (lo+i),fun i _=>n≤i⟩
variable {K:aA}
theorem MS(a it:Addr):Turn P w K tg (kS K a) [it] it (fun i h=>h.IsListIter it a i) where
 mem:=by simp
 obj:=fun i h st b hb=>by
  have e:b=it:=by simpa using hb
  subst e;obtain ⟨o,e,c,d⟩:=st;exact ⟨o,e,fun v z=>by rw [d] at z;cases z⟩
 keep:=fun i h h' st k=>st.at fun o e=>k it (by simp) o e
 item:=by
  intro X hP hw hK hc i pins s σ H E I hf st hg;subst hP hw hK;obtain ⟨xs,x,hq,hx⟩:=hg;obtain ⟨ai,rv,p,hz⟩:=I.list hq;obtain ⟨u,hu,ru⟩:=rv.get hx;obtain ⟨f0,f1,f2,f3,f4,f5⟩:=hf it (by simp)
  refine wpAny_pyNext_list_item st p.isList (x:=u) (by simpa using hu) fun h' uZ sb=>?_
  have I1:Inv X pins σ H {s with heap:=h'}:=I.turned (t':=s.toks) (fun b o hb e=>(sb.2 b hb).trans e) f0 f1 f3 f4 f5;obtain ⟨o,e,c,d⟩:=id uZ;exact ⟨u,rfl,Fz (s:={s with heap:=h'}) e c d (by decide) ⟨x,H,I1,ru,⟨rfl,fun ys hy=>by rw [I.xC hy hq];exact hx⟩,uZ,fun b hb=>(hf b hb).1⟩⟩
 done:=by
  intro X hP hw hK hc i pins s σ H E I hf st hg;subst hP hw hK;obtain ⟨xs,hq,hx⟩:=hg;obtain ⟨ai,rv,p,hz⟩:=I.list hq;obtain ⟨f0,f1,f2,f3,f4,f5⟩:=hf it (by simp)
  have hl:=rv.length;exact wpAny_pyNext_list_end (I.ok.hd hc) st p.isList (by simp;lia) fun h' eb=>⟨rfl,I.turned (t':=s.toks) (fun b o hb e=>eb b o hb e) f0 f1 f3 f4 f5⟩
 self:=fun _ _ _ _ _ st h=>wpAny_pyIter_listiter st h
theorem MT(it:Addr)(lo:Int)(n:Nat):Turn P w K tg (nC lo n) [it] it (fun i h=>IsRangeIter h it (lo+(i:Nat)*1) ((n:Int)-(i:Nat)) 1) where
 mem:=by simp
 obj:=fun i h st b hb=>by
  have e:b=it:=by simpa using hb
  subst e;exact ⟨_,st,fun v z=>by have z':Data.fields _=Data.cell v:=z;cases z'⟩
 keep:=fun i h h' st k=>k it (by simp) _ st
 item:=by
  intro X hP hw hK hc i pins s σ H E I hf st hg;subst hP hw hK;obtain ⟨f0,f1,f2,f3,f4,f5⟩:=hf it (by simp)
  have W:=Walks.range (prog:=X.prog) (w:=X.w) (I.ok.hd hc) it lo 1 n;refine W.item i s _ _ hg st fun v h' tk hv uZ kk=>?_;obtain ⟨t,rfl⟩:=hv;have I1:Inv X pins σ H {s with heap:=h',toks:=tk}:=I.turned (fun b o hb e=>kk b o (by simpa using hb) e) f0 f1 f3 f4 f5
  refine ⟨_,rfl,Fz (s:={s with heap:=h',toks:=tk}) (n:="range_iterator") uZ rfl rfl (by decide) ⟨.int (lo+i),H,I1,⟨t,?_⟩,⟨rfl,rfl⟩,uZ,fun b hb=>(hf b hb).1⟩⟩
  rw [iC]
 done:=by
  intro X hP hw hK hc i pins s σ H E I hf st hg;subst hP hw hK;obtain ⟨f0,f1,f2,f3,f4,f5⟩:=hf it (by simp)
  exact wpAny_pyNext_range_end (I.ok.hd hc) st (by have:n≤i:=hg;lia) fun h' eb=>⟨rfl,I.turned (t':=s.toks) (fun b o hb e=>eb b o hb e) f0 f1 f3 f4 f5⟩
 self:=fun _ _ _ _ _ st h=>wpAny_pyIter_rangeiter st h
section
variable {X:Cx} {tg:Expr}
def Bl(K:aA)(tl:TE):TI:=fun σ H R=>tl σ H fun x H1=>∃a,x=.ref a∧(∃xs,bh K H1 a xs)∧R (kS K a) H1
theorem eL{l:Expr}{tl:TE}(hl:PE X l tl):PI X tg l (Bl X.K tl):=by
 intro pins s σ H R I h;refine aF (hl pins s σ H _ I h) fun v s1 ⟨x,H1,I1,r1,q1⟩=>?_;obtain ⟨a,e,⟨xs,hq⟩,q⟩:=q1;subst e;cases r1;obtain ⟨ai,rv,p,hz⟩:=I1.list hq;refine wV p.isList ?_;refine ⟨s1.heap.objs.size,[s1.heap.objs.size],_,_,H1,rfl,I1.kept (t':=s1.toks) fun b o e=>b9 _ e,MS a _,⟨_,fc _ rfl,rfl,rfl⟩,fun b hb=>?_,q⟩;have e:b=s1.heap.objs.size:=by simpa using hb
 subst e;exact I1.Bk (aI _) (I1.au.fresh (aI _))
variable {pins:aM}
theorem FA{R:It→Hp→Prop}{lo hi:Int}{t u v:Tok}{tk:Nat}(I:Inv X pins σ H s)(h1:-(2 ^ 62)≤lo)(h2:lo<2 ^ 62)(h3:-(2 ^ 62)≤hi)(h4:hi<2 ^ 62)
  (q:R (nC lo (hi-lo).toNat) H):wpAny (model X.prog X.w) X.A (pyIter (.ref s.heap.objs.size)) (Fy X pins σ tg R) E {s with heap:=s.heap.push {cls:=.type "range",data:=.fields #[.int lo t,.int hi u,.int 1 v]},toks:=tk}:=by
 refine wpAny_pyIter_range (IsRange.new ..) (small_one h1 h2 h3 h4) ?_;have I1:Inv X pins σ H {s with heap:=s.heap.push {cls:=.type "range",data:=.fields #[.int lo t,.int hi u,.int 1 v]},toks:=tk}:=I.kept fun b o e=>b9 _ e
 refine ⟨(s.heap.push {cls:=.type "range",data:=.fields #[.int lo t,.int hi u,.int 1 v]}).objs.size,[(s.heap.push {cls:=.type "range",data:=.fields #[.int lo t,.int hi u,.int 1 v]}).objs.size],_,_,H,rfl,
  I1.kept (t':=tk) fun b o e=>b9 _ e,MT _ lo (hi-lo).toNat,?_,fun b hb=>?_,q⟩
 ·have e1:lo+((0:Nat):Int)*1=lo:=by simp
  have e2:(((hi-lo).toNat:Nat):Int)-((0:Nat):Int)=Builtin.Range.rangeSize lo hi 1:=by rw [rangeSize_one];split <;> lia
  show IsRangeIter _ _ (lo+((0:Nat):Int)*1) ((((hi-lo).toNat:Nat):Int)-((0:Nat):Int)) 1;rw [e1,e2];exact fc _ rfl
 ·have e:b=(s.heap.push {cls:=.type "range",data:=.fields #[.int lo t,.int hi u,.int 1 v]}).objs.size:=by simpa using hb
  subst e;exact I1.Bk (aI _) (I1.au.fresh (aI _))
def MU(ta:TA):TI:=fun σ H R=>ta σ H fun vs H1=>∃j:Int,vs=[.int j]∧-(2 ^ 62)≤j∧j<2 ^ 62∧R (nC 0 j.toNat) H1
def MV(ta:TA):TI:=fun σ H R=>ta σ H fun vs H1=>∃i j:Int,vs=[.int i,.int j]∧(-(2 ^ 62)≤i∧i<2 ^ 62∧-(2 ^ 62)≤j∧j<2 ^ 62)∧R (nC i (j-i).toNat) H1
variable {ta:TA} {p pos:Pos}
theorem gS{a:Expr}(hg:Gl X "range")(hm:X.mg "range"=none)(ha:PA X [a] ta)(hs:starEach [a] X.env=[(false,eval a X.env)]:=by rfl):PI X tg (.Call (.Name "range" p) [a] [] pos) (MU ta):=by
 intro pins s σ H R I h;refine Call_ (rz I hg hm boot_range (wX (aF (ha pos pins s σ H _ I h) fun us s1 ⟨vs,H1,I1,r1,q1⟩=>?_) hs rfl));obtain ⟨j,e,q1,q2,q⟩:=q1;subst e;cases r1 with
 | cons r rr=>cases rr;obtain ⟨t,rfl⟩:=r;exact call_range_1 (FA I1 (by lia) (by lia) q1 q2 (by simpa using q))
theorem MW{a b:Expr}(hg:Gl X "range")(hm:X.mg "range"=none)(ha:PA X [a,b] ta)(hs:starEach [a,b] X.env=[(false,eval a X.env),(false,eval b X.env)]:=by rfl)(kT:starEach [b] X.env=[(false,eval b X.env)]:=by rfl) :
  PI X tg (.Call (.Name "range" p) [a,b] [] pos) (MV ta):=by
 intro pins s σ H R I h;refine Call_ (rz I hg hm boot_range (wX (aF (ha pos pins s σ H _ I h) fun us s1 ⟨vs,H1,I1,r1,q1⟩=>?_) (by rw [hs,kT]) (by rw [kT];rfl)))
 obtain ⟨i,j,e,⟨q1,q2,q3,q4⟩,q⟩:=q1;subst e;cases r1 with
 | cons r rr=>
  cases rr with
  | cons r' rr=>cases rr;obtain ⟨t,rfl⟩:=r;obtain ⟨t',rfl⟩:=r';exact call_range_2 (FA I1 q1 q2 q3 q4 q)
def MX(wi:TI)(g:TG)(tb:TS):TS:=fun D σ H=>wi σ H fun J H1=>∃W:Nat→Nat→St→Hp→Prop,(∃m,W 0 m σ H1)∧∀i m σ H,W i m σ H→
 (J.stop i H∧D.nx σ H)∨(J.go i H∧∃N:St→Hp→Prop,(∀σ' H',N σ' H'→∃m',m'<m∧W (i+1) m' σ' H')∧∀x H',J.d6 i H x H'→g x σ H' fun σ2 H2=>tb {D with nx:=N,ct:=N,bk:=D.nx} σ2 H2)
def gD(fp:List Addr)(h:Heap):List (Addr×Obj):=fp.filterMap fun b=>(h.get? b).map fun o=>(b,o)
variable {fp:List Addr}
theorem ig{o:Obj}(hb:b∈fp)(e:h.get? b=some o):(b,o)∈gD fp h:=List.mem_filterMap.mpr ⟨b,hb,by rw [e];rfl⟩
theorem MY{p:Addr×Obj}(hp:p∈gD fp h):p.1∈fp∧h.get? p.1=some p.2:=by
 obtain ⟨b,hb,e⟩:=List.mem_filterMap.mp hp;cases q:h.get? b with
 | none=>rw [q] at e;cases e
 | some o=>rw [q] at e;have e':(b,o)=p:=Option.some.inj e;subst e';exact ⟨hb,q⟩
theorem Inv.pinned(I:Inv X pins σ H s)(hf:∀b∈fp,jh X pins H b)(ho:∀b∈fp,∃o,s.heap.get? b=some o∧∀v,o.data≠.cell v):Inv X (pins++gD fp s.heap) σ H s:=
 I.Fn fun p hp=>(lC.mp hp).elim (fun z=>I.pin p (cM _ z)) fun z=>by obtain ⟨hb,e⟩:=MY z;obtain ⟨f0,f1,f2,_⟩:=hf p.1 hb;obtain ⟨o,e',d⟩:=ho p.1 hb;rw [e] at e';cases e';exact ⟨e,f0,f1,f2,d⟩
theorem Inv.lX{pl:aM}(I:Inv X (pins++pl) σ H s):Inv X pins σ H s:=I.Fn fun p hp=>I.pin p (cM _ (List.mem_append_left _ hp))
theorem jO{iter:Expr}{body:List Stmt}{wi:TI}{g:TG}{tb:TS}(hp:PassesOwn (model X.prog X.w) X.A X.env X.xe)(hc:X.calm=true)(hi:PI X tg iter wi)(hg:PG X tg g)(hb:eZ X body tb)
  (hs:∀x,foldedSetIterable iter X.env x=pure x:=by intro _;rfl):PS X (.For tg iter body [] pos) (MX wi g tb):=by
 intro pins s σ H D I h;refine wpAny_For (aF (hi pins s σ H _ I h) fun v s1 h1=>aF h1 fun nB s2 h2=>?_) hs;obtain ⟨it,fp,tn,J,H2,e,I2,T,dM,f2,W,⟨m0,w0⟩,turn⟩:=h2;subst e;have dr:∀{H':Hp},(∀b∈fp,H' b=none)→∀b∈fp,jh X pins H' b:=fun hn b hb=>⟨hn b hb,(f2 b hb).2⟩;refine codeAny_forLoop_any (fun n s'=>∃i σ' H',Inv X pins σ' H' s'∧tn i s'.heap∧(∀b∈fp,H' b=none)∧W i n σ' H') ?_ m0 ⟨0,σ,H2,I2,dM,fun b hb=>(f2 b hb).1,w0⟩;rintro n s3 ⟨i,σ3,H3,I3,FC,FD,w3⟩;rcases turn i n σ3 H3 w3 with ⟨stop,qn⟩ | ⟨go,N,hN,step⟩
 ·refine oC hp (aF (T.done X rfl rfl rfl hc i pins s3 σ3 H3 X.xe I3 (dr FD) FC stop) fun r s4 ⟨hr,I4⟩=>?_)
  subst hr;exact qN ⟨σ3,H3,I4,qn⟩
 ·refine oC hp (aF (T.item X rfl rfl rfl hc i pins s3 σ3 H3 X.xe I3 (dr FD) FC go) fun r s4 ⟨u,hr,h4⟩=>?_)
  subst hr;refine oC hp (aF h4 fun _ s5 ⟨x,H5,I5,r5,y5,du,iL⟩=>?_);have iM:=I5.pinned (dr iL) (T.obj _ _ du);refine oC hp (aF (hg _ s5 σ3 H5 x u _ iM r5 (step x H5 y5)) fun _ s6 ⟨σ6,H6,I6,q6⟩=>?_);refine oC hp (aF (hb _ s6 σ6 H6 _ I6 q6) fun f s7 q7=>?_);have again:∀{σ7:St} {H7:Hp},Inv X (pins++gD fp s5.heap) σ7 H7 s7→N σ7 H7→∃m,m<n∧∃i σ' H',Inv X pins σ' H' s7∧tn i s7.heap∧(∀b∈fp,H' b=none)∧W i m σ' H':=fun{σ7 H7} I7 n7=>by obtain ⟨m',hm,w7⟩:=hN σ7 H7 n7;refine ⟨m',hm,i+1,σ7,H7,I7.lX,T.keep _ _ _ du fun b hb o e=>(I7.pin (b,o) (cM _ (cM _ (ig hb e)))).1,fun b hb=>?_,w7⟩;obtain ⟨o,e,d⟩:=T.obj _ _ du b hb;exact (I7.pin (b,o) (cM _ (cM _ (ig hb e)))).2.1
  cases f with
  | next=>obtain ⟨σ7,H7,I7,n7⟩:=q7;exact again I7 n7
  | cont=>obtain ⟨σ7,H7,I7,n7⟩:=q7;exact again I7 n7
  | brk=>obtain ⟨σ7,H7,I7,q7⟩:=q7;exact ⟨σ7,H7,I7.lX,q7⟩
  | ret v=>obtain ⟨x7,σ7,H7,I7,r7,q7⟩:=q7;exact ⟨x7,σ7,H7,I7.lX,r7,q7⟩
end
variable {g:TG} {tb:TS} {D:Ends}
theorem xI(Pv:Nat→St→Hp→Prop)(h0:Pv 0 σ H)(hl:∀i σ H,i≤xs.length→Pv i σ H→bh K H a xs)
  (hs:∀i x σ H,xs[i]?=some x→Pv i σ H→g x σ H fun σ2 H2=>tb {D with nx:=Pv (i+1),ct:=Pv (i+1),bk:=D.nx} σ2 H2) (hd:∀σ H,Pv xs.length σ H→D.nx σ H) :
  ∃W:Nat→Nat→St→Hp→Prop,(∃m,W 0 m σ H)∧∀i m σ H,W i m σ H→
   ((kS K a).stop i H∧D.nx σ H)∨((kS K a).go i H∧∃N:St→Hp→Prop,(∀σ' H',N σ' H'→∃m',m'<m∧W (i+1) m' σ' H')∧∀x H',(kS K a).d6 i H x H'→g x σ H' fun σ2 H2=>tb {D with nx:=N,ct:=N,bk:=D.nx} σ2 H2):=by
 refine ⟨fun i m σ H=>m=xs.length-i∧i≤xs.length∧Pv i σ H,⟨xs.length,by simp,cT _,h0⟩,?_⟩
 rintro i m σ H ⟨rfl,hi,p⟩;have q:=hl i σ H hi p;by_cases cb:i<xs.length
 ·refine .inr ⟨⟨xs,xs[i],q,by simp [cb]⟩,Pv (i+1),fun σ' H' p'=>⟨xs.length-(i+1),by lia,rfl,cb,p'⟩,fun x H' y=>?_⟩
  obtain ⟨e,y⟩:=y;subst e;exact hs i x σ _ (y xs q) p
 ·have e:i=xs.length:=by lia
  subst e;exact .inl ⟨⟨xs,q,aI _⟩,hd σ H p⟩
variable {n:Nat}
theorem u3{lo:Int}(Pv:Nat→St→Hp→Prop)(h0:Pv 0 σ H)
  (hs:∀i σ H,i<n→Pv i σ H→g (.int (lo+i)) σ H fun σ2 H2=>tb {D with nx:=Pv (i+1),ct:=Pv (i+1),bk:=D.nx} σ2 H2) (hd:∀σ H,Pv n σ H→D.nx σ H) :
  ∃W:Nat→Nat→St→Hp→Prop,(∃m,W 0 m σ H)∧∀i m σ H,W i m σ H→
   ((nC lo n).stop i H∧D.nx σ H)∨((nC lo n).go i H∧∃N:St→Hp→Prop,(∀σ' H',N σ' H'→∃m',m'<m∧W (i+1) m' σ' H')∧∀x H',(nC lo n).d6 i H x H'→g x σ H' fun σ2 H2=>tb {D with nx:=N,ct:=N,bk:=D.nx} σ2 H2):=by
 refine ⟨fun i m σ H=>m=n-i∧i≤n∧Pv i σ H,⟨n,by simp,cT _,h0⟩,?_⟩
 rintro i m σ H ⟨rfl,hi,p⟩;by_cases cb:i<n
 ·refine .inr ⟨cb,Pv (i+1),fun σ' H' p'=>⟨n-(i+1),by lia,rfl,cb,p'⟩,fun x H' y=>?_⟩
  obtain ⟨e,y⟩:=y;subst e y;exact hs i σ _ cb p
 ·have e:i=n:=by lia
  subst e;exact .inl ⟨aI _,hd σ H p⟩
abbrev R2:=V→V→Hp→VK→Prop
def b8(X:Cx)(f:Value→Value→Sem Value)(r:R2):Prop:=
 ∀(pins:aM) (s:Shared) (σ:St) (H:Hp) (x y:V) (v u:Value) (Q:VK),Inv X pins σ H s→RelV x v→RelV y u→r x y H Q→
  wpAny (model X.prog X.w) X.A (f v u) (EP X pins σ Q) X.xe s
def Bm(X:Cx)(f:Value→Sem Value)(r:V→Hp→VK→Prop):Prop:=
 ∀(pins:aM) (s:Shared) (σ:St) (H:Hp) (x:V) (v:Value) (Q:VK),Inv X pins σ H s→RelV x v→r x H Q→
  wpAny (model X.prog X.w) X.A (f v) (EP X pins σ Q) X.xe s
def gT(X:Cx)(f:Value)(r:List V→Hp→VK→Prop):Prop:=
 ∀(pins:aM) (s:Shared) (σ:St) (H:Hp) (xs:List V) (us:List Value) (Q:VK),Inv X pins σ H s→Vals xs us→r xs H Q→
  wpAny (model X.prog X.w) X.A (call f us) (EP X pins σ Q) X.xe s
def MZ(X:Cx)(r:V→Hp→(Bool→Hp→Prop)→Prop):Prop:=
 ∀(pins:aM) (s:Shared) (σ:St) (H:Hp) (x:V) (v:Value) (Q:Bool→Hp→Prop),Inv X pins σ H s→RelV x v→r x H Q→
  wpAny (model X.prog X.w) X.A (truthy v) (TP X pins σ Q) X.xe s
def jP(r:R2)(ta tb:TE):TE:=fun σ H Q=>ta σ H fun x H1=>tb σ H1 fun y H2=>r x y H2 Q
def M3(r:V→Hp→VK→Prop)(ta:TE):TE:=fun σ H Q=>ta σ H fun x H1=>r x H1 Q
def rI(C:Int→Int→Prop)(g:Int→Int→V):R2:=fun x y H Q=>∃i j,x=.int i∧y=.int j∧C i j∧Q (g i j) H
def nE(g:Int→Int→V):R2:=fun x y H Q=>∃i j,x=.int i∧y=.int j∧Q (g i j) H
def rU(g:Int→V):V→Hp→VK→Prop:=fun x H Q=>∃i,x=.int i∧Q (g i) H
section
variable {X:Cx} {a b c:Expr} {ta tb tc:TE} {pos:Pos}
variable {f:Value→Value→Sem Value}
theorem Bn(ha:PE X a ta)(hb:PE X b tb){pins:aM}{R:V→V→Hp→Prop}(I:Inv X pins σ H s)
  (h:ta σ H fun x H1=>tb σ H1 fun y H2=>R x y H2) {Q:aJ}
  (hf:∀v u s2 x y H2,Inv X pins σ H2 s2→RelV x v→RelV y u→R x y H2→wpAny (model X.prog X.w) X.A (f v u) Q X.xe s2) :
  wpAny (model X.prog X.w) X.A (eval a X.env) (fun v s₁=>wpAny (model X.prog X.w) X.A (eval b X.env) (fun u s₂=>wpAny (model X.prog X.w) X.A (f v u) Q X.xe s₂) X.xe s₁) X.xe s:=by
 refine aF (ha pins s σ H _ I h) fun v s1 ⟨x,H1,I1,r1,q1⟩=>?_;refine aF (hb pins s1 σ H1 _ I1 q1) fun u s2 ⟨y,H2,I2,r2,q2⟩=>?_;exact hf v u s2 x y H2 I2 r1 r2 q2
theorem av{op:Operator}{r:R2}(ho:b8 X (binaryOp op) r)(ha:PE X a ta)(hb:PE X b tb):PE X (.BinOp a op b pos) (jP r ta tb):=by intro pins s σ H Q I h;exact wpAny_BinOp (Bn ha hb I h fun v u s2 x y H2 I2 rx ry q=>ho pins s2 σ H2 x y v u Q I2 rx ry q)
theorem FE{op:UnaryOp}{r:V→Hp→VK→Prop}(ho:Bm X (unaryOp op) r)(ha:PE X a ta):PE X (.UnaryOp op a pos) (M3 r ta):=by intro pins s σ H Q I h;exact UnaryOp_ (aF (ha pins s σ H _ I h) fun v s1 ⟨x,H1,I1,r1,q1⟩=>ho pins s1 σ H1 x v Q I1 r1 q1)
theorem nF{C:Int→Int→Prop}{g:Int→Int→Int}
  (rule:∀(i j:Int) (t u:Tok) (s:Shared) (Q:aJ) (E:aJ),C i j→Q (.int (g i j) s.toks) {s with toks:=s.toks+1}→wpAny (model X.prog X.w) X.A (f (.int i t) (.int j u)) Q E s) :
  b8 X f (rI C fun i j=>.int (g i j)):=by
 intro pins s σ H x y v u Q I rx ry h;obtain ⟨i,j,rfl,rfl,hc,q⟩:=h;obtain ⟨t,rfl⟩:=rx;obtain ⟨t',rfl⟩:=ry;exact rule i j t t' s _ _ hc ⟨.int (g i j),H,I.tok _,⟨_,rfl⟩,q⟩
theorem FF{g:Int→Int→Int}
  (rule:∀(i j:Int) (t u:Tok) (s:Shared) (Q:aJ) (E:aJ),Q (.int (g i j) s.toks) {s with toks:=s.toks+1}→wpAny (model X.prog X.w) X.A (f (.int i t) (.int j u)) Q E s) :
  b8 X f (nE fun i j=>.int (g i j)):=by
 intro pins s σ H x y v u Q I rx ry h;obtain ⟨i,j,rfl,rfl,q⟩:=h;obtain ⟨t,rfl⟩:=rx;obtain ⟨t',rfl⟩:=ry;exact rule i j t t' s _ _ ⟨.int (g i j),H,I.tok _,⟨_,rfl⟩,q⟩
theorem xJ{g:Int→Int→Bool}
  (rule:∀(i j:Int) (t u:Tok) (s:Shared) (Q:aJ) (E:aJ),Q (.bool (g i j)) s→wpAny (model X.prog X.w) X.A (f (.int i t) (.int j u)) Q E s) :
  b8 X f (nE fun i j=>.bl (g i j)):=by
 intro pins s σ H x y v u Q I rx ry h;obtain ⟨i,j,rfl,rfl,q⟩:=h;obtain ⟨t,rfl⟩:=rx;obtain ⟨t',rfl⟩:=ry;exact rule i j t t' s _ _ ⟨.bl (g i j),H,I,rfl,q⟩
def M4(i j:Int):Prop:=0<j∧j<1073741824
def M5(i j:Int):Prop:=0≤j∧j≤1000000∧i.natAbs<2 ^ 64
def Bo(i j:Int):Prop:=(-(2 ^ 64)<i∧i<2 ^ 64)∨(-(2 ^ 64)<j∧j<2 ^ 64)
theorem Bo.ok{i j:Int}(h:Bo i j):IntMulOk i j:=by
 rcases h with ⟨h1,h2⟩ | ⟨h1,h2⟩;·exact .of_left (intBits_le_64 h1 h2)
 ·exact .of_right (intBits_le_64 h1 h2)
theorem ik:b8 X (binaryOp .Add) (nE fun i j=>.int (i+j)):=FF fun _ _ _ _ _ _ _ q=>add_int q
theorem o5:b8 X (binaryOp .Sub) (nE fun i j=>.int (i-j)):=FF fun _ _ _ _ _ _ _ q=>sub_int q
theorem iN:b8 X (binaryOp .Mult) (rI Bo fun i j=>.int (i*j)):=nF fun _ _ _ _ _ _ _ hc q=>mul_int q hc.ok
theorem FG:b8 X (binaryOp .FloorDiv) (rI M4 fun i j=>.int (i / j)):=nF fun i j _ _ _ _ _ hc q=>by have h1:(0:Int)<j:=hc.1;have h2:j<1073741824:=hc.2;exact floordiv_int (by lia) (by rw [AG i (by lia)];exact q) (.inl (PyProof.noPylong_small (by lia)))
theorem cp:b8 X (binaryOp .Mod) (rI (fun _ j=>0<j) fun i j=>.int (i % j)):=nF fun i j _ _ _ _ _ hc q=>by have h1:(0:Int)<j:=hc;exact mod_int' (by lia) (by rw [Int.fmod_eq_emod_of_nonneg i (by lia)];exact q)
theorem M7:b8 X (binaryOp .Pow) (rI M5 fun i j=>.int (i ^ j.toNat)):=nF fun _ _ _ _ _ _ _ hc q=>pow_int_small hc.1 hc.2.1 hc.2.2 q
theorem M8{f:Value→Sem Value}{g:Int→Int}
  (rule:∀(i:Int) (t:Tok) (s:Shared) (Q:aJ) (E:aJ),Q (.int (g i) s.toks) {s with toks:=s.toks+1}→wpAny (model X.prog X.w) X.A (f (.int i t)) Q E s) :
  Bm X f (rU fun i=>.int (g i)):=by
 intro pins s σ H x v Q I rx h;obtain ⟨i,rfl,q⟩:=h;obtain ⟨t,rfl⟩:=rx;exact rule i t s _ _ ⟨.int (g i),H,I.tok _,⟨_,rfl⟩,q⟩
theorem FH:Bm X (unaryOp .USub) (rU fun i=>.int (-i)):=M8 fun _ _ _ _ _ q=>neg_int q
end
def FI:V→V→Bool
 | .aO,.aO=>true | .aO,.int _=>true | .int _,.aO=>true | .aO,.bl _=>true | .bl _,.aO=>true | .aO,.str _=>true | .str _,.aO=>true
 | .int _,.int _=>true | .bl _,.bl _=>true | .str _,.str _=>true | .h_ _,.h_ _=>true
 | .int _,.str _=>true | .str _,.int _=>true | .bl _,.str _=>true | .str _,.bl _=>true
 | _,_=>false
def xK:R2:=fun x y H Q=>FI x y=true∧Q (.bl (decide (x=y))) H
def M9:R2:=fun x y H Q=>FI x y=true∧Q (.bl (!decide (x=y))) H
theorem FJ{i j:Int}:decide (V.int i=V.int j)=(i == j):=by rw [uE];simp
theorem FK{i j:Bool}:decide (V.bl i=V.bl j)=(i == j):=by rw [uE];simp
theorem FL{i j:Str}:decide (V.str i=V.str j)=(i == j):=by rw [uE];simp
theorem FN{i j:Array UInt8}:decide (V.h_ i=V.h_ j)=(i.toList == j.toList):=by rw [uE];cases i;cases j;simp
section
variable {X:Cx} {a b c:Expr} {ta tb tc:TE} {pos:Pos}
theorem cE{pins:aM}{Q:VK}{k k':Bool}(I:Inv X pins σ H s)(q:Q (.bl k) H)(e:k=k'):EP X pins σ Q (.bool k') s:=by subst e;exact ⟨.bl k,H,I,rfl,q⟩
theorem dN:b8 X (compareOp .Eq) xK:=by
 intro pins s σ H x y v u Q I rx ry h;obtain ⟨hs,q⟩:=h;cases x with
 | aO=>
  cases rx;cases y with
  | aO=>cases ry;exact PySem.EqNone.eq_none_none (cE I q (by simp))
  | bl j=>cases ry;exact PySem.EqNone.eq_none_bool (cE I q (by simp))
  | int j=>obtain ⟨t',rfl⟩:=ry;exact PySem.EqNone.eq_none_int (cE I q (by simp))
  | str j=>obtain ⟨t',rfl⟩:=ry;exact PySem.EqNone.eq_none_str (cE I q (by simp))
  | _=>exact absurd (show false=true from hs) cJ
 | bl i=>
  cases rx;cases y with
  | aO=>cases ry;exact PySem.EqNone.eq_bool_none (cE I q (by simp))
  | bl j=>cases ry;exact eq_bool (cE I q FK)
  | str j=>obtain ⟨t',rfl⟩:=ry;exact PySem.EqMixed.eq_bool_str (cE I q (by simp))
  | _=>exact absurd (show false=true from hs) cJ
 | int i=>
  obtain ⟨t,rfl⟩:=rx;cases y with
  | aO=>cases ry;exact PySem.EqNone.eq_int_none (cE I q (by simp))
  | int j=>obtain ⟨t',rfl⟩:=ry;exact eq_int (cE I q FJ)
  | str j=>obtain ⟨t',rfl⟩:=ry;exact PySem.EqMixed.eq_int_str (cE I q (by simp))
  | _=>exact absurd (show false=true from hs) cJ
 | str i=>
  obtain ⟨t,rfl⟩:=rx;cases y with
  | aO=>cases ry;exact PySem.EqNone.eq_str_none (cE I q (by simp))
  | bl j=>cases ry;exact PySem.EqMixed.eq_str_bool (cE I q (by simp))
  | int j=>obtain ⟨t',rfl⟩:=ry;exact PySem.EqMixed.eq_str_int (cE I q (by simp))
  | str j=>obtain ⟨t',rfl⟩:=ry;exact eq_str (cE I q FL)
  | _=>exact absurd (show false=true from hs) cJ
 | h_ i=>
  obtain ⟨t,rfl⟩:=rx;cases y with
  | h_ j=>obtain ⟨t',rfl⟩:=ry;exact PySem.W.eq_bytes (cE I q FN)
  | _=>exact absurd (show false=true from hs) cJ
 | _=>cases y <;> exact absurd (show false=true from hs) cJ
theorem jQ:b8 X (compareOp .NotEq) M9:=by
 intro pins s σ H x y v u Q I rx ry h;obtain ⟨hs,q⟩:=h;cases x with
 | aO=>
  cases rx;cases y with
  | aO=>cases ry;exact PySem.EqNone.ne_none_none (cE I q (by simp))
  | bl j=>cases ry;exact PySem.EqNone.ne_none_bool (cE I q (by simp))
  | int j=>obtain ⟨t',rfl⟩:=ry;exact PySem.EqNone.ne_none_int (cE I q (by simp))
  | str j=>obtain ⟨t',rfl⟩:=ry;exact PySem.EqNone.ne_none_str (cE I q (by simp))
  | _=>exact absurd (show false=true from hs) cJ
 | bl i=>
  cases rx;cases y with
  | aO=>cases ry;exact PySem.EqNone.ne_bool_none (cE I q (by simp))
  | bl j=>cases ry;exact ne_bool (cE I q (dR not FK))
  | str j=>obtain ⟨t',rfl⟩:=ry;exact PySem.EqMixed.ne_bool_str (cE I q (by simp))
  | _=>exact absurd (show false=true from hs) cJ
 | int i=>
  obtain ⟨t,rfl⟩:=rx;cases y with
  | aO=>cases ry;exact PySem.EqNone.ne_int_none (cE I q (by simp))
  | int j=>obtain ⟨t',rfl⟩:=ry;exact ne_int (cE I q (dR not FJ))
  | str j=>obtain ⟨t',rfl⟩:=ry;exact PySem.EqMixed.ne_int_str (cE I q (by simp))
  | _=>exact absurd (show false=true from hs) cJ
 | str i=>
  obtain ⟨t,rfl⟩:=rx;cases y with
  | aO=>cases ry;exact PySem.EqNone.ne_str_none (cE I q (by simp))
  | bl j=>cases ry;exact PySem.EqMixed.ne_str_bool (cE I q (by simp))
  | int j=>obtain ⟨t',rfl⟩:=ry;exact PySem.EqMixed.ne_str_int (cE I q (by simp))
  | str j=>obtain ⟨t',rfl⟩:=ry;exact ne_str (cE I q (dR not FL))
  | _=>exact absurd (show false=true from hs) cJ
 | h_ i=>
  obtain ⟨t,rfl⟩:=rx;cases y with
  | h_ j=>obtain ⟨t',rfl⟩:=ry;exact PySem.W.ne_bytes (cE I q (dR not FN))
  | _=>exact absurd (show false=true from hs) cJ
 | _=>cases y <;> exact absurd (show false=true from hs) cJ
theorem rC:b8 X (compareOp .Lt) (nE fun i j=>.bl (decide (i<j))):=xJ fun _ _ _ _ _ _ _ q=>lt_int q
theorem xM:b8 X (compareOp .LtE) (nE fun i j=>.bl (decide (i≤j))):=xJ fun _ _ _ _ _ _ _ q=>le_int q
theorem xN:b8 X (compareOp .Gt) (nE fun i j=>.bl (decide (j<i))):=xJ fun _ _ _ _ _ _ _ q=>gt_int q
theorem M_:b8 X (compareOp .GtE) (nE fun i j=>.bl (decide (j≤i))):=xJ fun _ _ _ _ _ _ _ q=>ge_int q
theorem xO:b8 X (compareOp .Is) (fun x y H Q=>y=.aO∧Q (.bl (decide (x=.aO))) H):=by
 intro pins s σ H x y v u Q I rx ry h;obtain ⟨rfl,q⟩:=h;cases ry;refine is_none_gen (cE I q ?_)
 cases x <;> first
  | (cases rx;rfl)
  | (obtain ⟨t,rfl⟩:=rx;rfl)
theorem Na:b8 X (compareOp .IsNot) (fun x y H Q=>y=.aO∧Q (.bl (!decide (x=.aO))) H):=by
 intro pins s σ H x y v u Q I rx ry h;obtain ⟨rfl,q⟩:=h;cases ry;refine isnot_none_gen (cE I q ?_)
 cases x <;> first
  | (cases rx;rfl)
  | (obtain ⟨t,rfl⟩:=rx;rfl)
variable {op:CmpOp}
theorem FO(b:Expr)(h:op≠.In:=by decide)(h2:op≠.NotIn:=by decide):behindInMarks op b=false:=by
 have e1:(op == CmpOp.In)=false:=by cases op <;> first | rfl | exact absurd rfl h
 have e2:(op == CmpOp.NotIn)=false:=by cases op <;> first | rfl | exact absurd rfl h2
 cases b <;> simp [behindInMarks,e1,e2]
variable {r:R2}
theorem Nb(ho:b8 X (compareOp op) r)(ha:PE X a ta)(hb:PE X b tb)(hm:behindInMarks op b=false):PE X (.Compare a [op] [b] pos) (jP r ta tb):=by intro pins s σ H Q I h;exact wpAny_Compare1 (Bn ha hb I h fun v u s2 x y H2 I2 rx ry q=>ho pins s2 σ H2 x y v u Q I2 rx ry q) hm
theorem jR(ho:b8 X (compareOp op) r)(ha:PE X a ta)(hb:PE X b tb)(hm:behindInMarks op b=false:=by exact FO _):PE X (.Compare a [op] [b] pos) (jP r ta tb):=Nb ho ha hb hm
def u4(t:TE):TT:=fun σ H Q=>t σ H fun x H'=>∃k,x=.bl k∧Q k H'
theorem rE(ho:b8 X (compareOp op) r)(ha:PE X a ta)(hb:PE X b tb)(hm:behindInMarks op b=false):PT X (.Compare a [op] [b] pos) (u4 (jP r ta tb)):=by intro pins s σ H Q I h;refine wpAny_isTrue_Compare1 (aF (ha pins s σ H _ I h) fun v s1 ⟨x,H1,I1,r1,q1⟩=>aF (hb pins s1 σ H1 _ I1 q1) fun u s2 ⟨y,H2,I2,r2,q2⟩=>aF (ho pins s2 σ H2 x y v u _ I2 r1 r2 q2) fun c s3 ⟨z,H3,I3,r3,k,e,q3⟩=>?_) hm;subst e;cases r3;exact lE ⟨H3,I3,q3⟩
theorem bJ(ho:b8 X (compareOp op) r)(ha:PE X a ta)(hb:PE X b tb)(hm:behindInMarks op b=false:=by exact FO _):PT X (.Compare a [op] [b] pos) (u4 (jP r ta tb)):=rE ho ha hb hm
def Nc(r r':R2)(ta tb tc:TE):TE:=fun σ H Q=>ta σ H fun x H1=>tb σ H1 fun y H2=>r x y H2 fun z H3=>∃k,z=.bl k ∧
 (if k=true then tc σ H3 fun w' H4=>r' y w' H4 Q else Q (.bl false) H3)
theorem FP{Bp:CmpOp}{r':R2}(ho:b8 X (compareOp op) r)(lP:b8 X (compareOp Bp) r')(ha:PE X a ta)(hb:PE X b tb)(hc:PE X c tc)
  (hm:lastMarks [op,Bp] [b,c]=false:=by with_unfolding_all rfl):PE X (.Compare a [op,Bp] [b,c] pos) (Nc r r' ta tb tc):=by
 intro pins s σ H Q I h;refine Compare_chain (aF (ha pins s σ H _ I h) fun v s1 ⟨x,H1,I1,r1,q1⟩=>chain_link (aF (hb pins s1 σ H1 _ I1 q1) fun u s2 ⟨y,H2,I2,r2,q2⟩=>aF (ho pins s2 σ H2 x y v u _ I2 r1 r2 q2) fun d s3 ⟨z,H3,I3,r3,k,e,q3⟩=>?_)) hm;subst e;cases r3;refine lE ?_;cases k with
 | false=>exact ite_ff ⟨.bl false,H3,I3,rfl,q3⟩
 | true=>exact ite_tt (chain_last (aF (hc pins s3 σ H3 _ I3 q3) fun w' s4 ⟨z',H4,I4,r4,q4⟩=>lP pins s4 σ H4 y z' u w' Q I4 r2 r4 q4))
def FQ(K:aA)(x:V)(H:Hp)(k:Bool):Prop:=
 match x with
 | .aO=>k=false
 | .bl b=>k=b
 | .int i=>k=(i != 0)
 | .str y=>y.length≤sizeLine∧k=((y.length:Int) != 0)
 | .h_ y=>y.size≤sizeLine∧k=((y.size:Int) != 0)
 | .ref p=>(∃xs,bh K H p xs∧k = !xs.isEmpty)∨(∃xs,fG K H p xs∧k = !xs.isEmpty)∨∃ak,H p=some (.dK ak)∧k = !ak.isEmpty
 | _=>False
theorem Nd{κ:Type}{ak:List (κ×V)}{vs:List (κ×Value)}(r:KV ak vs):(!vs.isEmpty) = !ak.isEmpty:=by cases r <;> rfl
theorem FR{ai:List Value}(r:Vals xs ai):(!ai.toArray.isEmpty) = !xs.isEmpty:=by cases r <;> simp
theorem u5:(sizeLine:Nat)<2 ^ 63:=by rw [sizeLine_eq];decide
theorem Nf:MZ X (fun x H Q=>∃k,FQ X.K x H k∧Q k H):=by
 intro pins s σ H x v Q I rx h;obtain ⟨k,e,q⟩:=h;have hl:=u5;have hs:sizeLine=16777216:=sizeLine_eq;cases x with
 | aO=>cases rx;have e':k=false:=e;subst e';exact truthy_none ⟨H,I,q⟩
 | bl b=>cases rx;have e':k=b:=e;subst e';exact lE ⟨H,I,q⟩
 | int i=>obtain ⟨t,rfl⟩:=rx;have e':k=(i != 0):=e;subst e';exact PySem.P.truthy_int ⟨H,I,q⟩
 | str y=>obtain ⟨t,rfl⟩:=rx;obtain ⟨hy,e'⟩:y.length≤sizeLine∧k=((y.length:Int) != 0):=e;subst e';exact PySem.P.truthy_str (by lia) ⟨H,I.tok _,q⟩
 | h_ y=>obtain ⟨t,rfl⟩:=rx;obtain ⟨hy,e'⟩:y.size≤sizeLine∧k=((y.size:Int) != 0):=e;subst e';exact PySem.W.truthy_bytes (by lia) ⟨H,I.tok _,q⟩
 | ref p=>
  cases rx;have e':(∃xs,bh X.K H p xs∧k = !xs.isEmpty)∨(∃xs,fG X.K H p xs∧k = !xs.isEmpty)∨∃ak,H p=some (.dK ak)∧k = !ak.isEmpty:=e;rcases e' with ⟨xs,hx,e'⟩ | ⟨xs,hx,e'⟩ | ⟨ak,hx,e'⟩
  ·subst e'
   obtain ⟨ai,r,pl,hz⟩:=I.list hx;have hlen:=r.length;exact wpAny_truthy_list pl.isList (by simp only [cK];lia) ⟨H,I.tok _,by rw [FR r];exact q⟩
  ·subst e'
   obtain ⟨ai,r,pl,hz⟩:=I.tuple hx;have hlen:=r.length;exact truthy_tuple pl (by simp only [cK];lia) ⟨H,I.tok _,by rw [FR r];exact q⟩
  ·subst e'
   obtain ⟨hz,hS,vs,r,m⟩:ak.length≤sizeLine∧(p == sysModules)=false∧∃vs,KV ak vs∧s.heap.DictOf (gA X.prog X.w) p vs:=I.au p _ hx;have hlen:ak.length=vs.length:=Paired.length r;exact wpAny_truthy_dict hS m (by lia) ⟨H,I.tok _,by rw [Nd r];exact q⟩
 | _=>exact (show False from e).elim
theorem FT(ha:PE X a ta)(he:∀whole,isTrue a X.env whole=(do let v ←whole;standAt a.pos;holding [v] (truthy v))) :
  PT X a (fun σ H Q=>ta σ H fun x H'=>∃k,FQ X.K x H' k∧Q k H'):=by
 intro pins s σ H Q I h
 exact isTrue_plain (aF (ha pins s σ H _ I h) fun v s1 ⟨x,H1,I1,r1,q1⟩=>Nf pins s1 σ H1 x v Q I1 r1 q1) (he _)
theorem vals1(r:Vals [x] us):∃u,us=[u]∧RelV x u:=by
 cases r with
 | cons r1 r2=>cases r2;exact ⟨_,rfl,r1⟩
theorem vals2{y:V}(r:Vals [x,y] us):∃u w',us=[u,w']∧RelV x u∧RelV y w':=by
 cases r with
 | cons r1 r2=>
  cases r2 with
  | cons r3 r4=>cases r4;exact ⟨_,_,rfl,r1,r3⟩
theorem xP:gT X (.builtin "abs") (fun xs H Q=>∃i,xs=[.int i]∧Q (.int (if i<0 then -i else i)) H):=by intro pins s σ H xs us Q I r h;obtain ⟨i,rfl,q⟩:=h;obtain ⟨u,rfl,t,rfl⟩:=vals1 r;exact call_abs_int fun u tk=>⟨.int (if i<0 then -i else i),H,I.tok _,⟨_,rfl⟩,q⟩
theorem Ng(hc:X.calm=true):gT X (.builtin "min") (fun xs H Q=>∃i j,xs=[.int i,.int j]∧Q (.int (if j<i then j else i)) H):=by
 intro pins s σ H xs us Q I r h;obtain ⟨i,j,rfl,q⟩:=h;obtain ⟨u,w',rfl,⟨t,rfl⟩,⟨t',rfl⟩⟩:=vals2 r;refine min_two_ints (I.ok.hd hc) fun h' tk k=>⟨_,H,I.kept k,?_,q⟩;by_cases hj:j<i;·rw [aq hj,aq hj];exact ⟨_,rfl⟩
 ·rw [ar hj,ar hj];exact ⟨_,rfl⟩
end
structure o6 (h:Heap) (x dx C:Addr) (mA:cz):Prop where
 obj:h.get? x=some (PySem.W.instObj C dx)
 ns:h.Ns1 dx mA
 ne:dx≠x
variable {dx:Addr} {mA:cz}
theorem Nh(n:h.Ns1 dx mA):∃od,h.get? dx=some od∧∀name,PySem.W.lookIn name od=some (mA name):=by
 obtain ⟨o,es,ep,ho,hd,hk,_,hm⟩:=n;refine ⟨o,ho,fun name=>?_⟩;have e:=hm name;unfold nsFind findBy at e;rw [←Array.find?_toList] at e;unfold PySem.W.lookIn;rw [hd];dsimp only
 split
 ·rename_i y q
  rw [q] at e;exact dR some e
 ·rename_i q
  rw [q] at e;have a:es.toList.any (·.refKey)=false:=by rw [List.any_eq_false];intro y hy;obtain ⟨z,t,Ni⟩:=hk y (Array.mem_toList_iff.mp hy);simp [DictEntry.refKey,Ni]
  have a':¬es.toList.any (·.refKey)=true:=by rw [a];exact cJ
  rw [ar a'];exact dR some e
variable {C:Addr}
theorem o6.look{x:Addr}(I:o6 h x dx C mA):∃od,PySem.W.InstAt h x (PySem.W.instObj C dx) C (some od)∧∀name,PySem.W.lookIn name od=some (mA name):=
 let ⟨od,ho,hl⟩:=Nh I.ns
 ⟨od,⟨I.obj,rfl,rfl,ho⟩,hl⟩
section
variable {prog:Program} {w:World} {A:Around} {E:aJ} {s:Shared} {K:aA} {x dx C f:Addr} {mA:cz} {name:Str} {v:Value}
theorem get_map{expr:Bool}{Q:aJ}(X:K.In s.heap)(I:o6 s.heap x dx C mA)(hg:PySem.W.plainGet K C name=true)(hh:PySem.W.hasDictIn K C=true)
  (ha:PySem.W.findIn K (.ref C) name=some none) (hv:mA name=some v) (f_:PySem.W.handedIn v=true) (h:Q v {s with toks:=s.toks+1}) :
  wpAny (model prog w) A (getAttr (.ref x) name expr) Q E s:=by
 obtain ⟨od,J,hl⟩:=I.look;exact PySem.W.get_value X J (PySem.W.plainGet_of hg).1 (PySem.W.findObj_own hh ha rfl (by rw [hl,hv])) f_ h
theorem Nj{pl:Sem Bool}{Q:Value×List Value→Shared→Prop}(X:K.In s.heap)(I:o6 s.heap x dx C mA)(hg:PySem.W.plainGet K C name=true)
  (hf:PySem.W.findIn K (.ref C) name=some (some (.ref f))) (ht:PySem.W.isFn K (.ref f)=true) (hv:mA name=none) (h:Q (.ref f,[.ref x]) s) :
  wpAny (model prog w) A (getMethod (.ref x) name pl) Q E s:=by
 obtain ⟨od,J,hl⟩:=I.look;exact PySem.W.method_fn X J (PySem.W.plainGet_of hg).1 (PySem.W.plainGet_of hg).2 hf (kA.mp ht) (by show (PySem.W.lookIn name od).map (·.isSome)=some false;rw [hl,hv];rfl) h
theorem Nk{ns:List Str}{Q:Unit→Shared→Prop}(X:K.In s.heap)(I:o6 s.heap x dx C mA)
  (hs:PySem.W.findIn K (.ref C) "__setattr__"=some (some (.builtin "object.__setattr__"))) (hp:PySem.W.plainOver K C=true) (ht:PySem.W.takerIn K C name=some none) (hh:PySem.W.hasDictIn K C=true)
  (hw:PySem.Within mA ns) (hsz:ns.length≤sizeLine)
  (h:∀h',o6 h' x dx C (fun y=>if y=name then some v else mA y)→Heap.SameBut dx s.heap h'→Q () {s with heap:=h',toks:=s.toks+2}) :
  wpAny (model prog w) A (setAttr (.ref x) name v) Q E s:=by
 obtain ⟨od,J,hl⟩:=I.look;refine PySem.W.set_plain X J hs (PySem.W.osa_open (s:={s with toks:=s.toks+1}) (r:=none) X J hp ht fun b=>?_);obtain ⟨cd,hc,A8⟩:=PySem.W.any_some hh;have hx:s.heap.get? x=some ⟨.ref C,some dx,.plain,#[]⟩:=I.obj;refine bG (dC (bG (bG (wpAny_loadPart hx (bG (PySem.W.Looks.here (s:={s with toks:=s.toks+1}) (PySem.W.looks_clsIn X hc) ?_))))));rw [A8];refine dC (a:=some dx) (bG (dC (bG ?_)));refine wpAny_nsSet1 (s:={s with toks:=s.toks+1}) I.ns fun h' rF kT=>?_;obtain ⟨oD,XB,X1,Nl,Nm,Nn⟩:=rF.count (PySem.Within.cons name v hw);refine bG (wpAny_lookBehind Nl (by rw [Nm];exact pastItsLine_dict (aN Nn (by rw [cx];lia))) ?_)
 exact dC (h _ ⟨(kT.2 _ (Ne.symm I.ne)).trans I.obj,rF,I.ne⟩ kT)
theorem Np{R:Result→Shared→Prop}{vs:List Value}{kw:List (Str×Value)}(X:K.In s.heap)(hm:PySem.W.makesIn K C=true)
  (hi:PySem.W.findIn K (.ref C) "__init__"=some (some (.ref f))) (hf:PySem.W.typeIn K (.ref f)=some (.type "function"))
  (h:codeAny (model prog w) (A.under (.builtin "type.__call__" ⟨.ref C::vs,kw⟩)) (.call (.ref f) ⟨.ref (s.heap.objs.size+1)::vs,kw⟩) (PySem.W.InitBack (s.heap.objs.size+1) R)
   {s with heap:=(s.heap.push PySem.W.emptyDict).push (PySem.W.instObj C s.heap.objs.size)}) :
  codeAny (model prog w) A (.call (.ref C) ⟨vs,kw⟩) R s:=by
 obtain ⟨hh,g,d,t,os⟩:=s;exact PySem.W.make_core (PySem.W.makes_of X hm) (wY X hi) (fun self=>PySem.W.bind_fn X self hf) (.inl rfl) h
end
def gE(f:Str)(v:V):List (Str×V)→List (Str×V)
 | []=>[(f,v)]
 | (g,x)::r=>if g=f then (g,v)::r else (g,x)::gE f v r
theorem FU(f g:Str)(v:V):∀fs:List (Str×V),(gE f v fs).lookup g=if g=f then some v else fs.lookup g
 | []=>by
  show List.lookup g [(f,v)]=_;by_cases h:g=f
  ·have hb:(g == f)=true:=kA.mpr h
   simp only [List.lookup,hb,aq h]
  ·have hb:(g == f)=false:=jC.mpr h
   simp only [List.lookup,hb,ar h]
 | (k,x)::r=>by
  have ih:=FU f g v r;rw [show gE f v ((k,x)::r)=(if k=f then (k,v)::r else (k,x)::gE f v r) from rfl]
  by_cases hk:k=f
  ·rw [aq hk]
   by_cases h:g=k
   ·have hb:(g == k)=true:=kA.mpr h
    simp only [List.lookup,hb,aq (h.trans hk)]
   ·have hb:(g == k)=false:=jC.mpr h
    simp only [List.lookup,hb,ar (fun e:g=f=>h (e.trans hk.symm))]
  ·rw [ar hk]
   by_cases h:g=k
   ·have hb:(g == k)=true:=kA.mpr h
    simp only [List.lookup,hb,ar (fun e:g=f=>hk (h.symm.trans e))]
   ·have hb:(g == k)=false:=jC.mpr h
    simp only [List.lookup,hb];exact ih
theorem Bq(f:Str)(v:V):∀fs:List (Str×V),f∈(gE f v fs).map (·.1)∧∀g,g∈fs.map (·.1)→g∈(gE f v fs).map (·.1)
 | []=>⟨by simp [gE],fun g h=>by simp at h⟩
 | (k,x)::r=>by
  obtain ⟨i1,i2⟩:=Bq f v r;rw [show gE f v ((k,x)::r)=(if k=f then (k,v)::r else (k,x)::gE f v r) from rfl]
  by_cases hk:k=f
  ·rw [aq hk]
   subst hk;exact ⟨by simp,fun g h=>by simpa using h⟩
  ·rw [ar hk]
   refine ⟨?_,fun g h=>?_⟩
   ·rw [gu]
    exact fO _ i1
   ·rw [gu] at h ⊢
    rcases dq.mp h with e | e;·exact dq.mpr (.inl e)
    ·exact fO _ (i2 g e)
theorem FV(f:Str)(v:V):∀fs:List (Str×V),(gE f v fs).length≤fs.length+1
 | []=>by simp [gE]
 | (k,x)::r=>by
  have ih:=FV f v r;rw [show gE f v ((k,x)::r)=(if k=f then (k,v)::r else (k,x)::gE f v r) from rfl]
  by_cases hk:k=f;·rw [aq hk,cx,cx];lia
  ·rw [ar hk,cx,cx];lia
variable {v:V}
theorem ic.some_of{o:Option Value}(r:ic (some v) o):∃u,o=some u∧RelV v u:=by
 cases o with
 | none=>exact (show False from r).elim
 | some u=>exact ⟨u,rfl,r⟩
theorem ic.none_of{o:Option Value}(r:ic none o):o=none:=by
 cases o with
 | none=>rfl
 | some u=>exact (show False from r).elim
theorem Nq(r:RelV v u):PySem.W.handedIn u=true:=by
 cases v with
 | aO=>cases (show u=Value.none from r);rfl
 | bl b=>cases (show u=Value.bool b from r);rfl
 | int i=>obtain ⟨t,e⟩:=(show ∃t,u=Value.int i t from r);cases e;rfl
 | str x=>obtain ⟨t,e⟩:=(show ∃t,u=Value.str x t from r);cases e;rfl
 | h_ b=>obtain ⟨t,e⟩:=(show ∃t,u=Value.bytes b t from r);cases e;rfl
 | jg b=>obtain ⟨t,e⟩:=(show ∃t,u=Value.float b t from r);cases e;rfl
 | ref a=>cases (show u=Value.ref a from r);rfl
 | ty n=>cases (show u=Value.type n from r);rfl
section
variable {P:Program} {w:World} {H H':Hp} {h h':Heap} {a C dx:Addr} {fs A6:List (Str×V)}
theorem xQ(au:bT P w H h)(e:H a=some (.ins C dx fs)):∃mA,o6 h a dx C mA∧(∀f,ic (fs.lookup f) (mA f))∧PySem.Within mA (fs.map (·.1))∧fs.length≤1000∧H dx=some (.own a):=by obtain ⟨d,z,ne,ob,mA,n,r,q⟩:=(show cC P w H h a (.ins C dx fs) from au a _ e);exact ⟨mA,⟨ob,n,ne⟩,r,q,z,d⟩
end
structure jS (K:aA) (C:Addr):Prop where
 pg:PySem.W.plainGet K C Str.empty=true
 hd:PySem.W.hasDictIn K C=true
 po:PySem.W.plainOver K C=true
 sa:PySem.W.findIn K (.ref C) "__setattr__"=some (some (.builtin "object.__setattr__"))
theorem jS.get{K:aA}{C:Addr}(c:jS K C)(f:Str):PySem.W.plainGet K C f=true:=c.pg
def o7(K:aA)(C:Addr)(f:Str):Prop:=PySem.W.findIn K (.ref C) f=some none
theorem o7.Nr{f:Str}(n:o7 K C f):PySem.W.takerIn K C f=some none:=by unfold PySem.W.takerIn;rw [show PySem.W.findIn K (.ref C) f=some none from n];rfl
structure Meth (K:aA) (C:Addr) (m:Str) (f:Addr):Prop where
 at_:PySem.W.findIn K (.ref C) m=some (some (.ref f))
 fn:PySem.W.isFn K (.ref f)=true
 kp:PySem.W.keepIn K (.ref f)=true
section
variable {X:Cx} {pins:aM} {σ:St} {H:Hp} {s:Shared} {a C dx:Addr} {fs:List (Str×V)} {f:Str} {v:V} {A:Around} {E:aJ}
variable {Q:aJ}
theorem Nt{b:Bool}(I:Inv X pins σ H s)(e:H a=some (.ins C dx fs))(c:jS X.K C)(n:o7 X.K C f)(l:fs.lookup f=some v)
  (h:∀u s',Inv X pins σ H s'→RelV v u→Q u s'):wpAny (model X.prog X.w) A (getAttr (.ref a) f b) Q E s:=by
 obtain ⟨mA,O,r,_,_,_⟩:=xQ I.au e;obtain ⟨u,hu,ru⟩:=ic.some_of (v:=v) (o:=mA f) (by rw [←l];exact r f)
 exact get_map I.cO O (c.get f) c.hd n hu (Nq ru) (h u _ (I.tok _) ru)
theorem FW{m:Str}{g:Addr}{pl:Sem Bool}{Q:Value×List Value→Shared→Prop}(I:Inv X pins σ H s)(e:H a=some (.ins C dx fs))(c:jS X.K C)(k:Meth X.K C m g)(l:fs.lookup m=none)
  (h:Q (.ref g,[.ref a]) s):wpAny (model X.prog X.w) A (getMethod (.ref a) m pl) Q E s:=by
 obtain ⟨mA,O,r,_,_,_⟩:=xQ I.au e;have hn:mA m=none:=ic.none_of (by rw [←l];exact r m)
 exact Nj I.cO O (c.get m) k.at_ k.fn hn h
theorem Nu{y:V}{Q:Unit→Shared→Prop}(I:Inv X pins σ H s)(e:H a=some (.ins C dx fs))(c:jS X.K C)(n:o7 X.K C f)(hl:fs.length<1000)(ry:RelV y u)
  (h:∀s',Inv X pins σ (upd H a (.ins C dx (gE f y fs))) s'→Q () s'):wpAny (model X.prog X.w) A (setAttr (.ref a) f u) Q E s:=by
 obtain ⟨mA,O,r,wi,_,ho⟩:=xQ I.au e;have hz:(fs.map (·.1)).length≤sizeLine:=by rw [aD,sizeLine_eq];lia
 refine Nk I.cO O c.sa c.po n.Nr c.hd wi hz fun h' O' sb=>h _ ?_;have hd:∃o,h'.get? dx=some o:=let ⟨o,_,_,e',_⟩:=O'.ns;⟨o,e'⟩
 refine I.write (x:=a) (e:=dx) (by rw [e];exact True.intro) (.inr ho) (fun b q hb z=>(sb.2 b hb).trans z) hd ?_
 refine ⟨by rw [aH O.ne];exact ho,?_,O.ne,O'.obj,_,O'.ns,fun g=>?_,fun g hg=>?_⟩
 ·have:=FV f y fs;lia
 ·show ic ((gE f y fs).lookup g) (if g=f then some u else mA g)
  rw [FU];by_cases q:g=f;·rw [aq q,aq q];exact ry
  ·rw [ar q,ar q];exact r g
 ·by_cases q:g=f
  ·rw [q];exact (Bq f y fs).1
  ·refine (Bq f y fs).2 g (wi g fun z=>hg ?_)
   show (if g=f then some u else mA g)=none
   rw [ar q];exact z
theorem Inv.made(I:Inv X pins σ H s):Inv X pins σ (upd (upd H s.heap.objs.size (.own (s.heap.objs.size+1))) (s.heap.objs.size+1) (.ins C s.heap.objs.size []))
  {s with heap:=(s.heap.push PySem.W.emptyDict).push (PySem.W.instObj C s.heap.objs.size)}:=by
 have e1:(s.heap.push PySem.W.emptyDict).get? s.heap.objs.size=some PySem.W.emptyDict:=fc s.heap rfl;have e2:((s.heap.push PySem.W.emptyDict).push (PySem.W.instObj C s.heap.objs.size)).get? (s.heap.objs.size+1)=some (PySem.W.instObj C s.heap.objs.size):=by
  have:=fc (s.heap.push PySem.W.emptyDict) (o:=PySem.W.instObj C s.heap.objs.size) rfl
  rwa [qP] at this
 have e3:(s.heap.push PySem.W.emptyDict).Ns s.heap.objs.size (fun _=>none):=⟨PySem.W.emptyDict,#[],_,e1,rfl,(fun e he=>absurd he (by simp)),fun _=>rfl⟩
 have I1:=I.laid (a:=s.heap.objs.size) (o:=.own (s.heap.objs.size+1)) (h':=s.heap.push PySem.W.emptyDict) (t':=s.toks) (fun b u q=>b9 _ q) (aI _) ⟨_,e1⟩;refine I1.laid (a:=s.heap.objs.size+1) (o:=.ins C s.heap.objs.size []) (t':=s.toks) (fun b u q=>b9 _ q) (qQ (qP _ _)) ?_;have ne:s.heap.objs.size≠s.heap.objs.size+1:=dB (qR _);refine ⟨by rw [aH ne,aB],cT _,ne,e2,fun _=>none,(Heap.Ns1.of_empty e3).at fun o q=>b9 _ q,fun _=>True.intro,fun y hy=>absurd rfl hy⟩
theorem Nv{prog:Program}{env:Env}{e:Expr}{pos:Pos}(hb:attributeBase e f env (eval e env)=eval e env)
  (h:wpAny (model prog w) A (eval e env) (fun o s₁=>wpAny (model prog w) A (getAttr o f true) Q E s₁) E s):wpAny (model prog w) A (eval (.Attribute e f pos) env) Q E s:=
 Attribute_any_ h (by rw [arm_eval_Attribute,hb])
end
def FX(K:aA)(ta:TE)(f:Str):TE:=fun σ H Q=>ta σ H fun x H1=>∃a C dx fs v,x=.ref a∧H1 a=some (.ins C dx fs)∧jS K C∧o7 K C f∧fs.lookup f=some v∧Q v H1
def Nw(K:aA)(ta tv:TE)(f:Str):TS:=fun D σ H=>tv σ H fun y H1=>ta σ H1 fun x H2=>∃a C dx fs,x=.ref a∧H2 a=some (.ins C dx fs)∧jS K C∧o7 K C f∧fs.length<1000 ∧
 D.nx σ (upd H2 a (.ins C dx (gE f y fs)))
section
variable {X:Cx} {o e value:Expr} {f:Str} {pos pos' xR:Pos} {ta tv:TE}
theorem lZ(he:PE X e ta)(hb:attributeBase e f X.env (eval e X.env)=eval e X.env):PE X (.Attribute e f pos) (FX X.K ta f):=by intro pins s σ H Q I h;refine Nv hb (aF (he pins s σ H _ I h) fun u s1 ⟨x,H1,I1,rx,a,C,dx,fs,v,ex,ea,c,n,l,q⟩=>?_);subst ex;obtain rfl:u=Value.ref a:=rx;exact Nt I1 ea c n l fun u' s2 I2 ru=>⟨v,H1,I2,ru,q⟩
theorem FY(ha:PE X o ta)(hv:PE X value tv)(hs:swapsWith value (some (.Attribute o f pos')) pos.line X.env=pure false):PS X (.Assign [.Attribute o f pos'] value pos) (Nw X.K ta tv f):=by intro pins s σ H D I h;refine plainObj_wpAny_Assign_Attribute (aF (hv pins s σ H _ I h) fun u s1 ⟨y,H1,I1,ry,q⟩=>aF (ha pins s1 σ H1 _ I1 q) fun ov s2 ⟨x,H2,I2,rx,a,C,dx,fs,ex,ea,c,n,l,q2⟩=>?_) hs;subst ex;obtain rfl:ov=Value.ref a:=rx;exact Nu I2 ea c n l ry fun s3 I3=>⟨σ,_,I3,q2⟩
theorem X2{pl:Sem Bool}{m:Str}{apos:Pos}{args:List Expr}{pins:aM}{Q:aJ}{te:TE}(he:PE X e te)(I:Inv X pins σ H s)
  (h:te σ H fun x H1=>∃a C dx fs g,x=.ref a∧H1 a=some (.ins C dx fs)∧jS X.K C∧Meth X.K C m g∧fs.lookup m=none ∧
   ∀s1,Inv X pins σ H1 s1→wpAny (model X.prog X.w) X.A (callWith pos (.ref g) [.ref a] (backTo pos (starEach args X.env)) (backToKw pos (keywordEach [] X.env))) Q X.xe s1)
  (ht:eval (.Call (.Attribute e m apos) args [] pos) X.env=(do
   let ov ←eval e X.env
   standAt apos.atName
   let (f,first) ←holding [ov] (getMethod ov m pl)
   callWith pos f first (backTo pos (starEach args X.env)) (backToKw pos (keywordEach [] X.env)))) :
  wpAny (model X.prog X.w) X.A (eval (.Call (.Attribute e m apos) args [] pos) X.env) Q X.xe s:=by
 refine PySem.W.methodCall_KW (pl:=pl) (aF (he pins s σ H _ I h) fun u s1 ⟨x,H1,I1,rx,a,C,dx,fs,g,ex,ea,c,k,l,q⟩=>?_) ht
 subst ex
 obtain rfl:u=Value.ref a:=rx
 exact FW I1 ea c k l (q s1 I1)
end
section
variable {X:Cx} {pins:aM} {σ:St} {H:Hp} {s:Shared} {A:Around} {E:aJ} {Q:aJ} {c:Value} {b:Bool}
inductive iO (K:aA) (H:Hp):V→Value→Prop where
 | aO:iO K H .aO (.type "NoneType")
 | bl (x:Bool):iO K H (.bl x) (.type "bool")
 | int (i:Int):iO K H (.int i) (.type "int")
 | str (x:Str):iO K H (.str x) (.type "str")
 | jg (x:UInt64):iO K H (.jg x) (.type "float")
 | lst {a:Addr} {xs:List V} (e:H a=some (.lst xs)):iO K H (.ref a) (.type "list")
 | fh {a:Addr} {o:Obj} {xs:List V} (e:H a=some (.fh o (.lst xs))):iO K H (.ref a) (.type "list")
 | tup {a:Addr} {xs:List V} (e:H a=some (.tup xs)):iO K H (.ref a) (.type "tuple")
 | dK {a:Addr} {ak:List (Key×V)} (e:H a=some (.dK ak)):iO K H (.ref a) (.type "dict")
 | dT {a:Addr} {ak:List (List Key×V)} (e:H a=some (.dT ak)):iO K H (.ref a) (.type "dict")
 | ins {a C dx:Addr} {fs:List (Str×V)} (e:H a=some (.ins C dx fs)) (cl:jS K C) (ha:PySem.W.findIn K (.ref C) "__class__"=some (some (.builtin "object.__class__")))
   (hn:PySem.W.specialIn K (.builtin "object.__class__") "__get__"=some (some (.builtin "getset_descriptor.__get__"))) (FZ:PySem.W.takesIn K (.builtin "object.__class__")=some true)
   (hm:PySem.W.mroIn K C (.type "object")=some true):iO K H (.ref a) (.ref C)
theorem Nx{t:Value}(I:Inv X pins σ H s)(rx:RelV x u)(ty:iO X.K H x t)(e:PySem.W.kitOne X.K t c=some b)(h:∀tk,Q (.bool b) {s with toks:=tk}) :
  wpAny (model X.prog X.w) A (call (.builtin "isinstance") [u,c]) Q E s:=by
 cases ty with
 | aO=>cases (show u=Value.none from rx);exact iD PySem.W.kitx_none I.cO True.intro e (fun z=>nomatch z) h
 | bl y=>cases (show u=Value.bool y from rx);exact iD PySem.W.kitx_bool I.cO True.intro e (fun z=>nomatch z) h
 | int i=>obtain ⟨t,q⟩:=(show ∃t,u=Value.int i t from rx);cases q;exact iD PySem.W.kitx_int I.cO True.intro e (fun z=>nomatch z) h
 | str y=>obtain ⟨t,q⟩:=(show ∃t,u=Value.str y t from rx);cases q;exact iD PySem.W.kitx_str I.cO True.intro e (fun z=>nomatch z) h
 | jg y=>obtain ⟨t,q⟩:=(show ∃t,u=Value.float y t from rx);cases q;exact iD PySem.W.kitx_float I.cO True.intro e (fun z=>nomatch z) h
 | @lst a xs ea=>cases (show u=Value.ref a from rx);obtain ⟨_,_,n,_,h1⟩:=(show cC X.prog X.w H s.heap a (.lst xs) from I.au a _ ea);exact iD PySem.W.kitx_list I.cO ⟨_,h1,rfl⟩ e (fun z=>nomatch z) h
 | @fh a ob xs ea=>cases (show u=Value.ref a from rx);obtain ⟨_,_,_,n,_,h1⟩:=(show cC X.prog X.w H s.heap a (.fh ob (.lst xs)) from I.au a _ ea);exact iD PySem.W.kitx_list I.cO ⟨_,h1,rfl⟩ e (fun z=>nomatch z) h
 | @tup a xs ea=>cases (show u=Value.ref a from rx);obtain ⟨_,_,_,p⟩:=(show cC X.prog X.w H s.heap a (.tup xs) from I.au a _ ea);obtain ⟨o,h1,h2,_⟩:=p;exact iD PySem.W.kitx_tuple I.cO ⟨o,h1,h2⟩ e (fun z=>nomatch z) h
 | @dK a ak ea=>cases (show u=Value.ref a from rx);obtain ⟨_,_,vs,_,p⟩:=(show cC X.prog X.w H s.heap a (.dK ak) from I.au a _ ea);obtain ⟨o,es,ep,h1,h2,_⟩:=p;exact iD PySem.W.kitx_dict I.cO ⟨o,h1,h2.1⟩ e (fun z=>nomatch z) h
 | @dT a ak ea=>cases (show u=Value.ref a from rx);obtain ⟨_,_,xs,_,o,es,ep,h1,h2,_⟩:=(show cC X.prog X.w H s.heap a (.dT ak) from I.au a _ ea);exact iD PySem.W.kitx_dict I.cO ⟨o,h1,h2.1⟩ e (fun z=>nomatch z) h
 | @ins a C dx fs ea cl ha hn FZ hm=>cases (show u=Value.ref a from rx);obtain ⟨mA,O,_⟩:=xQ I.au ea;obtain ⟨od,J,_⟩:=O.look;exact iD (PySem.W.kitx_own (cl.get _) cl.hd ha hn FZ hm) I.cO J e (fun z=>nomatch z) h
end
structure cF (k:Nat) (A:Around):Prop where
 hd:A.handled=none
 dp:A.depth+3*k+5<recursionLimit
 un:A.units+16*k+200<cLine
variable {k:Nat}
theorem cF.mono{j:Nat}(r:cF k A)(h:j≤k):cF j A:=⟨r.hd,by have:=r.dp;lia,by have:=r.un;lia⟩
theorem cF.deeper(r:cF (k+1) A)(env:Env):cF k (A.deeper env):=
 ⟨r.hd,by have:=r.dp;show A.depth+1+3*k+5<_;lia,by have:=r.un;show A.units+3+16*k+200<_;lia⟩
variable {kw:List (Str×Value)}
theorem Ny:(A.under (.builtin "type.__call__" ⟨.ref C::us,kw⟩)).depth=A.depth+1:=by first | rfl | simp [Around.under,Code.weight,Code.isCreation,Code.isGuard,Code.isCaller,Code.frames,Code.isFrame,guardIds]
theorem Nz:(A.under (.builtin "type.__call__" ⟨.ref C::us,kw⟩)).units=A.units+1:=by first | rfl | simp [Around.under,Code.cUnits,Code.frames,Code.isFrame]
theorem cF.make(r:cF (k+1) A)(C:Addr)(us:List Value)(kw:List (Str×Value)):cF k (A.under (.builtin "type.__call__" ⟨.ref C::us,kw⟩)):=
 ⟨r.hd,by have:=r.dp;rw [Ny];lia,by have:=r.un;rw [Nz];lia⟩
theorem cF.depth(r:cF k A):A.depth<recursionLimit:=by have:=r.dp;lia
theorem cF.units(r:cF k A):A.units+64<cLine:=by have:=r.un;lia
theorem cF.NA(r:cF k A):A.units<cLine:=by have:=r.un;lia
def xS:TA:=fun _ H Q=>Q [] H
def o8(ta:TE)(tr:TA):TA:=fun σ H Q=>ta σ H fun x H1=>tr σ H1 fun xs H2=>Q (x::xs) H2
section
variable {X:Cx} {e:Expr} {es:List Expr} {te:TE} {t:TA} {pos:Pos}
theorem ag:PA X [] xS:=fun _ _ _ _ H Q I h=>Calls.spliced_nil ⟨[],H,I,.nil,h⟩
theorem NB(ha:PE X e te)(hr:PA X es t)(hs:starEach (e::es) X.env=(false,eval e X.env)::starEach es X.env:=by rfl):PA X (e::es) (o8 te t):=by intro pos pins s σ H Q I h;rw [hs];show wpAny _ _ (spliced ((false,eval e X.env)::backTo pos (starEach es X.env))) _ _ s;refine Calls.spliced_cons (aF (ha pins s σ H _ I h) fun u s1 ⟨x,H1,I1,r1,q1⟩=>?_);exact aF (hr pos pins s1 σ H1 _ I1 q1) fun us s2 ⟨xs,H2,I2,r2,q2⟩=>⟨x::xs,H2,I2,.cons r1 r2,q2⟩
def F1(t:TA):TE:=fun σ H Q=>t σ H fun xs H1=>xs.length≤sizeLine∧∀p,H1 p=none→Q (.ref p) (upd H1 p (.tup xs))
def F2(t:TA):TE:=fun σ H Q=>t σ H fun xs H1=>xs.length≤sizeLine∧∀p,H1 p=none→Q (.ref p) (upd H1 p (.lst xs))
theorem gF{x1}(h:PA X es t):PE X (.Tuple es x1 pos) (F1 t):=by
 intro pins s σ H Q I hq;refine wpAny_Tuple_spliced (aF (h pos pins s σ H _ I hq) fun us s1 ⟨xs,H1,I1,r,z,q⟩=>⟨by rw [←r.length];exact z,?_⟩)
 have hf:H1 s1.heap.objs.size=none:=I1.au.fresh (aI _);refine ⟨.ref s1.heap.objs.size,upd H1 s1.heap.objs.size (.tup xs),I1.laid (t':=s1.toks) (fun b u e=>b9 _ e) (aI _) ?_,rfl,q _ hf⟩;exact ⟨z,us,r,⟨_,fc _ rfl,rfl,_,rfl⟩⟩
theorem dD(h:PA X es t):PE X (.List es pos) (F2 t):=by
 intro pins s σ H Q I hq;refine wpAny_List_spliced (aF (h pos pins s σ H _ I hq) fun us s1 ⟨xs,H1,I1,r,z,q⟩=>⟨by rw [←r.length];exact z,?_⟩)
 have hf:H1 s1.heap.objs.size=none:=I1.au.fresh (aI _);refine ⟨.ref s1.heap.objs.size,upd H1 s1.heap.objs.size (.lst xs),I1.laid (t':=s1.toks) (fun b u e=>b9 _ e) (aI _) ?_,rfl,q _ hf⟩;exact ⟨z,us,0,r,fc _ rfl⟩
end
abbrev Sp:=List V→Hp→VK→XK→Prop
abbrev gc:=List Env→Hp→Shared→XK→Value→Shared→Prop
structure o9 (P:Program) (w:World) (K:aA) (mg:cz) (base:Heap) (A:Around) (outer:List Env) (s:Shared) (H:Hp):Prop where
 frames:A.frames=some outer
 mod:Mod K mg base
 bs:∀b o,base.get? b=some o→s.heap.get? b=some o∧H b=none
 fj:base.objs.size≤s.heap.objs.size
 iI:s.heap.FunFrames base outer
 kJ:∀b∈b7 outer,H b=none
 au:bT P w H s.heap
 bare:AllBare s.gens
def CE(outer:List Env)(P:Program)(w:World)(H:Hp)(s:Shared)(Q:VK)(u:Value)(s':Shared):Prop:=
 ∃v H',s'.os=s.os∧AllBare s'.gens∧Un (b7 outer) [] H H' s.heap s'.heap∧bT P w H' s'.heap∧RelV v u∧Q v H'
def CR(CX:gc)(outer:List Env)(P:Program)(w:World)(H:Hp)(s:Shared)(Q:VK)(E:XK)(r:Result)(s':Shared):Prop:=
 match r with
 | .ok (.ret u)=>CE outer P w H s Q u s'
 | .ok _=>False
 | .error e=>CX outer H s E e s'
structure aT (P:Program) (w:World) (K:aA) (mg:cz) (base:Heap) (CX:gc) (k:Nat) (f:Addr) (fd:FuncData) (ps:List Str) (sp:Sp):Prop where
 len:∀vs H Q E,sp vs H Q E→vs.length=ps.length
 run:∀(A:Around) (outer:List Env) (s:Shared) (H:Hp) (args:Args) (us:List Value) (vs:List V) (Q:VK) (E:XK),cF k A→o9 P w K mg base A outer s H→BindsTo s fd args (ps.zip us)→Vals vs us→sp vs H Q E→
  codeAny (model P w) A (.call (.ref f) args) (CR CX outer P w H s Q E) s
variable {mg:cz} {base:Heap} {outer:List Env}
theorem o9.make(e:o9 P w K mg base A outer s H)(C:Addr)(us:List Value)(kw:List (Str×Value)) :
  o9 P w K mg base (A.under (.builtin "type.__call__" ⟨.ref C::us,kw⟩)) outer s H:=⟨by first | exact e.frames | (simpa [Around.under,Code.envs,Code.isFrame,pushEnvs] using e.frames),e.mod,e.bs,e.fj,e.iI,e.kJ,e.au,e.bare⟩
section
variable {X:Cx} {pins:aM} {σ:St} {H:Hp} {s s':Shared}
theorem Inv.Br(I:Inv X pins σ H s):o9 X.prog X.w X.K X.mg X.base X.A X.stack s H:=
 ⟨I.ok.frames,I.ok.mod,I.bs,aN I.ok.fj I.sz,I.stack,I.m9,I.au,I.bare⟩
theorem Inv.after{Q:VK}(I:Inv X pins σ H s)(h:CE X.stack X.prog X.w H s Q u s'):EP X pins σ Q u s':=by obtain ⟨v,H',os,bare,un,au,r,q⟩:=h;obtain ⟨hh,g,d,t,NC⟩:=s';obtain rfl:NC=s.os:=os;exact ⟨v,H',I.call (h':=hh) (g':=g) (d':=d) (t':=t) (ch:=[]) un au bare (fun b z=>absurd z (by simp)),r,q⟩
end
def F3(sp:Sp)(cX:List V)(E:XK)(t:TA):TE:=fun σ H Q=>t σ H fun vs H1=>sp (vs++cX) H1 Q E
def ND(C:Addr)(m:Str)(sp:Sp)(cX:List V)(E:XK)(ta:TE)(t:TA):TE:=fun σ H Q=>ta σ H fun x H1=>∃a dx fs,x=.ref a∧H1 a=some (.ins C dx fs)∧fs.lookup m=none ∧
 t σ H1 fun vs H2=>sp (x::(vs++cX)) H2 Q E
def NF(C:Addr)(sp:Sp)(cX:List V)(E:XK)(t:TA):TE:=fun σ H Q=>t σ H fun vs H1=>∀x dx,H1 x=none→H1 dx=none→dx≠x→
 sp (.ref x::(vs++cX)) (upd (upd H1 dx (.own x)) x (.ins C dx [])) (fun v H2=>v=.aO∧Q (.ref x) H2) E
def Binds(K:aA)(fd:FuncData)(ps:List Str)(ds:List Value):Prop:=
 ∀(s:Shared) (us:List Value),K.In s.heap→(us++ds).length=ps.length→BindsTo s fd ⟨us,[]⟩ (ps.zip (us++ds))
variable {ps:List Str}
theorem Binds.all{fd:FuncData}(h:∀us:List Value,us.length=ps.length→bindArgs fd ⟨us,[]⟩=pure (ps.zip us)):Binds K fd ps []:=fun s us _ hl=>by rw [wZ] at hl ⊢;exact .of_eq (h us hl)
def Passes(CX:gc)(X:Cx)(E:XK):Prop:=∀(pins:aM) (σ:St) (H:Hp) (s:Shared) (e:Value) (s':Shared),Inv X pins σ H s→CX X.stack H s E e s'→X.xe e s'
section
variable {X:Cx} {CX:gc} {k:Nat} {f C:Addr} {fd:FuncData} {ps:List Str} {sp:Sp} {cX:List V} {ds:List Value} {E:XK} {x m:Str} {p pos apos:Pos} {e o:Expr} {es:List Expr} {ta:TE} {t:TA}
variable {pins:aM} {Q:VK}
theorem F4{vs:List V}(F:aT X.prog X.w X.K X.mg X.base CX k f fd ps sp)(hr:cF k X.A)(hb:Binds X.K fd ps ds)(hd:Vals cX ds)(hx:Passes CX X E)
  (I:Inv X pins σ H s) (r:Vals vs us) (h:sp (vs++cX) H Q E):wpAny (model X.prog X.w) X.A (call (.ref f) us) (EP X pins σ Q) X.xe s:=by
 have r2:Vals (vs++cX) (us++ds):=r.append hd;have hl:(us++ds).length=ps.length:=by rw [←r2.length];exact F.len _ _ _ _ h
 refine wpAny_call (uF (F.run X.A X.stack s H ⟨us,[]⟩ (us++ds) (vs++cX) Q E hr I.Br (hb s us I.cO hl) r2 h) fun r s' hq=>?_);cases r with
 | error e=>exact hx pins σ H s e s' I hq
 | ok fl=>
  cases fl with
  | ret u=>exact I.after hq
  | next=>exact False.elim hq
  | brk=>exact False.elim hq
  | cont=>exact False.elim hq
theorem NG(F:aT X.prog X.w X.K X.mg X.base CX k f fd ps sp)(hr:cF k X.A)(hg:Gl X x)(hm:X.mg x=some (.ref f))(hk:PySem.W.keepIn X.K (.ref f)=true)(hb:Binds X.K fd ps ds)(hd:Vals cX ds)(hx:Passes CX X E)
  (ha:PA X (e::es) t) (jT:(x == ("__debug__":Str))=false:=by decide) (he:starEach (e::es) X.env=(false,eval e X.env)::starEach es X.env:=by rfl) (il:(backTo pos (starEach es X.env)).any (·.1)=false:=by rfl) :
  PE X (.Call (.Name x p) (e::es) [] pos) (F3 sp cX E t):=by
 intro pins s σ H Q I h;refine uH (rq I hg hm ?_ jT);refine w5 (h₀:=X.base) I.ok.mod.cD hk (aF (ha pos pins s σ H _ I h) fun us s1 ⟨vs,H1,I1,r,q⟩=>⟨I1.cO,?_⟩) he il;exact F4 F hr hb hd hx I1 r q
theorem aQ{j:Nat}(F:aT X.prog X.w X.K X.mg X.base CX k f fd ps sp)(hr:cF j X.A)(hm:X.mg x=some (.ref f))(hk:PySem.W.keepIn X.K (.ref f)=true)(hb:Binds X.K fd ps [])(hx:Passes CX X E)
  (ha:PA X (e::es) t) (hj:k≤j:=by decide) (hg:Gl X x:=by exact rfl) (jT:(x == ("__debug__":Str))=false:=by decide) (he:starEach (e::es) X.env=(false,eval e X.env)::starEach es X.env:=by rfl) (il:(backTo pos (starEach es X.env)).any (·.1)=false:=by rfl) :
  PE X (.Call (.Name x p) (e::es) [] pos) (F3 sp [] E t):=NG F (hr.mono hj) hg hm hk hb .nil hx ha jT he il
theorem l5{pl:Sem Bool}(he:PE X o ta)(c:jS X.K C)(hm:Meth X.K C m f)(F:aT X.prog X.w X.K X.mg X.base CX k f fd ps sp)(hr:cF k X.A)(hb:Binds X.K fd ps ds)(hd:Vals cX ds)(hx:Passes CX X E)(ha:PA X (e::es) t)
  (Bh:starEach (e::es) X.env=(false,eval e X.env)::starEach es X.env:=by rfl) (il:(backTo pos (starEach es X.env)).any (·.1)=false:=by rfl)
  (ht:eval (.Call (.Attribute o m apos) (e::es) [] pos) X.env=(do
   let ov ←eval o X.env
   standAt apos.atName
   let (f,first) ←holding [ov] (getMethod ov m pl)
   callWith pos f first (backTo pos (starEach (e::es) X.env)) (backToKw pos (keywordEach [] X.env))):=by rfl) :
  PE X (.Call (.Attribute o m apos) (e::es) [] pos) (ND C m sp cX E ta t):=by
 intro pins s σ H Q I h
 refine PySem.W.methodCall_KW (pl:=pl) (aF (he pins s σ H _ I h) fun u s1 ⟨x,H1,I1,rx,a,dx,fs,ex,ea,l,q⟩=>?_) ht
 subst ex
 obtain rfl:u=Value.ref a:=rx
 refine FW I1 ea c hm l ?_
 refine w5 (first:=[.ref a]) (h₀:=X.base) I.ok.mod.cD hm.kp (aF (ha pos pins s1 σ H1 _ I1 q) fun us s2 ⟨vs,H2,I2,r,q2⟩=>⟨I2.cO,?_⟩) Bh il
 exact F4 (us:=.ref a::us) (vs:=.ref a::vs) F hr hb hd hx I2 (.cons rfl r) q2
structure Mk (K:aA) (C f:Addr):Prop where
 makes:PySem.W.makesIn K C=true
 init:PySem.W.findIn K (.ref C) "__init__"=some (some (.ref f))
 fn:PySem.W.isFn K (.ref f)=true
 kp:PySem.W.keepIn K (.ref C)=true
theorem NH{vs:List V}(M:Mk X.K C f)(F:aT X.prog X.w X.K X.mg X.base CX k f fd ps sp)(hr:cF (k+1) X.A)(hb:Binds X.K fd ps ds)(hd:Vals cX ds)
  (hx:Passes CX X E) (I:Inv X pins σ H s) (r:Vals vs us)
  (h:∀x dx,H x=none→H dx=none→dx≠x→sp (.ref x::(vs++cX)) (upd (upd H dx (.own x)) x (.ins C dx [])) (fun v H2=>v=.aO∧Q (.ref x) H2) E) :
  wpAny (model X.prog X.w) X.A (call (.ref C) us) (EP X pins σ Q) X.xe s:=by
 have hq:=h (s.heap.objs.size+1) s.heap.objs.size (I.au.fresh (fP _)) (I.au.fresh (aI _)) (dB (qR _));have I2:=Inv.made (C:=C) I;have r2:Vals (V.ref (s.heap.objs.size+1)::(vs++cX)) (Value.ref (s.heap.objs.size+1)::(us++ds)):=.cons rfl (r.append hd);have hl:(Value.ref (s.heap.objs.size+1)::us++ds).length=ps.length:=by have e:=r2.length;rw [F.len _ _ _ _ hq] at e;exact e.symm
 refine wpAny_call (Np (f:=f) I.cO M.makes M.init (kA.mp M.fn) (uF (F.run _ X.stack _ _ ⟨Value.ref (s.heap.objs.size+1)::us,[]⟩ (Value.ref (s.heap.objs.size+1)::(us++ds)) _ _ E (hr.make C us [])
  (I2.Br.make C us []) (hb _ (Value.ref (s.heap.objs.size+1)::us) I2.cO hl) r2 hq) fun r s' l6=>?_))
 cases r with
 | error e=>exact hx pins σ _ _ e s' I2 l6
 | ok fl=>
  cases fl with
  | ret u=>obtain ⟨v,H',I3,rv,ev,q3⟩:=I2.after l6;subst ev;exact ⟨rv,⟨V.ref (s.heap.objs.size+1),H',I3,rfl,q3⟩⟩
  | next=>exact False.elim l6
  | brk=>exact False.elim l6
  | cont=>exact False.elim l6
theorem NI(M:Mk X.K C f)(F:aT X.prog X.w X.K X.mg X.base CX k f fd ps sp)(hr:cF (k+1) X.A)(hg:Gl X x)(hm:X.mg x=some (.ref C))(hb:Binds X.K fd ps ds)(hd:Vals cX ds)(hx:Passes CX X E)
  (ha:PA X (e::es) t) (jT:(x == ("__debug__":Str))=false:=by decide) (he:starEach (e::es) X.env=(false,eval e X.env)::starEach es X.env:=by rfl) (il:(backTo pos (starEach es X.env)).any (·.1)=false:=by rfl) :
  PE X (.Call (.Name x p) (e::es) [] pos) (NF C sp cX E t):=by
 intro pins s σ H Q I h;refine uH (rq I hg hm ?_ jT);refine w5 (h₀:=X.base) I.ok.mod.cD M.kp (aF (ha pos pins s σ H _ I h) fun us s1 ⟨vs,H1,I1,r,q⟩=>⟨I1.cO,?_⟩) he il;exact NH M F hr hb hd hx I1 r q
end
section
variable {X:Cx} {CX:gc} {k:Nat} {f C:Addr} {fd:FuncData} {ps ks:List Str} {sp:Sp} {E:XK} {x m:Str} {p pos apos F5:Pos} {e o:Expr} {es:List Expr} {NJ:List Keyword} {te ta:TE} {t tk:TA} {nm:Option Str}
variable {g:List Value→List Value→List Value} {gV:List V→List V→List V}
end
structure bB (N P:List Str) (sc:Scope):Prop where
 kind:sc.kind=.function
 co:sc.isCoroutine=false
 gen:sc.isGenerator=false
 nd:N.Nodup
 pre:N.take P.length=P
 par:∀x∈P,sc.names.lookup x=some .local∨sc.names.lookup x=some .cell
 NK:∀y∈sc.names,y.2≠.free
variable {N:List Str} {sc:Scope}
theorem bU{P:List Str}(h1:sc.kind=.function:=by rfl)(h2:sc.isCoroutine=false:=by rfl)(h3:sc.isGenerator=false:=by rfl)(h4:N.Nodup:=by decide +kernel)(h5:N.take P.length=P:=by rfl)(h6:∀x∈P,sc.names.lookup x=some .local∨sc.names.lookup x=some .cell:=by decide +kernel)(h7:∀y∈sc.names,y.2≠.free:=by decide +kernel):bB N P sc:=⟨h1,h2,h3,h4,h5,h6,h7⟩
theorem F6{kindOf:Str→Option NameKind}{x:Str}:∀{binds:List (Str×Value)} {m:cz},(∀v,(x,v)∉binds)→bindL kindOf binds m x=m x
 | [],_,_=>rfl
 | (n,v)::r,m,h=>by
  unfold bindL;rw [F6 fun w hw=>h w (fO _ hw)]
  split
  ·have:x≠n:=by rintro rfl;exact h v g9
   simp [this]
  ·rfl
theorem F7{kindOf:Str→Option NameKind}{x:Str}:∀{binds:List (Str×Value)} {m:cz},(∀v,(x,v)∉binds)→bindC kindOf binds m x=m x
 | [],_,_=>rfl
 | (n,v)::r,m,h=>by
  unfold bindC;rw [F7 fun w hw=>h w (fO _ hw)]
  split
  ·rfl
  ·have:x≠n:=by rintro rfl;exact h v g9
   simp [this]
theorem F8{kindOf:Str→Option NameKind}{x:Str}{v:Value}:∀{P:List Str} {vs:List Value} {i:Nat} {m:cz},P.Nodup→P[i]?=some x→vs[i]?=some v→kindOf x=some .local→
  bindL kindOf (P.zip vs) m x=some v
 | [],_,_,_,_,h,_,_=>by simp at h
 | _::_,[],_,_,_,_,h,_=>by simp at h
 | p::P,w::vs,0,m,nd,h1,h2,hk=>by simp at h1 h2;subst h1;subst h2;show bindL kindOf ((p,w)::P.zip vs) m p=_;unfold bindL;rw [F6 fun v hv=>(oE.mp nd).1 (w6 hv).1,aq hk];simp
 | p::P,w::vs,i+1,m,nd,h1,h2,hk=>by show bindL kindOf ((p,w)::P.zip vs) m x=_;unfold bindL;exact F8 (i:=i) (oE.mp nd).2 (by simpa using h1) (by simpa using h2) hk
theorem F9{kindOf:Str→Option NameKind}{x:Str}{v:Value}:∀{P:List Str} {vs:List Value} {i:Nat} {m:cz},P.Nodup→P[i]?=some x→vs[i]?=some v→kindOf x≠some .local→
  bindC kindOf (P.zip vs) m x=some v
 | [],_,_,_,_,h,_,_=>by simp at h
 | _::_,[],_,_,_,_,h,_=>by simp at h
 | p::P,w::vs,0,m,nd,h1,h2,hk=>by simp at h1 h2;subst h1;subst h2;show bindC kindOf ((p,w)::P.zip vs) m p=_;unfold bindC;rw [F7 fun v hv=>(oE.mp nd).1 (w6 hv).1,ar hk];simp
 | p::P,w::vs,i+1,m,nd,h1,h2,hk=>by show bindC kindOf ((p,w)::P.zip vs) m x=_;unfold bindC;exact F9 (i:=i) (oE.mp nd).2 (by simpa using h1) (by simpa using h2) hk
def start(N:List Str)(vs:List V):St:=vs.map some++List.replicate (N.length-vs.length) none
def iP(CX:gc)(P:Program)(w:World)(K:aA)(mg:cz)(base:Heap)(N:List Str)(qual:Str)(scope:Scope)(f:Addr)(cd:Value)(A:Around)(outer:List Env)(s:Shared)(H:Hp)(E:XK):Cx where
 prog:=P
 w:=w
 K:=K
 mg:=mg
 base:=base
 A:=A.deeper (envOfC qual scope s.heap.objs.size f cd)
 N:=N
 s₀:=s
 H₀:=H
 env:=envOfC qual scope s.heap.objs.size f cd
 outer:=outer
 stack:=envOfC qual scope s.heap.objs.size f cd::outer
 ex:=[]
 calm:=true
 fn:=fun _=>true
 pn:=[]
 xe:=fun e s'=>wpAny (model P w) (A.deeper (envOfC qual scope s.heap.objs.size f cd)) (leaving (envOfC qual scope s.heap.objs.size f cd) e) (fun _ gG=>CX outer H s E e gG) (fun e' gG=>CX outer H s E e' gG) s'
theorem F_{x:Str}(h:sc.names.lookup x=some .cell):∃c,(cellsFrom n sc.names []).lookup x=some c:=by have q:=PySem.W.cellsFrom_some sc.names n [] (.inl h);exact AH.mp q
variable {CX:gc} {qual:Str} {scope:Scope} {f:Addr}
theorem NL{cd:Value}{s1:Shared}{E:XK}{vs:List V}
  (S:bB N ps scope) (hd:A.handled=none) (e0:o9 P w K mg base A outer s H) (hl:vs.length=ps.length) (r:Vals vs us)
  (x:InCallC s s.heap.objs.size (bindL (envOfC qual scope s.heap.objs.size f cd).kindOf (ps.zip us) fun _=>none) (cellsFrom (s.heap.objs.size+1) scope.names []) (bindC (envOfC qual scope s.heap.objs.size f cd).kindOf (ps.zip us) fun _=>none) s1) :
  Inv (iP CX P w K mg base N qual scope f cd A outer s H E) [] (start N vs) H s1:=by
 have il:ps.length≤N.length:=by have:=dR List.length S.pre;rw [w9] at this;lia
 obtain ⟨h1,tk,rfl,hk⟩:=x.done;have u6:∀b:Addr,b∉(iP CX P w K mg base N qual scope f cd A outer s H E).ex:=fun b z=>absurd (show b∈([]:List Addr) from z) (by simp)
 refine ⟨⟨e0.mod,S.kind,rfl,rfl,aI _,fun y z c h1 h2=>?_,fun y hy=>?_,fun y c _ h=>?_,fun _=>hd,Around.frames_deeper e0.frames,.inr ⟨rfl,rfl⟩,fun b z=>absurd z (u6 b),e0.bs,e0.fj,fun b _ _=>u6 b,fun b z=>absurd z (u6 b),e0.iI,e0.kJ⟩,
  rfl,e0.bare,Un.kept hk,⟨_,x.toInCall.ns,fun i y v h1 h2 h3=>?_⟩,fun y c h=>⟨_,x.cell y c h⟩,e0.au.fresh (aI _),fun y c h=>?_,fun p hp=>absurd (show p∈([]:aM) from hp) (by simp),e0.au.kept hk,?_⟩
 ·exact name_of_addr x.apart (iE h1) (iE h2)
 ·have hy:scope.names.lookup y=some .cell∨scope.names.lookup y=some .free:=hy
  rcases hy with hy | hy;·exact F_ hy
  ·exact absurd rfl (S.NK _ (iE hy))
 ·exact Nat.le_of_lt (x.above y c (iE h))
 ·have hi:i<vs.length:=by
   unfold start at h2;by_cases hi:i<vs.length;·exact hi
   ·rw [fE (by simpa using hi)] at h2
    rw [List.getElem?_replicate] at h2
    split at h2 <;> cases h2
  have ha:vs[i]?=some v:=by
   unfold start at h2;rw [eX (by simpa using hi),bo] at h2
   cases e:vs[i]? with
   | none=>rw [e] at h2;cases h2
   | some a=>rw [e] at h2;cases h2;rfl
  obtain ⟨u,hu,rv⟩:=r.get ha;have hp:ps[i]?=some y:=by rw [←S.pre,List.getElem?_take_of_lt (by lia)];exact h1
  have Ga:ps.Nodup:=by rw [←S.pre];exact S.nd.sublist (List.take_sublist _ _)
  refine ⟨u,rv,?_⟩;rcases S.par y (mS hp) with k | k;·exact .inl ⟨k,F8 Ga hp hu k⟩
  ·obtain ⟨c,e⟩:=F_ (n:=s.heap.objs.size+1) k
   refine .inr ⟨.inl k,c,e,?_⟩;have q:=x.cell y c e;rw [F9 Ga hp hu (by show scope.names.lookup y≠_;rw [k];decide)] at q
   exact q
 ·exact e0.au.fresh (Nat.le_of_lt (x.above y c (iE h)))
 ·unfold start
  show _=N.length;rw [fe,aD,List.length_replicate];lia
theorem Bs{name:Str}{params:Arguments}{body:List Stmt}{dV kV doc pm aU ct oc:Value}{an od:Option Addr}
  {fH:Array (Option Value)} {sp:Sp} (lk:K.lookup f=some ⟨oc,od,.func (PySem.W.fnOf name qual params body scope dV kV doc pm an aU ct),fH⟩) (fF:PySem.W.codeIn K aU qual=true) (S:bB N ps scope)
  (len:∀vs H Q E,sp vs H Q E→vs.length=ps.length)
  (jU:∀(A:Around) (outer:List Env) (s:Shared) (H:Hp) (vs:List V) (Q:VK) (E:XK),cF k (A.deeper (envOfC qual scope s.heap.objs.size f aU))→sp vs H Q E→
   ∃t,eZ (iP CX P w K mg base N qual scope f aU A outer s H E) body t∧t {nx:=fun _ H'=>Q .aO H',rt:=Q} (start N vs) H) :
  aT P w K mg base CX (k+1) f (PySem.W.fnOf name qual params body scope dV kV doc pm an aU ct) ps sp:=by
 refine ⟨len,fun A outer s H args us vs Q E hr e0 hb r ji=>?_⟩;have hl:=len _ _ _ _ ji;have KX:K.In s.heap:=e0.mod.cD.keeps fun b o e=>(e0.bs b o e).1;have lim:s.heap.NoLimit:=e0.mod.nolimit.keeps fun b o e=>(e0.bs b o e).1;have NM:∀y∈ps.zip us,scope.names.lookup y.1=some .local∨(scope.names.lookup y.1=some .cell∧((cellsFrom (s.heap.objs.size+1) scope.names []).lookup y.1).isSome=true):=fun⟨n,v⟩ hy=>by
  rcases S.par n (w6 hy).1 with q | q;·exact .inl q
  ·exact .inr ⟨q,PySem.W.cellsFrom_some _ _ _ (.inl q)⟩
 refine codeAny_call_function hr.depth (KX _ _ lk) rfl S.co S.gen rfl (PySem.W.codeRec_of KX fF) (hb _ _ _ _ ?_);refine wpAny_newFunctionEnv_cells S.kind NM fun env he s1 x=>?_;subst he;refine ⟨lim.keeps x.toInCall.keep,codeAny_func ?_⟩;obtain ⟨t,ht,hq⟩:=jU A outer s H vs Q E (hr.deeper _) ji;have I:Inv (iP CX P w K mg base N qual scope f aU A outer s H E) [] (start N vs) H s1:=NL S hr.hd e0 hl r x;refine a_ (ht [] s1 (start N vs) H _ I hq) (fun fl s' hs=>?_) fun e s' hs=>hs;have fin:∀{σ':St} {H':Hp} {v:V} {u:Value},Inv (iP CX P w K mg base N qual scope f aU A outer s H E) [] σ' H' s'→RelV v u→Q v H'→CE outer P w H s Q u s':=
  fun{σ' H' v u} J rv q=>⟨v,H',J.os,J.bare,J.base,J.au,rv,q⟩
 cases fl with
 | ret u=>obtain ⟨v,σ',H',J,rv,q⟩:=hs;exact fin J rv q
 | next=>obtain ⟨σ',H',J,q⟩:=hs;exact fin (v:=V.aO) (u:=Value.none) J rfl q
 | brk=>obtain ⟨_,_,_,q⟩:=hs;exact False.elim q
 | cont=>obtain ⟨_,_,_,q⟩:=hs;exact False.elim q
section
variable {X:Cx} {x:Str} {p pos:Pos} {e:Expr} {es:List Expr} {t:TA} {id T:String} {r:List V→Hp→VK→Prop}
def xT(r:List V→Hp→VK→Prop)(t:TA):TE:=fun σ H Q=>t σ H fun vs H1=>r vs H1 Q
theorem bc(hc:gT X (.builtin id) r)(hg:Gl X x)(hm:X.mg x=none)(hv:bootBuiltins x=some (.builtin id))(ha:PA X (e::es) t)(hn:x ≠ "__name__":=by decide)(jT:(x == ("__debug__":Str))=false:=by decide)
  (he:starEach (e::es) X.env=(false,eval e X.env)::starEach es X.env:=by rfl) (il:(backTo pos (starEach es X.env)).any (·.1)=false:=by rfl):PE X (.Call (.Name x p) (e::es) [] pos) (xT r t):=by
 intro pins s σ H Q I h;refine uH (rz I hg hm hv ?_ hn jT);exact PyProof.Rows.callWith_builtin1 (aF (ha pos pins s σ H _ I h) fun us s1 ⟨vs,H1,I1,r1,q1⟩=>hc pins s1 σ H1 vs us Q I1 r1 q1) he il
theorem o_(hc:gT X (.type T) r)(hg:Gl X x)(hm:X.mg x=none)(hv:bootBuiltins x=some (.type T))(ha:PA X (e::es) t)(hn:x ≠ "__name__":=by decide)(jT:(x == ("__debug__":Str))=false:=by decide)
  (he:starEach (e::es) X.env=(false,eval e X.env)::starEach es X.env:=by rfl) (il:(backTo pos (starEach es X.env)).any (·.1)=false:=by rfl):PE X (.Call (.Name x p) (e::es) [] pos) (xT r t):=by
 intro pins s σ H Q I h;refine uH (rz I hg hm hv ?_ hn jT);exact wX (aF (ha pos pins s σ H _ I h) fun us s1 ⟨vs,H1,I1,r1,q1⟩=>hc pins s1 σ H1 vs us Q I1 r1 q1) he il
end
end L2
namespace HT
open PySem PyProof.Rows
section
open PySem.SeqAt
open PySem.AutoSeq1 (wpAny_loadPart')
open PySem.MeetsSeq PySem.MeetsSeq2 PySem.MeetsSeq3
end
section
variable {prog:Program} {w:World} {A:Around} {E:aJ} {s:Shared}
def gd(n d:Nat):Option Int→Nat
 | none=>d
 | some v=>if v<0 then (v+(n:Int)).toNat else min v.toNat n
theorem NN(n d:Nat):gd n d none=d:=rfl
theorem NO(n d k:Nat):gd n d (some (k:Int))=min k n:=by
 show (if (k:Int)<0 then ((k:Int)+(n:Int)).toNat else min (k:Int).toNat n)=min k n
 rw [ar (by lia),cU]
end
end HT
namespace L2
open PySem PySem.Spec PyProof.Rows
abbrev TO:=St→Hp→(Option Int→Hp→Prop)→Prop
def PO(X:Cx)(e:Option Expr)(t:TO):Prop:=
 ∀(pins:aM) (s:Shared) (σ:St) (H:Hp) (Q:Option Int→Hp→Prop),Inv X pins σ H s→t σ H Q→
  wpAny (model X.prog X.w) X.A (evalPart e X.env) (fun u s'=>∃o H',Inv X pins σ H' s'∧IsPart u o∧Q o H') X.xe s
def NP:TO:=fun _ H Q=>Q none H
def NQ(t:TE):TO:=fun σ H Q=>t σ H fun x H1=>∃i,x=.int i∧Q (some i) H1
section
variable {X:Cx} {e:Expr} {te:TE} {lo hi:Option Expr} {tl th:TO} {pos p2:Pos}
theorem NR:PO X none NP:=by intro pins s σ H Q I h;rw [evalPart_none];exact dC ⟨none,H,I,.none,h⟩
theorem NS(h:PE X e te):PO X (some e) (NQ te):=by intro pins s σ H Q I hw;rw [evalPart_some];refine aF (h pins s σ H _ I hw) fun u s1 ⟨x,H1,I1,r1,q1⟩=>?_;obtain ⟨i,rfl,q⟩:=q1;obtain ⟨t,rfl⟩:=r1;exact ⟨some i,H1,I1,.int i t,q⟩
def Gb(X:Cx)(r:V→Option Int→Option Int→Hp→VK→Prop):Prop:=
 ∀(pins:aM) (s:Shared) (σ:St) (H:Hp) (x:V) (v vl vu:Value) (lo hi:Option Int) (sl:Addr) (Q:VK),Inv X pins σ H s→RelV x v→s.heap.IsSliceOf sl vl vu .none→IsPart vl lo→IsPart vu hi→r x lo hi H Q→
  ∃T id,typeLookup (.type T) "__getitem__"=pure (some (.builtin id))∧s.TypeIs v T∧wpAny (model X.prog X.w) X.A (getItem v (.ref sl)) (EP X pins σ Q) X.xe s
def NT(r:V→Option Int→Option Int→Hp→VK→Prop)(te:TE)(tl th:TO):TE:=fun σ H Q=>te σ H fun x H1=>tl σ H1 fun l H2=>th σ H2 fun u H3=>r x l u H3 Q
theorem NU{r:V→Option Int→Option Int→Hp→VK→Prop}(hr:Gb X r)(he:PE X e te)(hl:PO X lo tl)(hu:PO X hi th):PE X (.Subscript e (.Slice lo hi none p2) pos) (NT r te tl th):=by intro pins s σ H Q I h;refine Subscript_ (aF (he pins s σ H _ I h) fun v s1 ⟨x,H1,I1,r1,q1⟩=>?_);refine wpAny_Slice (aF (hl pins s1 σ H1 _ I1 q1) fun vl s2 ⟨l,H2,I2,pl,q2⟩=>aF (hu pins s2 σ H2 _ I2 q2) fun vu s3 ⟨u,H3,I3,pu,q3⟩=>?_);rw [evalPart_none];refine dC ?_;have I4:Inv X pins σ H3 {s3 with heap:=s3.heap.push {cls:=.type "slice",data:=.fields #[vl,vu,.none]}}:=I3.kept (t':=s3.toks) fun b ob q=>b9 _ q;obtain ⟨T,id,hT,ht,hg⟩:=hr pins {s3 with heap:=s3.heap.push {cls:=.type "slice",data:=.fields #[vl,vu,.none]}} σ H3 x v vl vu l u s3.heap.objs.size Q I4 r1 (Heap.IsSliceOf.new ..) pl pu q3;show wpAny (model X.prog X.w) X.A (subscriptTail e (.Slice lo hi none p2) v (.ref s3.heap.objs.size)) (EP X pins σ Q) X.xe {s3 with heap:=s3.heap.push {cls:=.type "slice",data:=.fields #[vl,vu,.none]}};exact tail_any (ops:=[.ref s3.heap.objs.size,v]) ht hT hg (by with_unfolding_all rfl)
def l7(xs:List V)(lo hi:Option Int):List V:=(xs.drop (HT.gd xs.length 0 lo)).take (HT.gd xs.length xs.length hi-HT.gd xs.length 0 lo)
theorem NV(xs:List V)(lo hi:Option Int):(l7 xs lo hi).length≤xs.length:=by unfold l7;rw [w9,List.length_drop];lia
end
def gU(n:Nat)(i:Int):Option Nat:=if 0≤i then (if i<n then some i.toNat else none) else if -(n:Int)≤i then some (i+n).toNat else none
def eO{α:Type}(xs:List α)(i:Int):Option α:=(gU xs.length i).bind fun j=>xs[j]?
variable {i:Int} {j:Nat}
theorem Gd{n:Nat}(h:gU n i=some j):seqIndex? i n=some j∧j<n∧-(n:Int)≤i∧i<n:=by
 unfold gU at h;by_cases h0:0≤i
 ·rw [aq h0] at h
  by_cases h1:i<n
  ·rw [aq h1] at h
   have e:i.toNat=j:=Option.some.inj h;exact ⟨by rw [seqIndex_of h0 h1,e],by lia,by lia,h1⟩
  ·rw [ar h1] at h;cases h
 ·rw [ar h0] at h
  by_cases h1:-(n:Int)≤i
  ·rw [aq h1] at h
   have e:(i+n).toNat=j:=Option.some.inj h;exact ⟨by rw [seqIndex_neg (by lia) h1,e],by lia,h1,by lia⟩
  ·rw [ar h1] at h;cases h
theorem Ge{α:Type}{xs:List α}{v:α}(h:eO xs i=some v):∃j,seqIndex? i xs.length=some j∧xs[j]?=some v∧j<xs.length∧-(xs.length:Int)≤i∧i<xs.length:=by
 unfold eO at h;cases e:gU xs.length i with
 | none=>rw [e] at h;cases h
 | some j=>rw [e] at h;obtain ⟨h1,h2,h3,h4⟩:=Gd e;exact ⟨j,h1,h,h2,h3,h4⟩
theorem e8{α:Type}{xs:List α}{v:α}(h:xs[j]?=some v):eO xs (j:Int)=some v:=by
 have hj:j<xs.length:=(aW.mp h).1;have e:gU xs.length (j:Int)=some j:=by unfold gU;rw [aq (by lia),aq (by lia)];simp
 unfold eO;rw [e];exact h
def Gf(b:Expr):Prop:=∀o i,subscripted b false o i=operate [o,i] (getItem o i)
def rH(X:Cx)(r:R2):Prop:=
 ∀(value slice:Expr) (pins:aM) (s:Shared) (σ:St) (H:Hp) (x y:V) (v u:Value) (Q:VK),Inv X pins σ H s→RelV x v→RelV y u→r x y H Q→
  subscripted slice false v u=operate [v,u] (getItem v u)→wpAny (model X.prog X.w) X.A (subscriptTail value slice v u) (EP X pins σ Q) X.xe s
def Bt(X:Cx)(id:String)(r:V→List V→Hp→VK→Prop):Prop:=
 ∀(pins:aM) (s:Shared) (σ:St) (H:Hp) (x:V) (xs:List V) (v:Value) (us:List Value) (Q:VK),Inv X pins σ H s→RelV x v→Vals xs us→r x xs H Q→
  wpAny (model X.prog X.w) X.A (call (.builtin id) (v::us)) (EP X pins σ Q) X.xe s
section
variable {X:Cx} {a b:Expr} {ta tb:TE} {pos:Pos}
variable {r:R2}
theorem NW(hr:rH X r)(ha:PE X a ta)(hb:PE X b tb)(hs:Gf b):PE X (.Subscript a b pos) (jP r ta tb):=by intro pins s σ H Q I h;exact Subscript_ (Bn ha hb I h fun v u s2 x y H2 I2 rx ry q=>hr a b pins s2 σ H2 x y v u Q I2 rx ry q (hs _ _))
theorem aG(hr:rH X r)(ha:PE X a ta)(hb:PE X b tb)(hs:Gf b:=by exact fun _ _=>rfl):PE X (.Subscript a b pos) (jP r ta tb):=NW hr ha hb hs
def Gg(K:aA):R2:=fun x y H Q=>∃p xs i v,x=.ref p∧y=.int i∧bh K H p xs∧eO xs i=some v∧Q v H
def Gh(K:aA):R2:=fun x y H Q=>∃p xs i v,x=.ref p∧y=.int i∧fG K H p xs∧eO xs i=some v∧Q v H
theorem dc:rH X (Gg X.K):=by
 intro value slice pins s σ H x y v u Q I rx ry h hs;obtain ⟨p,xs,i,z,rfl,rfl,hq,he,q⟩:=h;cases rx;obtain ⟨t,rfl⟩:=ry;obtain ⟨ai,r,pl,hz⟩:=I.list hq;obtain ⟨j,h1,h2,h3,h4,h5⟩:=Ge he;obtain ⟨w,ew,kP⟩:=r.get h2;have hl:=r.length;have hn:=u5;have fin:EP X pins σ Q w s:=⟨z,H,I,kP,q⟩;by_cases h0:0≤i
 ·have hj:i.toNat=j:=by rw [seqIndex_of h0 h5] at h1;exact Option.some.inj h1
  exact item_listR pl.isList h0 (by lia) (by rw [hj];simpa using ew) fin hs
 ·have hj:(i+(ai.toArray.size:Int)).toNat=j:=by
   rw [seqIndex_neg (by lia) h4] at h1
   rw [cK,←hl];exact Option.some.inj h1
  exact subscriptTail_builtinR (x:=w) pl.isList.typeIs slot_list_getitem.lookup
   (wpAny_getItem_list_neg (Q:=fun r s'=>r=w∧EP X pins σ Q r s') pl.isList (by lia) (by rw [cK] <;> lia) (by lia) (by rw [hj];simpa using ew) ⟨rfl,fin⟩) hs
theorem bC:rH X (Gh X.K):=by
 intro value slice pins s σ H x y v u Q I rx ry h hs;obtain ⟨p,xs,i,z,rfl,rfl,hq,he,q⟩:=h;cases rx;obtain ⟨t,rfl⟩:=ry;obtain ⟨ai,r,pl,hz⟩:=I.tuple hq;obtain ⟨j,h1,h2,h3,h4,h5⟩:=Ge he;obtain ⟨w,ew,kP⟩:=r.get h2;have hl:=r.length;have hn:=u5;have fin:EP X pins σ Q w s:=⟨z,H,I,kP,q⟩
 exact subscriptTail_builtinR (x:=w) pl.typeIs slot_tuple_getitem.lookup
  (getItem_tuple (j:=j) (Q:=fun r s'=>r=w∧EP X pins σ Q r s') pl (by lia) (by lia) (by rw [cK,←hl];exact h1) (by simpa using ew) ⟨rfl,fin⟩) hs
theorem NX(ai:List Value)(n j:Nat)(u:Value):Obj.mapSeq (·.setIfInBounds j u) {cls:=.type "list",data:=.seq ai.toArray n}={cls:=.type "list",data:=.seq (ai.set j u).toArray n}:=by simp [Obj.mapSeq]
theorem Inv.lst{pins:aM}{σ:St}{H:Hp}{s:Shared}{p:Addr}{xs:List V}(I:Inv X pins σ H s)(h:H p=some (.lst xs)) :
  ∃(ai:List Value) (n:Nat),Vals xs ai∧s.heap.get? p=some {cls:=.type "list",data:=.seq ai.toArray n}∧xs.length≤sizeLine:=by
 obtain ⟨z,ai,n,r,e⟩:=I.au p _ h;exact ⟨ai,n,r,e,z⟩
variable {pins:aM} {σ:St} {H:Hp} {s:Shared}
theorem Inv.NY{p:Addr}{xs ys:List V}{ai its':List Value}{n n':Nat}{f:Obj→Obj}(I:Inv X pins σ H s)(h:H p=some (.lst xs))
  (ho:s.heap.get? p=some {cls:=.type "list",data:=.seq ai.toArray n}) (hf:f {cls:=.type "list",data:=.seq ai.toArray n}={cls:=.type "list",data:=.seq its'.toArray n'}) (r:Vals ys its') (hz:ys.length≤sizeLine) (t:Nat) :
  Inv X pins σ (upd H p (.lst ys)) {s with heap:=s.heap.update p f,toks:=t}:=by
 have e:(s.heap.update p f).get? p=some {cls:=.type "list",data:=.seq its'.toArray n'}:=by rw [Heap.get?_update_self f ho (by rw [hf] <;> rfl),hf]
 refine I.write (x:=p) (e:=p) (by rw [h];trivial) (.inl rfl) (fun b u hb q=>(Heap.get?_update_other _ _ (Ne.symm hb)).trans q) ⟨_,e⟩ ?_
 exact ⟨hz,its',n',r,e⟩
def NZ:V→V→V→Hp→(Hp→Prop)→Prop:=fun o i v H Q=>∃p xs k j,o=.ref p∧i=.int k∧H p=some (.lst xs)∧gU xs.length k=some j∧Q (upd H p (.lst (xs.set j v)))
theorem set_list:Fv X NZ:=by
 intro pins s σ H o i v ov iv u Q I ro ri rv h;obtain ⟨p,xs,k,j,rfl,rfl,hp,hj,q⟩:=h;cases ro;obtain ⟨t,rfl⟩:=ri;obtain ⟨ai,n,r,ho,hz⟩:=I.lst hp;obtain ⟨h1,h2,h3,h4⟩:=Gd hj;have hl:=r.length;have hn:=u5;have I':Inv X pins σ (upd H p (.lst (xs.set j v))) {s with heap:=s.heap.update p (Obj.mapSeq (·.setIfInBounds j u))}:=
  I.NY hp ho (NX ai n j u) (r.set rv j) (by rw [jD];exact hz) s.toks
 by_cases h0:0≤k
 ·have hk:k.toNat=j:=by rw [seqIndex_of h0 h4] at h1;exact Option.some.inj h1
  exact PySem.W.ki_setAt ho h0 (by lia) (by rw [cK,←hl];exact h4) (by rw [hk];exact ⟨_,I',q⟩)
 ·have hk:(k+(ai.toArray.size:Int)).toNat=j:=by
   rw [seqIndex_neg (by lia) h3] at h1
   rw [cK,←hl];exact Option.some.inj h1
  exact PySem.W.ki_setBack ho (by lia) (by rw [cK,←hl];exact h3) (by lia) (by rw [hk];exact ⟨_,I',q⟩)
theorem N0(lo hi:Option Int)(n:Nat):(sliceBounds lo hi none n).1=((HT.gd n 0 lo:Nat):Int)∧(sliceBounds lo hi none n).2.1=((HT.gd n n hi:Nat):Int)∧(sliceBounds lo hi none n).2.2=1:=by
 refine ⟨?_,?_,rfl⟩
 ·cases lo with
  | none=>simp [sliceBounds,HT.gd]
  | some i=>
   simp only [sliceBounds,HT.gd,Option.getD_none,show (1:Int)>0 by decide,if_true]
   by_cases h:i<0;·simp only [h,if_true] <;> lia
   ·simp only [h,if_false] <;> lia
 ·cases hi with
  | none=>simp [sliceBounds,HT.gd]
  | some i=>
   simp only [sliceBounds,HT.gd,Option.getD_none,show (1:Int)>0 by decide,if_true]
   by_cases h:i<0;·simp only [h,if_true] <;> lia
   ·simp only [h,if_false] <;> lia
theorem N1(ai:List Value)(lo hi:Option Int):slicePick ai.toArray lo hi none=((ai.drop (HT.gd ai.length 0 lo)).take (HT.gd ai.length ai.length hi-HT.gd ai.length 0 lo)).toArray:=by obtain ⟨h1,h2,h3⟩:=N0 lo hi ai.toArray.size;unfold slicePick;rw [h1,h2,h3];simp only [sliceRange_one,pick_run,cK] <;> rfl
def N2(K:aA):V→Option Int→Option Int→Hp→VK→Prop:=fun x lo hi H Q=>∃a xs,x=.ref a∧bh K H a xs∧∀p,H p=none→Q (.ref p) (upd H p (.lst (l7 xs lo hi)))
theorem N3:Gb X (N2 X.K):=by
 intro pins s σ H x v vl vu lo hi sl Q I rx hs pl pu h;obtain ⟨a,xs,rfl,hx,q⟩:=h;cases rx;obtain ⟨ai,r,ht,hz⟩:=I.list hx;have hlen:=r.length;refine ⟨"list",_,slot_list_getitem.lookup,ht.isList.typeIs,?_⟩;refine wpAny_getItem_list_slice ht.isList hs pl pu .none (by simp) ?_ (by rw [cK] <;> lia)
 rw [N1,←hlen];refine ⟨.ref s.heap.objs.size,_,I.laid (t':=s.toks) (o:=.lst (l7 xs lo hi)) (fun b ob q=>b9 _ q) (aI _) ?_,rfl,q _ (I.au.fresh (aI _))⟩;exact ⟨aN (NV xs lo hi) hz,_,0,(r.drop (HT.gd xs.length 0 lo)).take (HT.gd xs.length xs.length hi-HT.gd xs.length 0 lo),fc _ rfl⟩
def gf:V→Bool
 | .aO=>true
 | .bl _=>true
 | .int _=>true
 | .str _=>true
 | _=>false
def fI:V→V→Bool
 | .aO,.aO=>true
 | .bl a,.bl b=>a == b
 | .bl a,.int b=>(if a then 1 else 0) == b
 | .int a,.bl b=>a == (if b then 1 else 0)
 | .int a,.int b=>a == b
 | .str a,.str b=>a == b
 | _,_=>false
variable {y x:V} {u v:Value}
theorem rJ{A:Around}(ry:RelV y u)(rx:RelV x v)(fy:gf y=true)(fx:gf x=true):SeqAt.EqAt A s u v (fI y x):=by
 cases y with
 | aO=>
  cases ry;cases x with
  | aO=>cases rx;exact SeqAt.EqAt.same _
  | bl b=>cases rx;exact SeqAt.EqAt.none_bool b
  | int b=>obtain ⟨t,rfl⟩:=rx;exact SeqAt.EqAt.none_int b t
  | str b=>obtain ⟨t,rfl⟩:=rx;exact SeqAt.EqAt.none_str b t
  | _=>exact absurd (show false=true from fx) cJ
 | bl a=>
  cases ry;cases x with
  | aO=>cases rx;exact SeqAt.EqAt.bool_none a
  | bl b=>cases rx;exact SeqAt.EqAt.bool_bool a b
  | int b=>obtain ⟨t,rfl⟩:=rx;exact SeqAt.EqAt.bool_int a b t
  | str b=>obtain ⟨t,rfl⟩:=rx;exact SeqAt.EqAt.bool_str a b t
  | _=>exact absurd (show false=true from fx) cJ
 | int a=>
  obtain ⟨t',rfl⟩:=ry;cases x with
  | aO=>cases rx;exact SeqAt.EqAt.int_none a t'
  | bl b=>cases rx;exact SeqAt.EqAt.int_bool a t' b
  | int b=>obtain ⟨t,rfl⟩:=rx;exact SeqAt.EqAt.int_int a t' b t
  | str b=>obtain ⟨t,rfl⟩:=rx;exact SeqAt.EqAt.int_str a t' b t
  | _=>exact absurd (show false=true from fx) cJ
 | str a=>
  obtain ⟨t',rfl⟩:=ry;cases x with
  | aO=>cases rx;exact SeqAt.EqAt.str_none a t'
  | bl b=>cases rx;exact SeqAt.EqAt.str_bool a t' b
  | int b=>obtain ⟨t,rfl⟩:=rx;exact SeqAt.EqAt.str_int a t' b t
  | str b=>obtain ⟨t,rfl⟩:=rx;exact SeqAt.EqAt.str_str a t' b t
  | _=>exact absurd (show false=true from fx) cJ
 | _=>exact absurd (show false=true from fy) cJ
def gW(x:V)(u:Value):Bool:=match u with
 | .none=>fI .aO x
 | .bool b=>fI (.bl b) x
 | .int i _=>fI (.int i) x
 | .str z _=>fI (.str z) x
 | _=>false
theorem Gi(r:RelV y u)(f:gf y=true):gW x u=fI y x:=by
 cases y with
 | aO=>cases r;rfl
 | bl b=>cases r;rfl
 | int i=>obtain ⟨t,rfl⟩:=r;rfl
 | str z=>obtain ⟨t,rfl⟩:=r;rfl
 | _=>exact absurd (show false=true from f) cJ
theorem u7{x:V}:∀{xs:List V} {us:List Value},Vals xs us→xs.all gf=true→us.any (gW x)=xs.any fun y=>fI y x
 | _,_,.nil,_=>rfl
 | y::xs,u::us,.cons r t,f=>by rw [qS,uI] at f;rw [oF,oF,Gi r f.1,u7 t f.2]
theorem u9{A:Around}{s:Shared}{x:V}{v:Value}(rx:RelV x v)(fx:gf x=true):∀{xs:List V} {us:List Value},Vals xs us→xs.all gf=true→∀u∈us,SeqAt.EqAt A s u v (gW x u)
 | _,_,.nil,_=>fun u hu=>by cases hu
 | y::xs,u::us,.cons r t,f=>fun u' hu=>by
  rw [qS,uI] at f;rcases dq.mp hu with rfl | hu;·rw [Gi r f.1];exact rJ r rx f.1 fx
  ·exact u9 rx fx t f.2 u' hu
def xU(x:V)(xs:List V):Bool:=xs.any fun y=>fI y x
def Bu(K:aA)(neg:Bool):R2:=fun x y H Q=>∃p xs,y=.ref p∧(bh K H p xs∨fG K H p xs)∧gf x=true∧xs.all gf=true∧Q (.bl (if neg then !xU x xs else xU x xs)) H
theorem Gj:b8 X (compareOp .In) (Bu X.K false):=by
 intro pins s σ H x y v u Q I rx ry h;obtain ⟨p,xs,rfl,hq,fx,fs,q⟩:=h;cases ry;rcases hq with hq | hq
 ·obtain ⟨ai,r,pl,hz⟩:=I.list hq
  refine SeqAt.in_listAt (gW x) pl.isList (fun w hw=>u9 rx fx r fs w (by simpa using hw)) ⟨.bl _,H,I,rfl,?_⟩
  rw [show ai.toArray.any (gW x)=ai.any (gW x) by simp,u7 r fs]
  exact q
 ·obtain ⟨ai,r,pl,hz⟩:=I.tuple hq
  refine SeqAt.in_tupleAt (gW x) pl (fun w hw=>u9 rx fx r fs w (by simpa using hw)) ⟨.bl _,H,I,rfl,?_⟩
  rw [show ai.toArray.any (gW x)=ai.any (gW x) by simp,u7 r fs]
  exact q
theorem N4:b8 X (compareOp .NotIn) (Bu X.K true):=by
 intro pins s σ H x y v u Q I rx ry h;obtain ⟨p,xs,rfl,hq,fx,fs,q⟩:=h;cases ry;rcases hq with hq | hq
 ·obtain ⟨ai,r,pl,hz⟩:=I.list hq
  refine SeqAt.notIn_listAt (gW x) pl.isList (fun w hw=>u9 rx fx r fs w (by simpa using hw)) ⟨.bl _,H,I,rfl,?_⟩
  rw [show ai.toArray.any (gW x)=ai.any (gW x) by simp,u7 r fs]
  exact q
 ·obtain ⟨ai,r,pl,hz⟩:=I.tuple hq
  refine SeqAt.notIn_tupleAt (gW x) pl (fun w hw=>u9 rx fx r fs w (by simpa using hw)) ⟨.bl _,H,I,rfl,?_⟩
  rw [show ai.toArray.any (gW x)=ai.any (gW x) by simp,u7 r fs]
  exact q
theorem df:gT X (.builtin "len") (fun xs H Q=>∃p ys,xs=[.ref p]∧(bh X.K H p ys∨fG X.K H p ys)∧Q (.int ys.length) H):=by
 intro pins s σ H xs us Q I r h;obtain ⟨p,ys,rfl,hq,q⟩:=h;obtain ⟨u,rfl,rx⟩:=vals1 r;cases rx;have hn:=u5;rcases hq with hq | hq
 ·obtain ⟨ai,r',pl,hz⟩:=I.list hq
  have hlen:=r'.length;exact Calls.call_len_list pl.isList (by simp only [cK] <;> lia) ⟨.int ys.length,H,I.tok _,⟨s.toks+1,by rw [cK,hlen]⟩,q⟩
 ·obtain ⟨ai,r',pl,hz⟩:=I.tuple hq
  have hlen:=r'.length;exact len_tuple pl (by simp only [cK] <;> lia) ⟨.int ys.length,H,I.tok _,⟨s.toks+1,by rw [cK,hlen]⟩,q⟩
theorem xV:gT X (.type "list") (fun xs H Q=>∃p ys,xs=[.ref p]∧(bh X.K H p ys∨fG X.K H p ys)∧∀l,H l=none→Q (.ref l) (upd H l (.lst ys))):=by
 intro pins s σ H xs us Q I r h;obtain ⟨p,ys,rfl,hq,q⟩:=h;obtain ⟨u,rfl,rx⟩:=vals1 r;cases rx
 have fin:∀(ai:List Value),Vals ys ai→ys.length≤sizeLine→∀(h':Heap) (c':Nat),(∀b o',s.heap.get? b=some o'→h'.get? b=some o')→
   h'.get? s.heap.objs.size=some {cls:=.type "list",dict:=none,data:=.seq ai.toArray c',slots:=#[]}→EP X pins σ Q (.ref s.heap.objs.size) {s with heap:=h'}:=fun ai r' hz h' c' kp e=>
  ⟨.ref s.heap.objs.size,_,I.laid (t':=s.toks) kp (aI _) (show cC X.prog X.w _ h' _ (.lst ys) from ⟨hz,ai,c',r',e⟩),rfl,q _ (I.au.fresh (aI _))⟩
 rcases hq with hq | hq
 ·obtain ⟨ai,r',pl,hz⟩:=I.list hq
  have hlen:=r'.length;obtain ⟨o,ho,hc,n,hd⟩:=pl.isList;exact call_list_seq p (.inl rfl) ho hc hd (fun h' c' kp e=>fin ai r' hz h' c' kp e) (by simp only [cK] <;> lia)
 ·obtain ⟨ai,r',pl,hz⟩:=I.tuple hq
  have hlen:=r'.length;obtain ⟨o,ho,hc,n,hd⟩:=pl;exact call_list_seq p (.inr rfl) ho hc hd (fun h' c' kp e=>fin ai r' hz h' c' kp e) (by simp only [cK] <;> lia)
theorem N5:gT X (.type "tuple") (fun xs H Q=>∃p ys,xs=[.ref p]∧((bh X.K H p ys∧∀l,H l=none→Q (.ref l) (upd H l (.tup ys)))∨(fG X.K H p ys∧Q (.ref p) H))):=by
 intro pins s σ H xs us Q I r h;obtain ⟨p,ys,rfl,h⟩:=h;obtain ⟨u,rfl,rx⟩:=vals1 r;cases rx;rcases h with ⟨hq,q⟩ | ⟨hq,q⟩
 ·obtain ⟨ai,r',pl,hz⟩:=I.list hq
  have hlen:=r'.length;refine call_tuple_list pl.isList (fun h' kp=>?_) (by simp only [cK] <;> lia)
  have I1:Inv X pins σ H {s with heap:=h'}:=I.kept (t':=s.toks) kp;have I2:Inv X pins σ (upd H h'.objs.size (.tup ys)) {s with heap:=h'.push {cls:=.type "tuple",data:=.seq ai.toArray}}:=
   I1.laid (t':=s.toks) (fun b o e=>b9 _ e) (aI _) (show cC X.prog X.w _ _ _ (.tup ys) from ⟨hz,ai,r',IsTup.new _ _⟩)
  exact ⟨.ref h'.objs.size,_,I2,rfl,q _ (I1.au.fresh (aI _))⟩
 ·obtain ⟨ai,r',pl,hz⟩:=I.tuple hq
  exact call_tuple_same pl ⟨.ref p,H,I,rfl,q⟩
def Bv(K:aA)(T:String)(x:V)(H:Hp):Prop:=match x with
 | .str _=>T="str"
 | .int _=>T="int"
 | .ref p=>(T="list"∧∃xs,bh K H p xs)∨(T="tuple"∧∃o,K.lookup p=some o∧o.cls=.type "tuple"∧o.dict=none) ∨
   (T="dict"∧((∃ak,H p=some (.dK ak))∨∃ak,H p=some (.dT ak)))∨(T="set"∧∃S n,H p=some (.set S n))
 | _=>False
theorem Gk{T:String}(I:Inv X pins σ H s)(r:RelV x v)(ty:Bv X.K T x H) :
  s.TypeIs v T∧∀a,v=.ref a→∃ob,s.heap.get? a=some ob∧ob.dict=none:=by
 cases x with
 | str z=>obtain ⟨t,rfl⟩:=r;cases (show T="str" from ty);exact ⟨typeIs_str s z t,fun _ e=>nomatch e⟩
 | int i=>obtain ⟨t,rfl⟩:=r;cases (show T="int" from ty);exact ⟨typeIs_int s i t,fun _ e=>nomatch e⟩
 | ref p=>
  cases r;rcases ty with ⟨rfl,xs,hq⟩ | ⟨rfl,o,hk,hc,hd⟩ | ⟨rfl,hk⟩ | ⟨rfl,S,n,hk⟩
  ·obtain ⟨ai,_,pl,_⟩:=I.list hq
   refine ⟨pl.isList.typeIs,fun a e=>?_⟩;cases e;obtain ⟨o,n,e,c,hd,_⟩:=pl;exact ⟨o,e,hd⟩
  ·refine ⟨⟨o,I.cO p o hk,hc⟩,fun a e=>?_⟩
   cases e;exact ⟨o,I.cO _ o hk,hd⟩
  ·have z:∃o,s.heap.get? p=some o∧o.ExactDict:=by
    rcases hk with ⟨ak,hk⟩ | ⟨ak,hk⟩
    ·obtain ⟨_,_,_,_,o,_,_,e,ex,_⟩:=I.au p _ hk
     exact ⟨o,e,ex⟩
    ·obtain ⟨_,_,_,_,o,_,_,e,ex,_⟩:=I.au p _ hk
     exact ⟨o,e,ex⟩
   obtain ⟨o,e,ex⟩:=z;refine ⟨⟨o,e,ex.1⟩,fun a e2=>?_⟩;cases e2;exact ⟨o,e,ex.2.1⟩
  ·obtain ⟨o,_,_,_,e,ex,_⟩:=I.au p _ hk
   refine ⟨⟨o,e,ex.1⟩,fun a e2=>?_⟩;cases e2;exact ⟨o,e,ex.2.1⟩
 | _=>exact False.elim ty
def N6(K:aA)(T:String)(r:V→List V→Hp→VK→Prop)(to:TE):TE:=fun σ H Q=>to σ H fun x H1=>Bv K T x H1∧r x [] H1 Q
def N7(K:aA)(T:String)(r:V→List V→Hp→VK→Prop)(to:TE)(t:TA):TE:=fun σ H Q=>to σ H fun x H1=>Bv K T x H1∧t σ H1 fun xs H2=>r x xs H2 Q
variable {o e:Expr} {es:List Expr} {to:TE} {t:TA} {name:Str} {apos gX:Pos} {T id:String} {r:V→List V→Hp→VK→Prop}
theorem Bw(pa:PlainAttrs T)(slot:Slot T name id)(Bx:typeOf (.builtin id)=pure (.type "method_descriptor"))(hm:Bt X id r)(ho:PE X o to)
  (pb:attributeBase o name X.env (eval o X.env)=eval o X.env:=by rfl) (By:(apos.endLine == gX.line)=true:=by rfl):PE X (.Call (.Attribute o name apos) [] [] gX) (N6 X.K T r to):=by
 intro pins s σ H Q I h;refine wpAny_Call_method0_late pb By (aF (ho pins s σ H _ I h) fun v s1 ⟨x,H1,I1,r1,ty,q1⟩=>?_);obtain ⟨h1,h2⟩:=Gk I1 r1 ty;exact ⟨T,id,pa,slot,Bx,h1,h2,Calls.callWith_builtin rfl (PySem.evalArgs_none (hm pins s1 σ H1 x [] v [] Q I1 r1 .nil q1))⟩
theorem Bz(pa:PlainAttrs T)(slot:Slot T name id)(Bx:typeOf (.builtin id)=pure (.type "method_descriptor"))(hm:Bt X id r)(ho:PE X o to)(ha:PA X (e::es) t)
  (pb:attributeBase o name X.env (eval o X.env)=eval o X.env:=by rfl)
  (N8:((backTo gX (starEach (e::es) X.env)).all (fun x=>!x.1) && (backToKw gX (keywordEach [] X.env)).all (fun x=>x.1.isSome)
   && decide ((e::es).length+([]:List Keyword).length+(if ([]:List Keyword).isEmpty then 0 else 1)<30))=true:=by rfl)
  (By:(apos.endLine == gX.line)=true:=by rfl) (hs:starEach (e::es) X.env=(false,eval e X.env)::starEach es X.env:=by rfl) (N9:(backTo gX (starEach es X.env)).any (·.1)=false:=by rfl) :
  PE X (.Call (.Attribute o name apos) (e::es) [] gX) (N7 X.K T r to t):=by
 intro pins s σ H Q I h;refine wpAny_Call_method_late pb N8 By rfl (aF (ho pins s σ H _ I h) fun v s1 ⟨x,H1,I1,r1,ty,q1⟩=>?_);obtain ⟨h1,h2⟩:=Gk I1 r1 ty;refine ⟨T,id,pa,slot,Bx,h1,h2,?_⟩;have hA:=ha gX pins s1 σ H1 _ I1 q1;rw [hs] at hA ⊢;refine Calls.callWith_builtin (by show (false || (backTo gX (starEach es X.env)).any (·.1))=false;rw [N9] <;> rfl) (Calls.evalArgs_plain ?_)
 exact aF hA fun us s2 ⟨vs,H2,I2,r2,q2⟩=>hm pins s2 σ H2 x vs v us Q I2 r1 r2 q2
end
def xW(X:Cx)(id:String)(r:V→List V→Hp→VK→Prop):Prop:=
 ∀(pins:aM) (s:Shared) (σ:St) (H:Hp) (x:V) (xs:List V) (v:Value) (us:List Value) (Q:VK),Inv X pins σ H s→RelV x v→Vals xs us→r x xs H Q→
  wpAny (model X.prog X.w) X.A (call (.builtin id) (v::us)) (EP X pins σ Q) X.xe s
theorem Vals.one:∀{x:V} {us:List Value},Vals [x] us→∃u,us=[u]∧RelV x u
 | _,_,.cons r .nil=>⟨_,rfl,r⟩
theorem Vals.zero:∀{us:List Value},Vals [] us→us=[]
 | _,.nil=>rfl
theorem Vals.dropLast{xs:List V}{us:List Value}(h:Vals xs us):Vals xs.dropLast us.dropLast:=by
 induction h with
 | nil=>exact .nil
 | cons r t ih=>
  cases t with
  | nil=>exact .nil
  | cons q t'=>exact .cons r ih
theorem Vals.rep{xs:List V}{us:List Value}(h:Vals xs us):∀k:Nat,Vals (List.replicate k xs).flatten (List.replicate k us).flatten
 | 0=>.nil
 | k+1=>by rw [mT,mT,w_,w_];exact Vals.append h (Vals.rep h k)
variable {α:Type}
theorem N_(l:List α):l.eraseIdx (l.length-1)=l.dropLast:=by
 induction l with
 | nil=>rfl
 | cons a r ih=>
  cases r with
  | nil=>rfl
  | cons b r=>
   have e:(a::b::r).length-1=((b::r).length-1)+1:=by have h1:(a::b::r).length=r.length+2:=rfl;have h2:(b::r).length=r.length+1:=rfl;lia
   rw [e,List.eraseIdx_cons_succ,ih]
   all_goals rfl
theorem foldl_rep(ai:List Value):∀(k:Nat) (acc:List Value),
  List.foldl (fun x1 x2=>x1++x2) acc.toArray (List.replicate k ai.toArray)=(acc++(List.replicate k ai).flatten).toArray
 | 0,acc=>by simp
 | k+1,acc=>by
  have e:acc.toArray++ai.toArray=(acc++ai).toArray:=by simp
  have e2:(acc++ai)++(List.replicate k ai).flatten=acc++(List.replicate (k+1) ai).flatten:=by rw [mT,w_,List.append_assoc]
  rw [←e2,←foldl_rep ai k (acc++ai),←e,mT,List.foldl_cons]
section
variable {X:Cx} {pins:aM} {σ:St} {H:Hp} {s:Shared} {l b:Addr} {xs ys zs:List V}
variable {ai:List Value} {n t':Nat}
theorem Inv.xX{its':List Value}{f:Array Value→Array Value}(I:Inv X pins σ H s)(hH:H l=some (.lst xs))
  (e:s.heap.get? l=some {cls:=.type "list",data:=.seq ai.toArray n}) (hf:f ai.toArray=its'.toArray) (hv:Vals ys its') (hz:ys.length≤sizeLine) :
  Inv X pins σ (upd H l (.lst ys)) {s with heap:=s.heap.update l (Obj.mapSeq f),toks:=t'}:=by
 have q:=PySem.IsL.update e f;rw [hf] at q;refine I.write (x:=l) (e:=l) (by rw [hH];exact trivial) (.inl rfl) (fun b' u hb hu=>(Heap.get?_update_other s.heap (Obj.mapSeq f) (Ne.symm hb)).trans hu) ⟨_,q⟩ ?_
 exact ⟨hz,its',_,hv,q⟩
theorem Inv.Gm(I:Inv X pins σ H s)(hv:Vals ys ai)(hz:ys.length≤sizeLine) :
  Inv X pins σ (upd H s.heap.objs.size (.lst ys)) {s with heap:=s.heap.push {cls:=.type "list",data:=.seq ai.toArray},toks:=t'}:=
 I.laid (fun _ _ q=>b9 _ q) (aI _) ⟨hz,ai,0,hv,fc _ rfl⟩
theorem Inv.fresh(I:Inv X pins σ H s):H s.heap.objs.size=none:=I.au.fresh (aI _)
theorem Inv.nG(I:Inv X pins σ H s)(hH:H l=some (.lst xs)):xs.length≤sizeLine∧∃(ai:List Value) (n:Nat),Vals xs ai∧xs.length=ai.length∧s.heap.get? l=some {cls:=.type "list",data:=.seq ai.toArray n}:=by obtain ⟨z,ai,n,r,e⟩:=I.au l _ hH;exact ⟨z,ai,n,r,r.length,e⟩
theorem Gn(h:n≤sizeLine):Builtin.List.listTooLong n=false:=by unfold Builtin.List.listTooLong;exact dI (by lia)
end
section
variable {X:Cx}
def Oa:V→List V→Hp→VK→Prop:=fun x vs H Q=>∃l xs y,x=.ref l∧vs=[y]∧H l=some (.lst xs)∧xs.length<sizeLine∧Q .aO (upd H l (.lst (xs++[y])))
theorem l8:xW X "list.append" Oa:=by
 intro pins s σ H x vs v us Q I rx rv h;obtain ⟨l,xs,y,rfl,rfl,hH,hz,q⟩:=h;cases rx;obtain ⟨u,rfl,ru⟩:=rv.one;obtain ⟨z,ai,n,r,hl,e⟩:=I.nG hH;refine call_meets F.slot_list_append ⟨_,e,rfl⟩ F.entry_list_append (F.args_list_append_2 _ _) (PySem.list_append l ai.toArray n u (by rw [cK];lia)) ⟨e,?_⟩
 refine ⟨.aO,_,I.xX (its':=ai++[u]) hH e (by simp) (r.append (.cons ru .nil)) ?_,rfl,q⟩
 rw [fe,xa];lia
def Ob:V→List V→Hp→VK→Prop:=fun x vs H Q=>∃l b xs zs,x=.ref l∧vs=[.ref b]∧H l=some (.lst xs)∧H b=some (.lst zs)∧xs.length+zs.length≤sizeLine∧Q .aO (upd H l (.lst (xs++zs)))
theorem Ya:xW X "list.extend" Ob:=by
 intro pins s σ H x vs v us Q I rx rv h;obtain ⟨l,b,xs,zs,rfl,rfl,hH,hB,hz,q⟩:=h;cases rx;obtain ⟨u,rfl,ru⟩:=rv.one;cases ru;obtain ⟨z,ai,n,r,hl,e⟩:=I.nG hH;obtain ⟨z2,pd,n2,r2,Oc,e2⟩:=I.nG hB;have hsz:ai.toArray.size+pd.toArray.size≤sizeLine:=by rw [cK,cK];lia
 have BA:¬(!ai.toArray.isEmpty && Builtin.List.listTooLong (ai.toArray.size+pd.toArray.size))=true:=by rw [Gn hsz,Bool.and_false];exact cJ
 refine call_meets F.slot_list_extend ⟨_,e,rfl⟩ F.entry_list_extend (F.args_list_extend_2 _ _)
  (AutoSeq1.list_extend_list_list_0 l ai.toArray n b pd.toArray n2 BA (by rw [cK];lia) (by lia)) ⟨e,e2,?_⟩
 refine ⟨.aO,_,I.xX (its':=ai++pd) hH e (by simp) (r.append r2) ?_,rfl,q⟩
 rw [fe];lia
def Od:V→List V→Hp→VK→Prop:=fun x vs H Q=>∃l xs y,x=.ref l∧vs=[]∧H l=some (.lst xs)∧xs[xs.length-1]?=some y∧Q y (upd H l (.lst xs.dropLast))
theorem Oe:xW X "list.pop" Od:=by
 intro pins s σ H x vs v us Q I rx rv h;obtain ⟨l,xs,y,rfl,rfl,hH,hy,q⟩:=h;cases rx;have u_:=rv.zero;subst u_;obtain ⟨z,ai,n,r,hl,e⟩:=I.nG hH;obtain ⟨u,hu,ru⟩:=r.get hy;have Of:ai.toArray[ai.toArray.size-1]?=some u:=by show ai.toArray[ai.length-1]?=some u;rw [←Array.getElem?_toList,←hl];exact hu
 refine call_meets F.slot_list_pop ⟨_,e,rfl⟩ F.entry_list_pop (F.args_list_pop_1 _) (MeetsSeq.list_pop_last l ai.toArray n u Of (by rw [cK];lia)) ⟨e,?_⟩
 refine ⟨y,_,I.xX (its':=ai.dropLast) hH e ?_ r.dropLast ?_,ru,q⟩
 ·show ai.toArray.eraseIdxIfInBounds (ai.toArray.size-1)=ai.dropLast.toArray
  rw [cK,List.eraseIdxIfInBounds_toArray,N_]
 ·rw [List.length_dropLast]
  lia
def Og:V→List V→Hp→VK→Prop:=fun x vs H Q=>∃l xs,x=.ref l∧vs=[]∧H l=some (.lst xs)∧Q .aO (upd H l (.lst []))
theorem Oh:xW X "list.clear" Og:=by
 intro pins s σ H x vs v us Q I rx rv h;obtain ⟨l,xs,rfl,rfl,hH,q⟩:=h;cases rx;have u_:=rv.zero;subst u_;obtain ⟨z,ai,n,r,hl,e⟩:=I.nG hH;refine call_meets F.slot_list_clear ⟨_,e,rfl⟩ F.entry_list_clear (F.args_list_clear_1 _) (AutoSeq1.list_clear_list_0 l ai.toArray n (by rw [cK];lia)) ⟨e,?_⟩
 exact ⟨.aO,_,I.xX (its':=[]) (ys:=[]) hH e rfl .nil (cT _),rfl,q⟩
def Oi:R2:=fun x y H Q=>∃l b xs zs,x=.ref l∧y=.ref b∧H l=some (.lst xs)∧H b=some (.lst zs)∧xs.length+zs.length≤sizeLine∧∀p,H p=none→Q (.ref p) (upd H p (.lst (xs++zs)))
theorem xY:b8 X (binaryOp .Add) Oi:=by
 intro pins s σ H x y v u Q I rx ry h;obtain ⟨l,b,xs,zs,rfl,rfl,hH,hB,hz,q⟩:=h;cases rx;cases ry;obtain ⟨z,ai,n,r,hl,e⟩:=I.nG hH;obtain ⟨z2,pd,n2,r2,Oc,e2⟩:=I.nG hB;refine PySem.P.add_list e e2 ?_ (by rw [cK,cK];lia)
 have ea:ai.toArray++pd.toArray=(ai++pd).toArray:=by simp
 rw [ea];exact ⟨.ref _,_,I.Gm (t':=s.toks) (r.append r2) (by rw [fe];lia),rfl,q _ I.fresh⟩
def Oj:R2:=fun x y H Q=>∃l k xs,x=.ref l∧y=.int k∧H l=some (.lst xs)∧-(2 ^ 63)≤k∧k<2 ^ 63∧xs.length*k.toNat≤sizeLine ∧
 ∀p,H p=none→Q (.ref p) (upd H p (.lst (List.replicate k.toNat xs).flatten))
theorem len_rep(xs:List α)(k:Nat):(List.replicate k xs).flatten.length=k*xs.length:=by
 induction k with
 | zero=>simp
 | succ k ih=>rw [mT,w_,fe,ih,Nat.succ_mul,Nat.add_comm]
theorem xZ:b8 X (binaryOp .Mult) Oj:=by
 intro pins s σ H x y v u Q I rx ry h;obtain ⟨l,k,xs,rfl,rfl,hH,h1,h2,hz,q⟩:=h;cases rx;obtain ⟨t,rfl⟩:=ry;obtain ⟨z,ai,n,r,hl,e⟩:=I.nG hH;have hlen:ai.toArray.size*k.toNat≤sizeLine:=by rw [cK,←hl];exact hz
 have Ol:¬ai.toArray.size*k.toNat>(2 ^ 63-1) / 8:=by
  have:(sizeLine:Nat)≤(2 ^ 63-1) / 8:=by decide
  lia
 have Gp:¬(!Builtin.List.listFitsIndex k)=true:=by rw [fitsIndex_both h1 h2];exact cJ
 have BA:¬Builtin.List.listTooLong (ai.toArray.size*k.toNat)=true:=by rw [Gn hlen];exact cJ
 have Om:List.foldl (fun x1 x2=>x1++x2) #[] (List.replicate (if ai.toArray.isEmpty=true then 0 else k.toNat) ai.toArray)=(List.replicate k.toNat ai).flatten.toArray:=by
  have f0:∀m:Nat,List.foldl (fun x1 x2=>x1++x2) #[] (List.replicate m ai.toArray)=(List.replicate m ai).flatten.toArray:=fun m=>by have:=foldl_rep ai m [];rw [lF] at this;exact this
  rw [f0];cases ai with
  | nil=>simp
  | cons a r'=>rw [ar (by simp)]
 refine wpAny_binaryOp_repeat_ref (T:="list") (U:="int") (by decide) ⟨_,e,rfl⟩ (fun s'=>typeIs_int s' k t) noFill_list_mul F.fills_int_mul F.slot_int_rmul repeat_list F.slot_int_index.lookup
  (call_meets F.slot_int_rmul (typeIs_int s k t) F.entry_int_rmul (F.args_int_rmul_2 _ _) (int___rmul___int_list k t l ai.toArray n)
   ⟨e,rfl,⟨_,e,rfl⟩,call_meets F.slot_list_mul ⟨_,e,rfl⟩ F.entry_list_mul (F.args_list_mul_2 _ _) (AutoListH.list___mul___list_int_3 l ai.toArray n k t Gp Ol BA) ⟨e,?_⟩⟩)
 rw [Om];exact ⟨.ref _,_,I.Gm (t':=s.toks) (r.rep k.toNat) (by rw [len_rep,Nat.mul_comm];exact hz),rfl,q _ I.fresh⟩
end
section
variable {prog:Program} {w:World} {A:Around} {E:aJ} {s:Shared}
end
section
variable {X:Cx}
end
end L2
namespace x4
open PySem PySem.W PySem.Calls PyProof.Rows
variable {P:Params} {h:Heap}
theorem Oo:∀(ns:List Int) (vs:List Value),WellAll P h vs (ns.map WData.int)→IntsAre vs ns:=by
 intro ns
 induction ns with
 | nil=>intro vs w;rw [lH] at w;cases w;exact .nil
 | cons n ns ih=>
  intro vs w;rw [gu] at w;cases w with
  | cons a b=>cases a;exact .cons _ _ (ih _ b)
variable {l:OpenLaw} {n:Nat}
theorem Oq(hn:l.most=some n){args:List WData}{vals:List Value}
  (x5:l.row.toRowW.claim.pre args=true) (BB:WellAll P h vals args) :
  ∃a vs ns,vals=[Value.ref a]∧args=[WData.list (ns.map WData.int)]∧h.get? a=some {cls:=.type "list",data:=.seq vs.toArray}∧IntsAre vs ns∧ns.length≤n:=by
 have Ot:WShape.hasAll [] args [.list .int]=true:=(pre_splitW x5).1;have hc:l.pre.holds [] {args:=args}=true:=(pre_splitW x5).2;obtain ⟨d,r,rfl,h1,h2⟩:=hasAllW_cons Ot;obtain rfl:=hasAllW_nil h2;obtain ⟨xs,rfl,h3⟩:=hasW_list h1;obtain ⟨ns,rfl⟩:=items_int h3;have hlen:ns.length≤n:=by
  unfold OpenLaw.pre at hc;have h4:(WTm.not (.lt (.lit (.int (n:Int))) (.len (.arg 0)))).holds [] {args:=[.list (ns.map .int)]}=true:=by have h4:=(holds_andW hc).1;rw [hn] at h4;exact h4
  have h5:=condW_of h4 (w_not (w_lt w_lit (w_len_list (w_arg rfl))));rw [aD] at h5;refine Nat.le_of_not_lt fun q=>?_;have q':(n:Int)<((ns.length:Nat):Int):=by lia
  first
   | (rw [cN q'] at h5;exact absurd h5 (by decide))
   | (simp at h5;lia)
 cases BB with
 | cons w1 w2=>
  cases w2;cases w1 with
  | list ho Ou=>exact ⟨_,_,ns,rfl,rfl,ho,Oo ns _ Ou,hlen⟩
theorem Ov(l:OpenLaw)(args:List WData):l.row.toRowW.claim.post args (.bool true) args=true:=
 postW_of (r:=l.row.toRowW) (X:=(true == true))
  (show WShape.has [] (.bool true) .bool=true by first | rfl | decide | simp [WShape.has,WShape.arms,WShape.armsAll])
  (show (WTm.eq .res (.lit (.bool true))).value [] {args:=args,res:=some (.bool true),after:=args}=some (.bool (true == true)) from w_eq_bool (w_res rfl) w_lit) rfl
theorem Ow{q:Program}{loose:List Str}{XP:(Str→Option Value)→Heap→Prop}{YP:World→Heap→Prop}{d:DefRec}
  (hn:l.most=some n) (va:d.params.defaults=[])
  (call:∀(w:World) (s₀ s₁:Shared) (mg mb:cz) (fa:Addr) (o:Obj) (pm cd doc:Value) (a:Addr) (vs:List Value) (ns:List Int),
   Ground q loose [] XP w s₀ mg mb s₁.heap→YP w s₁.heap→
   s₁.heap.get? fa=some o→o.data=.func (docDef d.name d.params d.body d.scope pm cd doc)→s₁.heap.CodeRec cd d.name→mg d.name=some (.ref fa)→
   s₁.heap.get? a=some {cls:=.type "list",data:=.seq vs.toArray}→IntsAre vs ns→ns.length≤n→s₁.gens = #[]→
   codeAny (model l.prog w) callerA (.call (.ref fa) ⟨[.ref a],[]⟩) (fun r s'=>r=.ok (.ret (.bool true))∧OldK s₁.heap s'.heap∧s'.os=s₁.os∧AllBare s'.gens) s₁) :
  WalkO q loose XP YP l.row.toRowW d [] (fun f vs=>PySem.call f vs):=by
 intro w s₀ s₁ mg mb G Y fa o pm cd doc dV kV ho hd fF hD vb hg args vals as x5 Yf Y1 BB Y2;obtain rfl:dV=.none:=Dflts.none hD va;obtain rfl:kV=.none:=Dflts.noKw hD;obtain ⟨a,vs,ns,rfl,rfl,BC,hints,hlen⟩:=Oq hn x5 BB;refine enter_call (uF (call w s₀ s₁ mg mb fa o pm cd doc a vs ns G Y ho (fd_plain hd) fF vb BC hints hlen hg) fun r s' hq=>?_);obtain ⟨rfl,h2,h3,h4⟩:=hq;exact ⟨.inl ⟨.bool true,.bool true,[],rfl,fun _=>rfl,.bool true,Ov l _,fun _=>⟨List.Pairwise.nil,fun _ hm=>(nomatch hm)⟩⟩,h2,h3,h4⟩
section
variable {prog:Program} {w:World} {A:Around} {E:aJ} {s:Shared} {K:Frag}
end
end x4
namespace L2
open PySem PySem.Spec PyProof.Rows
theorem Gq:∀{vs:List Value} {ns:List Int},IntsAre vs ns→Vals (ns.map V.int) vs
 | _,_,.nil=>.nil
 | _,_,.cons n t h=>.cons ⟨t,rfl⟩ (Gq h)
def BD(H:Hp):Prop:=∀b,H b=none∨∃o xs,H b=some (.fh o (.lst xs))
variable {K:aA} {k:Nat} {a:Addr} {x:Str}
theorem Ox{P:Program}{w:World}{mg mb:cz}{CX:gc}{fa:Addr}{fd:FuncData}{sp:Sp}{s₁:Shared}{vs:List Value}{ns:List Int}
  (KX:K.In s₁.heap) (Gr:s₁.heap.Ns mainGlobals mg) (hb:s₁.heap.Ns builtinsNs mb) (Oy:∀x:Str,x ≠ "__name__"→mb x=bootBuiltins x) (Oz:s₁.heap.NoLimit) (hg:s₁.gens = #[])
  (ha:s₁.heap.get? a=some {cls:=.type "list",data:=.seq vs.toArray}) (hi:IntsAre vs ns) (hl:ns.length≤sizeLine) (hr:cF k callerA)
  (F:∀base:Heap,K.In base→base.Ns mainGlobals mg→aT P w K mg base CX k fa fd [x] sp) (OA:∀(s:Shared) (u:Value),BindsTo s fd ⟨[u],[]⟩ [(x,u)])
  (ji:∀H:Hp,BD H→bh K H a (ns.map V.int)→sp [.ref a] H (fun v _=>v=.bl true) fun _ _ _=>False)
  (BE:∀H e s',CX [] H s₁ (fun _ _ _=>False) e s'→False) :
  codeAny (model P w) callerA (.call (.ref fa) ⟨[.ref a],[]⟩) (fun r s'=>r=.ok (.ret (.bool true))∧OldK s₁.heap s'.heap∧s'.os=s₁.os∧AllBare s'.gens) s₁:=by
 have rv:=Gq hi;have OB:=hi.length
 have core:∀H:Hp,BD H→bh K H a (ns.map V.int)→bT P w H s₁.heap→(∀b,H b≠none→b=a)→(H a≠none→K.lookup a=none)→
   codeAny (model P w) callerA (.call (.ref fa) ⟨[.ref a],[]⟩) (fun r s'=>r=.ok (.ret (.bool true))∧OldK s₁.heap s'.heap∧s'.os=s₁.os∧AllBare s'.gens) s₁:=by
  intro H hO hS au hA hK;have Gs:∀{b:Addr} {o:Obj},s₁.heap.get? b=some o→H b=none→(lK s₁.heap H).get? b=some o:=fun e n=>Mp e n;have u6:∀{b:Addr} {o:Obj} {es:Array DictEntry} {ep:Nat},s₁.heap.get? b=some o→o.data=.dict es ep→H b=none:=fun{b o es ep} e d=>by
   cases q:H b with
   | none=>rfl
   | some u=>
    have e':b=a:=hA b (by rw [q];simp)
    subst e';rw [ha] at e;cases e;have d':Data.seq vs.toArray _=Data.dict es ep:=d;cases d'
  have x6:∀{b:Addr} {m:cz},s₁.heap.Ns b m→(lK s₁.heap H).Ns b m:=fun{b m} ⟨o,es,ep,e,d,r⟩=>⟨o,es,ep,Gs e (u6 e d),d,r⟩;have Gu:K.In (lK s₁.heap H):=fun b o e=>Gs (KX b o e) (by
   cases q:H b with
   | none=>rfl
   | some u=>
    have e':b=a:=hA b (by rw [q];simp)
    subst e';rw [hK (by rw [q];simp)] at e;cases e)
  have hM:Mod K mg (lK s₁.heap H):=⟨Gu,x6 Gr,⟨mb,x6 hb,Oy⟩,let ⟨mc,h1,h2⟩:=Oz;⟨mc,x6 h1,h2⟩⟩
  have e0:o9 P w K mg (lK s₁.heap H) callerA [] s₁ H:=⟨rfl,hM,fun b o e=>Mq e,qQ (Mo _ _),trivial,fun b hb=>absurd (show b∈([]:List Addr) from hb) (by simp),au,.of_eq hg⟩
  refine uF ((F _ Gu (x6 Gr)).run callerA [] s₁ H ⟨[.ref a],[]⟩ [.ref a] [.ref a] _ _ hr e0 (OA s₁ (.ref a)) (.cons rfl .nil) (ji H hO hS)) fun r s' h=>?_;cases r with
  | error e=>exact (BE H e s' h).elim
  | ok fl=>
   cases fl with
   | next=>exact False.elim h
   | brk=>exact False.elim h
   | cont=>exact False.elim h
   | ret u=>
    obtain ⟨v,H',os,bare,un,OC,r',q⟩:=h;have q':v=.bl true:=q;subst q';obtain rfl:u=Value.bool true:=r';refine ⟨rfl,OldK.of_keep fun b o e=>?_,os,bare⟩;cases q:H b with
    | none=>exact un.keep b o e q (by intro z;exact absurd (show b∈([]:List Addr) from z) (by simp)) (by simp)
    | some u=>
     rcases hO b with z | ⟨ob,xs,z⟩;·rw [q] at z;cases z
     ·have z2:=un.dS b ob _ z
      obtain ⟨e1,_⟩:=au b _ z;obtain ⟨e2,_⟩:=OC b _ z2;rw [e] at e1;cases e1;exact e2
 cases hk:K.lookup a with
 | some o=>have e:=KX a o hk;rw [ha] at e;cases e;refine core (fun _=>none) (fun _=>.inl rfl) (.inr ⟨_,vs.toArray,_,hk,rfl,rfl,rfl,by rw [cK,OB];exact hl,by simpa using rv⟩) (fun b u z=>by have z':(none:Option HO)=some u:=z;cases z') (fun b z=>absurd rfl z) fun z=>absurd rfl z
 | none=>
  refine core (fun b=>if b=a then some (.fh {cls:=.type "list",data:=.seq vs.toArray} (.lst (ns.map V.int))) else none) (fun b=>?_) (.inl (.inr ⟨{cls:=.type "list",data:=.seq vs.toArray},aq rfl⟩)) (fun b u z=>?_) (fun b z=>?_) fun _=>hk
  ·by_cases hb:b=a
   ·exact .inr ⟨_,_,aq hb⟩
   ·exact .inl (ar hb)
  ·by_cases hb:b=a
   ·have z':=(aq hb).symm.trans z
    cases z';subst hb;exact ⟨ha,by rw [aD];exact hl,vs,_,rv,ha⟩
   ·have z':=(ar hb).symm.trans z
    cases z'
  ·by_cases hb:b=a
   ·exact hb
   ·exact absurd (ar hb) z
abbrev Gv {K:aA} {h:Heap} (_:K.In h):PySem.W.Frag:=K
variable {n:Nat}
theorem OD{l:PySem.W.OpenLaw}{q:Program}{loose:List Str}{XP:(Str→Option Value)→Heap→Prop}{YP:World→Heap→Prop}{d:DefRec}{K:Params→PySem.W.Frag}{CX:World→gc}{sp:World→Sp}
  (hn:l.most=some n) (rF:n≤sizeLine) (va:d.params.defaults=[]) (hr:cF k callerA)
  (hY:∀(w:World) (h:Heap),YP w h→(K w.params).In h)
  (F:∀(w:World) (mg:cz) (fa:Addr) (h:Heap),(K w.params).In h→h.Ns mainGlobals mg→mg d.name=some (.ref fa)→
   ∃fd:FuncData,(∀(s:Shared) (u:Value),BindsTo s fd ⟨[u],[]⟩ [(x,u)]) ∧
    ∀base:Heap,(K w.params).In base→base.Ns mainGlobals mg→aT l.prog w (K w.params) mg base (CX w) k fa fd [x] (sp w))
  (ji:∀(w:World) (H:Hp) (a:Addr) (ns:List Int),ns.length≤n→BD H→bh (K w.params) H a (ns.map V.int)→sp w [.ref a] H (fun v _=>v=.bl true) fun _ _ _=>False)
  (BE:∀(w:World) (H:Hp) (s:Shared) (e:Value) (s':Shared),CX w [] H s (fun _ _ _=>False) e s'→False) :
  PySem.W.WalkO q loose XP YP l.row.toRowW d [] (fun f vs=>PySem.call f vs):=by
 refine x4.Ow hn va fun w s₀ s₁ mg mb fa o pm cd doc a vs ns G Y ho hd fF vb BC hints hlen hg=>?_;have KX:=hY w _ Y;obtain ⟨fd,hb,hF⟩:=F w mg fa _ KX G.T.g vb;exact Ox KX G.T.g G.T.b G.T.builtins G.T.nolimit hg BC hints (aN hlen rF) hr hF hb (fun H hO hS=>ji w H a ns hlen hO hS) fun H e s'=>BE w H s₁ e s'
def inClass(s:Stmt)(j:Nat):Stmt:=match s with
 | .ClassDef _ _ _ body _ _ _ _ _ _ _=>body.getD j (.Pass ⟨0,0,0,0⟩)
 | _=>.Pass ⟨0,0,0,0⟩
def iQ(s:Stmt):Arguments:=match s with
 | .FunctionDef _ a _ _ _ _ _ _ _ _=>a
 | _=>{posonlyargs:=[],args:=[],vararg:=none,kwonlyargs:=[],kw_defaults:=[],kwarg:=none,defaults:=[]}
def fT(s:Stmt):List Stmt:=match s with
 | .FunctionDef _ _ b _ _ _ _ _ _ _=>b
 | _=>[]
def aR(s:Stmt):Scope:=match s with
 | .FunctionDef _ _ _ _ _ _ sc _ _ _=>sc
 | _=>{kind:=.function,names:=[],isGenerator:=false,isCoroutine:=false}
abbrev bV:gc:=fun _ _ _ _ _ _=>False
abbrev E0:XK:=fun _ _ _=>False
theorem aX{X:Cx}:Passes bV X E0:=fun _ _ _ _ _ _ _ h=>h.elim
structure fk (K:aA) (x qual:Str) (st:Stmt) (f:Addr) (fd:FuncData):Prop where
 ex:∃(oc:Value) (od:Option Addr) (kV doc pm:Value) (an:Option Addr) (aU ct:Value) (fH:Array (Option Value)),
  fd=PySem.W.fnOf x qual (iQ st) (fT st) (aR st) .none kV doc pm an aU ct∧K.lookup f=some ⟨oc,od,.func fd,fH⟩∧PySem.W.codeIn K aU qual=true
 kp:PySem.W.keepIn K (.ref f)=true
abbrev aP (K:aA) (x:Str) (st:Stmt) (f:Addr) (fd:FuncData):Prop:=fk K x x st f fd
section
variable {P:Program} {w:World} {K:aA} {mg:cz} {base:Heap}
variable {qual:Str} {st:Stmt} {f:Addr} {fd:FuncData} {N ps:List Str} {sp:Sp}
theorem fk.ok(F:fk K x qual st f fd)(S:bB N ps (aR st))(len:∀vs H Q E,sp vs H Q E→vs.length=ps.length)
  (jU:∀(aU:Value) (A:Around) (outer:List Env) (s:Shared) (H:Hp) (vs:List V) (Q:VK) (E:XK),cF k (A.deeper (envOfC qual (aR st) s.heap.objs.size f aU))→sp vs H Q E→
   ∃t,eZ (iP bV P w K mg base N qual (aR st) f aU A outer s H E).m_ (fT st) t∧t {nx:=fun _ H'=>Q .aO H',rt:=Q} (start N vs) H):aT P w K mg base bV (k+1) f fd ps sp:=by
 obtain ⟨oc,od,kV,doc,pm,an,aU,ct,fH,rfl,lk,fF⟩:=F.ex;refine Bs lk fF S len fun A outer s H vs Q E hr ji=>?_;obtain ⟨t,h,q⟩:=jU aU A outer s H vs Q E hr ji;exact ⟨t,h.m_,q⟩
theorem fk.cA(F:fk K x qual st f fd)(S:bB N ps (aR st))
  (jU:∀(aU:Value) (A:Around) (outer:List Env) (s:Shared) (H:Hp) (vs:List V) (Q:VK) (E:XK),cF k (A.deeper (envOfC qual (aR st) s.heap.objs.size f aU))→sp vs H Q E→
   ∃t,eZ (iP bV P w K mg base N qual (aR st) f aU A outer s H E).m_ (fT st) t∧t {nx:=fun _ H'=>Q .aO H',rt:=Q} (start N vs) H)
  (len:∀vs H Q E,sp vs H Q E→vs.length=ps.length:=by intro vs H Q E h;repeat first | (obtain ⟨rfl,_⟩:=h;rfl) | (subst h;rfl) | obtain ⟨_,h⟩:=h):aT P w K mg base bV (k+1) f fd ps sp:=F.ok S len jU
theorem fk.binds(F:fk K x qual st f fd)
  (h:∀(kV doc pm:Value) (an:Option Addr) (aU ct:Value) (us:List Value),us.length=ps.length→bindArgs (PySem.W.fnOf x qual (iQ st) (fT st) (aR st) .none kV doc pm an aU ct) ⟨us,[]⟩=pure (ps.zip us)):Binds K fd ps []:=by
 obtain ⟨oc,od,kV,doc,pm,an,aU,ct,fH,rfl,lk,fF⟩:=F.ex;exact .all (h kV doc pm an aU ct)
theorem fk.bY(F:fk K x qual st f fd)
  (h:∀(kV doc pm:Value) (an:Option Addr) (aU ct:Value) (us:List Value),us.length=ps.length→bindArgs (PySem.W.fnOf x qual (iQ st) (fT st) (aR st) .none kV doc pm an aU ct) ⟨us,[]⟩=pure (ps.zip us):=by intro _ _ _ _ _ _ us hl;rcases us with _ | ⟨_,_ | ⟨_,_ | ⟨_,_ | ⟨_,_ | ⟨_,_ | ⟨_,_ | ⟨_,_⟩⟩⟩⟩⟩⟩⟩ <;> first | rfl | (simp at hl;done)):Binds K fd ps []:=F.binds h
theorem bZ{oc:Value}{od an:Option Addr}{fH:Array (Option Value)}{kV doc pm aU ct:Value}(l:K.lookup f=some ⟨oc,od,.func (PySem.W.fnOf x qual (iQ st) (fT st) (aR st) .none kV doc pm an aU ct),fH⟩)
  (c:PySem.W.codeIn K aU qual=true) (k:PySem.W.keepIn K (.ref f)=true):fk K x qual st f (PySem.W.fnOf x qual (iQ st) (fT st) (aR st) .none kV doc pm an aU ct):=⟨⟨oc,od,kV,doc,pm,an,aU,ct,fH,rfl,l,c⟩,k⟩
end
theorem b_(h:n≤1000):n<sizeLine:=eK h (by decide)
section
variable {X:Cx}
theorem pv(i:Nat){pos:Pos}(hN:X.N[i]?=some x:=by rfl)(hv:lO X.env.scope x:=by first | exact Or.inl rfl | exact Or.inr (Or.inl rfl) | exact Or.inr (Or.inr rfl))(hd:(x == ("__debug__":Str))=false:=by decide)
  (fF:(x == ("__classdict__":Str))=false:=by decide):PE X (.Name x pos) (oX i):=Mw hN hv hd fF
end
variable {A B:Prop}
theorem bW(h:B):if false=true then A else B:=by rw [ar cJ];exact h
theorem dh(h:A):if true=true then A else B:=by rw [aq rfl];exact h
theorem cG{c:Prop}[Decidable c](h1:c→A)(h2:¬c→B):if c then A else B:=by
 by_cases h:c
 ·rw [aq h]
  exact h1 h
 ·rw [ar h]
  exact h2 h
def af(H H':Hp):Prop:=∀b o,H b=some o→H' b=some o
theorem af.refl(H:Hp):af H H:=fun _ _ h=>h
variable {H:Hp}
theorem af.trans{H1 H2:Hp}(a:af H H1)(b:af H1 H2):af H H2:=fun c o h=>b c o (a c o h)
theorem af.seq{H':Hp}{xs:List V}(e:af H H')(h:bh K H a xs):bh K H' a xs:=by
 rcases h with (h | ⟨o,h⟩) | h;·exact .inl (.inl (e _ _ h))
 ·exact .inl (.inr ⟨o,e _ _ h⟩)
 ·exact .inr h
end L2
set_option maxHeartbeats 4000000
namespace L2
open PySem PySem.Spec PyProof.Rows
variable {h:Heap} {a:Addr}
theorem cC.here{P:Program}{w:World}{H:Hp}{o:HO}(x:cC P w H h a o):∃ob,h.get? a=some ob:=by
 cases o with
 | lst xs=>obtain ⟨_,_,_,_,e⟩:=x;exact ⟨_,e⟩
 | tup xs=>obtain ⟨_,_,_,ob,e,_⟩:=x;exact ⟨_,e⟩
 | dK ak=>obtain ⟨_,_,_,_,ob,_,_,e,_⟩:=x;exact ⟨_,e⟩
 | dT ak=>obtain ⟨_,_,_,_,ob,_,_,e,_⟩:=x;exact ⟨_,e⟩
 | set S n=>obtain ⟨ob,_,_,_,e,_⟩:=x;exact ⟨_,e⟩
 | ins C dx fs=>obtain ⟨_,_,_,e,_⟩:=x;exact ⟨_,e⟩
 | own y=>exact x
 | xd fs=>obtain ⟨_,⟨_,_,_,e,_⟩,_⟩:=x;exact ⟨_,e⟩
 | xt lo hi=>obtain ⟨_,_,_,e⟩:=x;exact ⟨_,e⟩
 | fh ob u=>obtain ⟨e,_⟩:=x;exact ⟨_,e⟩
 | kH ps=>exact ⟨_,x⟩
 | met f y=>exact ⟨_,x⟩
 | ext φ=>exact x.2.1
structure ip (P:Program) (w:World) (outer:List Env) (H:Hp) (s:Shared) (H':Hp) (ea C:Addr) (B:Heap) (t:Addr) (s':Shared):Prop where
 os:s'.os=s.os
 bare:AllBare s'.gens
 fl:Heap.FlyingW B outer ea (.ref C) (.ref t) s'.heap
 au:bT P w H' B
 kb:∀b o,s.heap.get? b=some o→H b=none→b∉b7 outer→B.get? b=some o
 tb:∀b o,s.heap.get? b=some o→b∉b7 outer→∃o',B.get? b=some o'
 sl:∀b o,s.heap.get? b=some o→H b=none→b∈b7 outer→∃l,s'.heap.get? b=some {o with slots:=l}
 OE:∀b∈b7 outer,H b=none
 Gw:∀b o,s.heap.get? b=some o→H b=none→H' b=none
 d3:∀b xs,H b=some (.tup xs)→H' b=some (.tup xs)
 dS:∀b o u,H b=some (.fh o u)→H' b=some (.fh o u)
 d5:∀b ps,H b=some (.kH ps)→∃more,H' b=some (.kH (ps++more))
def dE(P:Program)(w:World):gc:=fun outer H s E e s'=>∃ea C H' B t,e=.ref ea∧ip P w outer H s H' ea C B t s'∧E (.ref C) none H'
section
variable {P:Program} {w:World} {outer:List Env} {H H':Hp} {s s':Shared} {ea C t:Addr} {B:Heap}
theorem ip.BF(f:ip P w outer H s H' ea C B t s'):H' ea=none:=by
 cases q:H' ea with
 | none=>rfl
 | some u=>obtain ⟨ob,e⟩:=(f.au ea u q).here;rw [f.fl.2.1] at e;cases e
theorem ip.un(f:ip P w outer H s H' ea C B t s')(st:B.StaysIn h)(up:s'.heap.UpToSlots h):Un (b7 outer) [] H H' s.heap h where
 keep:=fun b o e n hb _=>st b o (f.kb b o e n hb)
 slot:=fun b o e n hb _=>by obtain ⟨l,q⟩:=f.sl b o e n hb;obtain ⟨_,o2,q2,nf⟩:=f.fl.2.2.1.mem hb;rw [q] at q2;cases q2;obtain ⟨l2,q3⟩:=up b _ q nf;exact ⟨l2,q3⟩
 free:=fun b o e n _=>f.Gw b o e n
 there:=fun b o e _=>by
  by_cases hb:b∈b7 outer
  ·obtain ⟨l,q⟩:=f.sl b o e (f.OE b hb) hb
   obtain ⟨_,o2,q2,nf⟩:=f.fl.2.2.1.mem hb;rw [q] at q2;cases q2;obtain ⟨l2,q3⟩:=up b _ q nf;exact ⟨_,q3⟩
  ·obtain ⟨o',q⟩:=f.tb b o e hb
   exact ⟨o',st b o' q⟩
 d3:=f.d3
 dS:=f.dS
 d5:=f.d5
def ExcAt(ea C:Addr)(h:Heap):Prop:=∃oe,h.get? ea=some oe∧oe.cls=.ref C∧PySem.W.notCls oe=true
def rK(ea C:Addr):HO:=.ext (ExcAt ea C)
theorem OF{l:List Env}(x:Heap.FlyingW B l ea (.ref C) (.ref t) h):ExcAt ea C h:=by obtain ⟨oe,vs,e,c,d,_⟩:=x.first;refine ⟨oe,e,c,?_⟩;obtain ⟨_,_,dt,_⟩:=oe;cases d;rfl
theorem bT.exc{h:Heap}(x:bT P w H' h)(n:H' ea=none)(k:ExcAt ea C h):bT P w (upd H' ea (rK ea C)) h:=fun b u e=>by
 by_cases hb:b=ea
 ·subst hb
  rw [aB] at e;cases e;obtain ⟨oe,e1,e2⟩:=k;refine ⟨⟨oe,e1,e2⟩,⟨oe,e1⟩,fun h1 h2 ⟨o1,a1,a2⟩ z=>⟨o1,z o1 a1,a2⟩⟩
 ·rw [aH hb] at e
  refine (x b u e).gB (fun c v _ q=>q) (fun c q=>?_) fun c xs q=>?_
  ·rw [aH (fi q n)]
   exact q
  ·rw [aH (fi q n)]
   exact q
theorem Un.exc{fs ex:List Addr}{h h':Heap}(u:Un fs ex H H' h h')(n:H' ea=none)(k:∀b o,h.get? b=some o→b≠ea){o:HO}:Un fs ex H (upd H' ea o) h h' where
 keep:=u.keep
 slot:=u.slot
 free:=fun b ob e z hx=>by rw [aH (k b ob e)];exact u.free b ob e z hx
 there:=u.there
 d3:=fun b xs e=>by have q:=u.d3 b xs e;rw [aH (fi q n)];exact q
 dS:=fun b ob xs e=>by have q:=u.dS b ob xs e;rw [aH (fi q n)];exact q
 d5:=fun b ps e=>by obtain ⟨m,q⟩:=u.d5 b ps e;refine ⟨m,?_⟩;rw [aH (fi q n)];exact q
theorem ip.apart(f:ip P w outer H s H' ea C B t s'):∀b o,s.heap.get? b=some o→b≠ea:=fun b o e z=>by
 subst z;by_cases hb:b∈b7 outer
 ·obtain ⟨_,o2,q2,nf⟩:=f.fl.2.2.1.mem hb
  obtain ⟨oe,vs,q3,_,d,_⟩:=f.fl.first;rw [q2] at q3;cases q3;exact nf _ d
 ·obtain ⟨o',q⟩:=f.tb b o e hb
  rw [f.fl.2.1] at q;cases q
end
section
variable {X:Cx} {pins:aM} {σ:St} {H H':Hp} {s s':Shared} {ea C t:Addr} {B:Heap}
theorem ZF{P:Addr→Prop}:∀b∈([]:List Addr),P b:=fun _ z=>nomatch z
variable {tk:Nat}
theorem ip.land(I:Inv X pins σ H s)(f:ip X.prog X.w X.stack H s H' ea C B t s')(st:B.StaysIn h)(up:s'.heap.UpToSlots h):Inv X pins σ H' {s' with heap:=h,toks:=tk}:=
 I.iJ (s':={s' with heap:=h,toks:=tk}) (ch:=[]) f.os (f.un st up) (f.au.kept fun b o e=>st b o e) f.bare (fun _ z=>nomatch z)
theorem ip.OG(I:Inv X pins σ H s)(f:ip X.prog X.w X.stack H s H' ea C B t s')(x:Heap.FlyingW B X.stack ea (.ref C) (.ref t) h)(up:s'.heap.UpToSlots h):Inv X pins σ (upd H' ea (rK ea C)) {s' with heap:=h,toks:=tk}:=
 I.iJ (s':={s' with heap:=h,toks:=tk}) (ch:=[]) f.os ((f.un x.1 up).exc f.BF f.apart) ((f.au.kept fun b o e=>x.1 b o e).exc f.BF (OF x)) f.bare (fun _ z=>nomatch z)
structure rM (X:Cx) (E:XK):Prop where
 ie:X.stack=X.env::X.outer
 fr:X.env.frame=some X.env.locals
 ex:X.ex=[]
 xe:X.xe=fun e s'=>wpAny (model X.prog X.w) X.A (leaving X.env e) (fun _ gG=>dE X.prog X.w X.outer X.H₀ X.s₀ E e gG) (fun e' gG=>dE X.prog X.w X.outer X.H₀ X.s₀ E e' gG) s'
theorem x8{env:Env}{outer:List Env}{L:Addr}(h:env.frame=some L):b7 (env::outer)=L::b7 outer:=by unfold b7;rw [wR,h]
variable {E:XK}
theorem ip.leave(L:rM X E)(I:Inv X pins σ H s)(f:ip X.prog X.w X.stack H s H' ea C B t s')(x:Heap.FlyingW B X.outer ea (.ref C) (.ref t) h)(up:s'.heap.UpToSlots h):ip X.prog X.w X.outer X.H₀ X.s₀ H' ea C B t {s' with heap:=h}:=by
 have nL:∀b o,X.s₀.heap.get? b=some o→b≠X.env.locals:=fun b o e=>dB (cw (aZ e) I.ok.above);have ns:∀b o,X.s₀.heap.get? b=some o→b∉b7 X.outer→b∉b7 X.stack:=fun b o e nb z=>by
  rw [L.ie,x8 L.fr] at z;rcases dq.mp z with z | z;·exact nL b o e z
  ·exact nb z
 have nx:∀b:Addr,b∉X.ex:=fun b z=>by rw [L.ex] at z;cases z
 refine ⟨f.os.trans I.os,f.bare,x,f.au,fun b o e n nb=>?_,fun b o e nb=>?_,fun b o e n hb=>?_,I.ok.kJ,fun b o e n=>?_,fun b xs e=>f.d3 b xs (I.base.d3 b xs e),fun b o u e=>f.dS b o u (I.base.dS b o u e),fun b ps e=>?_⟩;·exact f.kb b o (I.base.keep b o e n nb (nx b)) (I.base.free b o e n (nx b)) (ns b o e nb)
 ·obtain ⟨o',e'⟩:=I.base.there b o e (nx b)
  exact f.tb b o' e' (ns b o e nb)
 ·obtain ⟨l,q⟩:=I.base.slot b o e n hb (nx b)
  have hs:b∈b7 X.stack:=by rw [L.ie,x8 L.fr];exact fO _ hb
  obtain ⟨l2,q2⟩:=f.sl b _ q (I.base.free b o e n (nx b)) hs;obtain ⟨_,o2,q3,nf⟩:=f.fl.2.2.1.mem hs;rw [q2] at q3;cases q3;obtain ⟨l3,q4⟩:=up b _ q2 nf;exact ⟨l3,q4⟩
 ·obtain ⟨o',e'⟩:=I.base.there b o e (nx b)
  exact f.Gw b o' e' (I.base.free b o e n (nx b))
 ·obtain ⟨m1,e1⟩:=I.base.d5 b ps e
  obtain ⟨m2,e2⟩:=f.d5 b _ e1;exact ⟨m1++m2,by rw [e2,Array.append_assoc]⟩
theorem jj:Passes (dE X.prog X.w) X (fun _ _ _=>False):=fun pins σ H s e s' I h=>by obtain ⟨_,_,_,_,_,_,_,q⟩:=h;exact q.elim
theorem pe(L:rM X E):Passes (dE X.prog X.w) X E:=fun pins σ H s e s' I h=>by
 obtain ⟨ea,C,H',B,t,rfl,f,q⟩:=h;rw [L.xe];refine wpAny_leaves_onW (by rw [I.ok.frames,L.ie]) L.fr (by have z:=f.fl;rw [L.ie] at z;exact z) fun h' x up=>?_
 exact ⟨ea,C,H',B,t,rfl,f.leave L I x up,q⟩
end
variable {K:aA}
theorem BG{C:Addr}{iS:List Value}{newId:String}(cD:K.In h)(hq:PySem.W.excIn K C iS newId=true) :
  ∃bm N nm qn bs hdct sn sub ab col dd k0 k1 k2 k3 k5 mN,h.get? C=some (excClassObj nm qn C N bs bm hdct sn sub ab col dd k0 k1 k2 k3 k5 newId)∧h.Ns N mN∧mN "__init__"=none∧OwnTail h iS bm∧PySem.W.mroIn K C=fun b=>some ((Value.ref C::bm).contains b):=by
 unfold PySem.W.excIn at hq
 split at hq
 ·rename_i ph cls slt look
  split at hq
  ·rename_i CC rest a0 a1 a2 a3 nn a5 em es
   simp only [uI,kA,Bool.not_eq_true'] at hq;obtain ⟨⟨⟨⟨⟨e1,e2⟩,e3⟩,e4⟩,e5⟩,e6⟩:=hq;subst e1 e2;have x9:PySem.W.mroIn K CC=fun b=>some ((Value.ref CC::rest).contains b):=by
    funext b
    unfold PySem.W.mroIn PySem.W.clsIn;rw [look];simp [em]
   obtain ⟨c1,c2,c3,c4,c5,c6,c7,c8,c9,OH,ZG⟩:=cls;dsimp only at em e3 e5 e6;subst em e3;have OI:slt = #[a0,a1,a2,a3,some (.builtin nn),a5]:=by obtain ⟨ll⟩:=slt;simp only at es;rw [es]
   subst OI;exact ⟨rest,c4,c1,c5,c2,c6,c7,c8,c9,OH,ph,a0,a1,a2,a3,a5,_,cD _ _ look,.of_isNs (PySem.W.isNs_of_in cD e5),PySem.W.nsMap_none_of_in cD e5 e6,PySem.W.tail_of_in cD e4,x9⟩
  ·cases hq
 ·cases hq
section
variable {X:Cx} {E:XK} {x:Str} {C:Addr} {np gX pos:Pos} {e:Expr} {es:List Expr} {ta:TA} {B newId OJ:String} {iS:List Value}
def OK(C:Addr)(E:XK)(ta:TA):TS:=fun _ σ H=>ta σ H fun vs H1=>vs.length≤sizeLine∧E (.ref C) none H1
theorem vc(L:rM X E)(hc:X.calm=true)(FB:ExcBaseFacts B newId OJ iS)(hq:PySem.W.excIn X.K C iS newId=true)(hg:Gl X x)(hm:X.mg x=some (.ref C))(ha:PA X (e::es) ta)
  (hs:starEach (e::es) X.env=(false,eval e X.env)::starEach es X.env:=by rfl) (hp:(backTo gX (starEach es X.env)).any (·.1)=false:=by rfl) (hd:(x == ("__debug__":Str))=false:=by decide) :
  PS X (.Raise (some (.Call (.Name x np) (e::es) [] gX)) none pos) (OK C E ta):=by
 intro pins s σ H D I h;obtain ⟨bm,N,nm,qn,bs,hdct,sn,sub,ab,col,dd,k0,k1,k2,k3,k5,mN,hC,hN,Gx,T,_⟩:=BG I.ok.mod.cD hq
 refine wpAny_Raise_call_subT (C:=C) (nm:=nm) (q:=qn) (N:=N) (bs:=bs) (bm:=bm) (hdct:=hdct) (sn:=sn) (sub:=sub) (ab:=ab) (col:=col) (dd:=dd) (k0:=k0) (k1:=k1) (k2:=k2) (k3:=k3) (k5:=k5) FB (mN:=mN) (T.hasType FB.hasBase) (I.ok.hd hc)
  (by rw [hs];show (false || (backTo gX (starEach es X.env)).any (·.1))=false;rw [hp];rfl) Gx (rq I hg hm ⟨rfl,?_⟩ hd)
 have h1:=ha gX pins s σ H _ I h;rw [hs] at h1 ⊢;refine Calls.evalArgs_plain (aF h1 fun us s2 ⟨vs,H1,I1,r,hl,q⟩=>⟨rfl,by rw [←r.length];exact hl,I1.bk _ _ hC,hN.keeps I1.bk,T.keeps I1.bk,fun h' ea mk=>?_⟩)
 rw [L.xe];have nL:∀b o,X.s₀.heap.get? b=some o→b≠X.env.locals:=fun b o q=>dB (cw (aZ q) I1.ok.above);have ns:∀b o,X.s₀.heap.get? b=some o→b∉b7 X.outer→b∉b7 X.stack:=fun b o q nb z=>by
  rw [L.ie,x8 L.fr] at z;rcases dq.mp z with z | z;·exact nL b o q z
  ·exact nb z
 have nx:∀b:Addr,b∉X.ex:=fun b z=>by rw [L.ex] at z;cases z
 have ff:s2.heap.FunFrames (PySem.W.hideAll s2.heap (b7 X.stack)) (X.env::X.outer):=by have z:=I1.stack;rw [←L.ie];exact PySem.W.funFrames_hide z fun env he a hf=>List.mem_filterMap.mpr ⟨env,he,hf⟩
 refine wpAny_leaves_madeW (base:=PySem.W.hideAll s2.heap (b7 X.stack)) (h:=s2.heap) (by rw [I1.ok.frames,L.ie]) L.fr (fun b o q=>PySem.W.of_hideAll _ q) ff mk fun h2 t fl _ _ up=>?_
 refine ⟨ea,C,H1,_,t,rfl,⟨I1.os,I1.bare,fl,fun a o e1=>?_,fun b o e1 n nb=>?_,fun b o e1 nb=>?_,fun b o e1 n hb=>?_,I1.ok.kJ,fun b o e1 n=>?_,I1.base.d3,I1.base.dS,I1.base.d5⟩,q⟩
 ·refine (I1.au a o e1).gB (fun b u hb e2=>wQ _ e2 fun z=>?_) (fun _ z=>z) fun _ _ z=>z
  have n0:=I1.m9 b z;rcases hb with hb | hb
  ·subst hb
   rw [e1] at n0;cases n0
  ·rw [hb] at n0
   cases n0
 ·exact wQ _ (I1.base.keep b o e1 n nb (nx b)) (ns b o e1 nb)
 ·obtain ⟨o',e2⟩:=I1.base.there b o e1 (nx b)
  exact ⟨o',wQ _ e2 (ns b o e1 nb)⟩
 ·obtain ⟨l,e2⟩:=I1.base.slot b o e1 n hb (nx b)
  have kT:b∈b7 X.stack:=by rw [L.ie,x8 L.fr];exact fO _ hb
  obtain ⟨_,o2,e3,nf⟩:=I1.stack.mem kT;rw [e2] at e3;cases e3;obtain ⟨l2,e4⟩:=up b _ (mk.keeps _ _ e2) nf;exact ⟨l2,e4⟩
 ·obtain ⟨o',e2⟩:=I1.base.there b o e1 (nx b)
  exact I1.base.free b o e1 n (nx b)
end
def BH(X:Cx)(pins:aM)(σ:St)(E:XK)(e:Value)(s':Shared):Prop:=∃s₁ H₁,Inv X pins σ H₁ s₁∧dE X.prog X.w X.stack H₁ s₁ E e s'
abbrev TX:=St→Hp→VK→XK→Prop
def Gy(X:Cx)(e:Expr)(t:TX):Prop:=
 ∀(pins:aM) (s:Shared) (σ:St) (H:Hp) (Q:VK) (E:XK),Inv X pins σ H s→t σ H Q E→wpAny (model X.prog X.w) X.A (eval e X.env) (EP X pins σ Q) (BH X pins σ E) s
abbrev x_:=Ends→XK→St→Hp→Prop
def Gz(X:Cx)(st:List Stmt)(t:x_):Prop:=
 ∀(pins:aM) (s:Shared) (σ:St) (H:Hp) (D:Ends) (E:XK),Inv X pins σ H s→t D E σ H→wpAny (model X.prog X.w) X.A (execs st X.env) (SP X pins D) (BH X pins σ E) s
section
variable {X:Cx} {k:Nat} {f C:Addr} {fd:FuncData} {ps:List Str} {sp:Sp} {cX:List V} {ds:List Value} {x m:Str} {p pos apos:Pos} {e o:Expr} {es:List Expr} {ta:TE} {t:TA}
theorem OL{pins:aM}{σ:St}{H:Hp}{s:Shared}{Q:VK}{E:XK}{us:List Value}{vs:List V}(F:aT X.prog X.w X.K X.mg X.base (dE X.prog X.w) k f fd ps sp)(hr:cF k X.A)(hb:Binds X.K fd ps ds)(hd:Vals cX ds)
  (I:Inv X pins σ H s) (r:Vals vs us) (h:sp (vs++cX) H Q E):wpAny (model X.prog X.w) X.A (call (.ref f) us) (EP X pins σ Q) (BH X pins σ E) s:=by
 have r2:Vals (vs++cX) (us++ds):=r.append hd;have hl:(us++ds).length=ps.length:=by rw [←r2.length];exact F.len _ _ _ _ h
 refine wpAny_call (uF (F.run X.A X.stack s H ⟨us,[]⟩ (us++ds) (vs++cX) Q E hr I.Br (hb s us I.cO hl) r2 h) fun r s' hq=>?_);cases r with
 | error e=>exact ⟨s,H,I,hq⟩
 | ok fl=>
  cases fl with
  | ret u=>exact I.after hq
  | next=>exact False.elim hq
  | brk=>exact False.elim hq
  | cont=>exact False.elim hq
def OM(sp:Sp)(cX:List V)(t:TA):TX:=fun σ H Q E=>t σ H fun vs H1=>sp (vs++cX) H1 Q E
theorem ON(F:aT X.prog X.w X.K X.mg X.base (dE X.prog X.w) k f fd ps sp)(hr:cF k X.A)(hg:Gl X x)(hm:X.mg x=some (.ref f))(hk:PySem.W.keepIn X.K (.ref f)=true)(hb:Binds X.K fd ps ds)(hd:Vals cX ds)
  (ha:PA X.m_ (e::es) t) (jT:(x == ("__debug__":Str))=false:=by decide) (he:starEach (e::es) X.env=(false,eval e X.env)::starEach es X.env:=by rfl) (il:(backTo pos (starEach es X.env)).any (·.1)=false:=by rfl) :
  Gy X (.Call (.Name x p) (e::es) [] pos) (OM sp cX t):=by
 intro pins s σ H Q E I h;refine uH (rq I hg hm ?_ jT);refine w5 (h₀:=X.base) I.ok.mod.cD hk (a_ (ha pos pins s σ H _ (I.jN _) h) (fun us s1 ⟨vs,H1,I1,r,q⟩=>⟨I1.cO,?_⟩) fun _ _ z=>z.elim) he il;exact OL F hr hb hd I1.lS r q
variable {te:TX} {i:Nat} {pos':Pos}
def OO(te:TX):x_:=fun D E σ H=>te σ H (fun _ H1=>D.nx σ H1) E
theorem OP(he:Gy X e te)(hs:swapsWith e none pos.line X.env=pure false:=by rfl):Gz X [.Expr e pos] (OO te):=by intro pins s σ H D E I h;refine wpAny_execs_cons (a_ (Q:=fun f s'=>f=.next∧SP X pins D .next s') (wpAny_Expr_any (a_ (he pins s σ H _ E I h) (fun v s1 ⟨y,H1,I1,r1,q1⟩=>⟨rfl,σ,H1,I1,q1⟩) fun _ _ z=>z) I.quiet hs) (fun f s1 q=>?_) fun _ _ z=>z);obtain ⟨rfl,q⟩:=q;exact qN q
end
abbrev Cx.jk (X:Cx) (ea:Addr):Cx:={X with A:=X.A.mark (some (.ref ea)),calm:=false,xe:=fun _ _=>False}
section
variable {X:Cx} {pins:aM} {σ:St} {H:Hp} {s:Shared} {ea:Addr}
theorem Cx.Ok.jk(ok:X.Ok):(X.jk ea).Ok:=
 ⟨ok.mod,ok.kind,ok.glob,ok.blt,ok.above,ok.inj,ok.has,ok.kI,(fun z=>nomatch z),ok.frames,ok.ie,ok.A7,ok.bs,ok.fj,ok.jJ,ok.jK,ok.iI,ok.kJ⟩
theorem Inv.jk(I:Inv X pins σ H s):Inv (X.jk ea) pins σ H s:=⟨I.ok.jk,I.os,I.bare,I.base,I.loc,I.cell,I.free,I.fR,I.pin,I.au,I.len⟩
theorem Inv.rN(ok:X.Ok)(I:Inv (X.jk ea) pins σ H s):Inv X pins σ H s:=⟨ok,I.os,I.bare,I.base,I.loc,I.cell,I.free,I.fR,I.pin,I.au,I.len⟩
theorem SP.rN(ok:X.Ok){D:Ends}{f:Flow}(h:SP (X.jk ea) pins D f s):SP X pins D f s:=by
 cases f with
 | next=>obtain ⟨a,b,I,q⟩:=h;exact ⟨a,b,I.rN ok,q⟩
 | brk=>obtain ⟨a,b,I,q⟩:=h;exact ⟨a,b,I.rN ok,q⟩
 | cont=>obtain ⟨a,b,I,q⟩:=h;exact ⟨a,b,I.rN ok,q⟩
 | ret u=>obtain ⟨v,a,b,I,r,q⟩:=h;exact ⟨v,a,b,I.rN ok,r,q⟩
theorem ya{M:Model}{A:Around}{E:aJ}{i:Nat}{n:Str}{pos:Pos}{Q:Unit→Shared→Prop}(I:Inv X pins σ H s)(hN:X.N.Nodup)(hi:X.N[i]?=some n)(hk:X.env.scope.names.lookup n=some .local)
  (h:∀s',Inv X pins (σ.set i none) H s'→Q () s'):wpAny M A (do bindName X.env n .none;unbindBehindTheSuite X.env n pos) Q E s:=by
 obtain ⟨m,hn,hl⟩:=id I.loc
 refine wpAny_nameGoes_keeps hk hn (by rw [I.ok.kind];rfl) fun h' v kL hs=>h _ ?_
 have jL:=I.jL
 have xA:i<σ.length:=by rw [I.len];exact (aW.mp hi).1
 have old:∀b o,X.s₀.heap.get? b=some o→b≠X.env.locals:=fun b o e=>dB (cw (aZ e) I.ok.above)
 refine ⟨I.ok,I.os,I.bare,⟨fun b o e z hb hx=>?_,fun b o e z hb hx=>?_,I.base.free,fun b o e hx=>?_,I.base.d3,I.base.dS,I.base.d5⟩,⟨_,kL,fun j y v' e1 e2 e3=>?_⟩,fun y c e=>?_,I.free,I.fR,fun p hp=>?_,fun b ob e=>?_,by simpa using I.len⟩
 ·exact (hs.2 b (old b o e)).trans (I.base.keep b o e z hb hx)
 ·obtain ⟨sl,q⟩:=I.base.slot b o e z hb hx
  exact ⟨sl,(hs.2 b (old b o e)).trans q⟩
 ·obtain ⟨o',q⟩:=I.base.there b o e hx
  exact ⟨o',(hs.2 b (old b o e)).trans q⟩
 ·by_cases hj:j=i
  ·subst hj
   rw [ku xA] at e2
   cases e2
  ·rw [kz (Ne.symm hj)] at e2
   obtain ⟨u',r',q⟩:=hl j y v' e1 e2 e3
   refine ⟨u',r',?_⟩
   rcases q with ⟨k,z⟩ | ⟨k,c,z1,z2⟩
   ·refine .inl ⟨k,?_⟩
    have ne:y≠n:=fun z=>hj (A_ hN e1 (z▸hi))
    simp [ne,z]
   ·exact .inr ⟨k,c,z1,z2.sameBut hs (jL y c z1)⟩
 ·obtain ⟨w',z⟩:=I.cell y c e
  exact ⟨w',z.sameBut hs (jL y c e)⟩
 ·obtain ⟨a1,a2,a3,a4⟩:=I.pin p hp
  exact ⟨(hs.2 _ a3).trans a1,a2,a3,a4⟩
 ·refine (I.au b ob e).gB (fun c w' hc q=>(hs.2 c ?_).trans q) (fun _ q=>q) fun _ _ q=>q
  intro z
  have z':c=X.env.locals:=z
  have fr:=I.free
  rcases hc with hc | hc
  ·rw [←z',hc,e] at fr
   cases fr
  ·rw [←z',hc] at fr
   cases fr
end
section
variable {M:Model} {A:Around} {E:aJ} {h:Heap} {g:Array GenState} {d:Drawn} {t:Nat} {os:OsState} {e:Addr} {oe:Obj} {Q:Bool→Shared→Prop}
variable {nm q GA q':Str} {C N D N':Addr} {bs bm GB yc:List Value} {hdct GC:Bool} {sn GD:List Str} {sub GF:List Value} {ab GG:Bool} {col GH:Option Bool} {dd pj:Option Addr} {k0 k1 k2 k3 k5 j0 j1 j2 j3 j5:Option Value} {newId OQ:String}
theorem OR(hC:h.get? C=some (excClassObj nm q C N bs bm hdct sn sub ab col dd k0 k1 k2 k3 k5 newId))(hD:h.get? D=some (excClassObj GA q' D N' GB yc GC GD GF GG GH pj j0 j1 j2 j3 j5 OQ))(he:h.get? e=some oe)(Ba:oe.cls=.ref C)
  (pb:yc.contains (.type "BaseException")=true) (OS:(Value.ref C::bm).contains (.ref D)=true) (hq:Q true ⟨h,g,d,t,os⟩):wpAny M A (excMatches (.ref e) (.ref D)) Q E ⟨h,g,d,t,os⟩:=by
 have OT:(Value.ref D::yc).contains (.type "BaseException")=true:=by rw [List.contains_cons,pb,Bool.or_true]
 have f:=tc_notTuple;unfold excMatches
 repeat (first | (with_reducible refine oG he ?_;rw [Ba]) | with_reducible refine oG hD ?_ | (with_reducible refine wpAny_isSubtype_exc hD ?_;rw [OT]) | (with_reducible refine wpAny_isSubtype_exc hC ?_;rw [OS]) | wp_step)
 exact hq
end
def OU(K:aA)(iS:List Value)(newId:String)(C D:Addr):Prop:=PySem.W.excIn K C iS newId=true∧PySem.W.mroIn K C (.ref D)=some true
section
variable {X:Cx} {body:List Stmt} {b₀:Stmt} {GI:List Stmt} {np OV pos:Pos} {x n:Str} {D:Addr} {tb:x_} {ts:TS} {iS:List Value} {newId:String} {i:Nat}
def Ends.GJ(En:Ends)(i:Nat):Ends:={nx:=fun σ H=>En.nx (σ.set i none) H,rt:=En.rt,bk:=fun σ H=>En.bk (σ.set i none) H,ct:=fun σ H=>En.ct (σ.set i none) H}
def OW(K:aA)(iS:List Value)(newId:String)(D:Addr)(i:Nat)(tb:x_)(ts:TS):TS:=fun En σ H=>
 tb En (fun c _ H'=>∃C,c=.ref C∧OU K iS newId C D∧∀ea,H' ea=none→ts (En.GJ i) (σ.set i (some (.ref ea))) (upd H' ea (rK ea C))) σ H
theorem OX(BI:X.stack=X.env::X.outer)(yd:X.env.frame=some X.env.locals)(hN:X.N.Nodup)(hi:X.N[i]?=some n)(hk:X.env.scope.names.lookup n=some .local)(hb:Gz X body tb)(hs:∀ea,eZ (X.jk ea) (b₀::GI) ts)(hg:Gl X x)(hm:X.mg x=some (.ref D))
  (hq:PySem.W.excIn X.K D iS newId=true) (pb:iS.contains (.type "BaseException")=true) (hd:(x == ("__debug__":Str))=false:=by decide) :
  PS X (.Try body [.ExceptHandler (some (.Name x np)) (some n) (b₀::GI) OV] [] [] pos) (OW X.K iS newId D i tb ts):=by
 intro pins s σ H En I h;refine wpAny_Try_except (a_ (hb pins s σ H En _ I h) (fun f s1 q=>?_) fun e s1 q=>?_)
 ·cases f with
  | next=>exact qN q
  | brk=>exact q
  | cont=>exact q
  | ret u=>exact q
 ·obtain ⟨s₁,H₁,I₁,ea,C',H',B,t,rfl,f,C,eC,⟨OY,x9⟩,OZ⟩:=q
  cases eC;have fl:=f.fl;rw [BI] at fl;refine wpAny_looks_onW (by rw [I.ok.frames,BI]) yd fl fun h₄ held O0=>?_
  refine wpAny_landsW held fun h₅ BJ O1=>?_;have up:=O0.trans O1;have I₅:Inv X pins σ H' {s1 with heap:=h₅}:=f.land (tk:=s1.toks) I₁ BJ.1 up;obtain ⟨ob,O2,O3⟩:=BJ.there;refine wpAny_handleBy_cons (codeAny_handlers_test ?_) (by intro z;cases z)
  refine rq (X:=X.jk ea) I₅.jk hg hm ?_ hd;obtain ⟨bm,N,nm,qn,bs,hdct,sn,sub,ab,col,dd,k0,k1,k2,k3,k5,mN,hC,ZH,Gx,T,eM⟩:=BG I₅.cO OY;obtain ⟨yc,N',GA,ZI,GB,GC,GD,GF,GG,GH,pj,j0,j1,j2,j3,j5,ZJ,hD,ZK,ZL,T',_⟩:=BG I₅.cO hq;rw [eM] at x9;refine OR hC hD O2 O3 (T'.hasType pb) (Option.some.inj x9) (codeAny_handlers_suite_as ?_);refine lands_againW BJ fun h₆ O4 O5=>?_;have GK:=O4;rw [←BI] at GK;have I₆:Inv X pins σ (upd H' ea (rK ea C')) {s1 with heap:=h₆}:=f.OG (tk:=s1.toks) I₁ GK (up.trans O5);refine rp (X:=X.jk ea) (v:=.ref ea) I₆.jk hN hi (.inl hk) rfl (fun s2 I2=>?_) (.inr hk);refine a_ (hs ea pins _ _ _ (En.GJ i) I2 (OZ ea f.BF)) (fun f s' q=>?_) fun _ _ z=>z.elim;have q:=q.rN I.ok;cases f with
  | next=>obtain ⟨a,b,J,q⟩:=q;exact ya J hN hi hk fun s3 J3=>⟨_,_,J3,q⟩
  | brk=>obtain ⟨a,b,J,q⟩:=q;exact ya J hN hi hk fun s3 J3=>⟨_,_,J3,q⟩
  | cont=>obtain ⟨a,b,J,q⟩:=q;exact ya J hN hi hk fun s3 J3=>⟨_,_,J3,q⟩
  | ret u=>obtain ⟨v,a,b,J,r,q⟩:=q;exact ya J hN hi hk fun s3 J3=>⟨v,_,_,J3,r,q⟩
end
section
variable {P:Program} {w:World} {K:aA} {mg:cz} {base:Heap}
variable {x qual:Str} {st:Stmt} {f:Addr} {fd:FuncData} {N ps:List Str} {k:Nat} {sp:Sp}
theorem fk.BK(F:fk K x qual st f fd)(S:bB N ps (aR st))(len:∀vs H Q E,sp vs H Q E→vs.length=ps.length)
  (jU:∀(aU:Value) (A:Around) (outer:List Env) (s:Shared) (H:Hp) (vs:List V) (Q:VK) (E:XK),cF k (A.deeper (envOfC qual (aR st) s.heap.objs.size f aU))→sp vs H Q E→
   rM (iP (dE P w) P w K mg base N qual (aR st) f aU A outer s H E) E→
   ∃t,eZ (iP (dE P w) P w K mg base N qual (aR st) f aU A outer s H E) (fT st) t∧t {nx:=fun _ H'=>Q .aO H',rt:=Q} (start N vs) H):aT P w K mg base (dE P w) (k+1) f fd ps sp:=by
 obtain ⟨oc,od,kV,doc,pm,an,aU,ct,fH,rfl,lk,fF⟩:=F.ex;exact Bs lk fF S len fun A outer s H vs Q E hr ji=>jU aU A outer s H vs Q E hr ji ⟨rfl,rfl,rfl,rfl⟩
theorem fk.dF(F:fk K x qual st f fd)(S:bB N ps (aR st))
  (jU:∀(aU:Value) (A:Around) (outer:List Env) (s:Shared) (H:Hp) (vs:List V) (Q:VK) (E:XK),cF k (A.deeper (envOfC qual (aR st) s.heap.objs.size f aU))→sp vs H Q E→
   rM (iP (dE P w) P w K mg base N qual (aR st) f aU A outer s H E) E→
   ∃t,eZ (iP (dE P w) P w K mg base N qual (aR st) f aU A outer s H E) (fT st) t∧t {nx:=fun _ H'=>Q .aO H',rt:=Q} (start N vs) H)
  (len:∀vs H Q E,sp vs H Q E→vs.length=ps.length:=by intro vs H Q E h;repeat first | (obtain ⟨rfl,_⟩:=h;rfl) | (subst h;rfl) | obtain ⟨_,h⟩:=h):aT P w K mg base (dE P w) (k+1) f fd ps sp:=F.BK S len jU
end
structure nH (K:aA) (C:Addr):Prop where
 ci:PySem.W.hasDictIn K C=true
 ga:PySem.W.findIn K (.ref C) "__getattribute__"=some (some (.builtin "BaseException.__getattribute__"))
 gn:PySem.W.findIn K (.ref C) "__getattr__"=some none
 ca:PySem.W.findIn K (.ref C) "__class__"=some (some (.builtin "object.__class__"))
 mo:PySem.W.mroIn K C (.type "object")=some true
 mb:PySem.W.mroIn K C (.type "BaseException")=some true
section
variable {prog:Program} {w:World} {A:Around} {E:aJ} {h:Heap} {g:Array GenState} {d:Drawn} {t:Nat} {os:OsState} {K:aA} {a C:Addr} {o:Obj}
theorem O6{R:Result→Shared→Prop}(cD:K.In h)(c:nH K C)(hx:h.get? a=some o)(hc:o.cls=.ref C)(hq:R (.ok (.ret (.ref C))) ⟨h,g,d,t,os⟩) :
  codeAny (model prog w) A (.call (.builtin "getset_descriptor.__get__") ⟨[.builtin "object.__class__",.ref a,.ref C],[]⟩) R ⟨h,g,d,t,os⟩:=by
 have GL:(⟨h,g,d,t,os⟩:Shared).TypeIs (.builtin "object.__class__") "getset_descriptor":=AI;have L1:=PySem.W.looks_mroIn (M:=model prog w) cD c.mo;have ow:=F.owner_object_class;refine codeAny_call_builtin F.slot_gs_get.plain F.entry_gs_get (F.slot_gs_get.check _ _ _ _ _ _ _ _ GL (F.args_gs_get _ _ _) ?_)
 repeat (any_goals (first | assumption | (with_reducible refine oG hx ?_;rw [hc]) | (rw [ow];with_reducible refine L1.at ?_) | wp_step))
 refine ⟨Code.quiet_builtin _ (by decide +kernel),codeAny_builtin F.entry_object_class ?_⟩
 repeat (any_goals (first | assumption | (with_reducible refine oG hx ?_;rw [hc]) | wp_step))
variable {tk:Tok}
theorem O7{Q:Fin→Shared→Prop}(cD:K.In h)(c:nH K C)(hx:h.get? a=some o)(hc:o.cls=.ref C)(hq:Q (.done (.ret (.ref C))) ⟨h,g,d,t,os⟩) :
  wpAny (model prog w) A (Builtin.«object.__getattribute__» ⟨[.ref a,.str "__class__" tk],[]⟩) Q E ⟨h,g,d,t,os⟩:=by
 have GL:(⟨h,g,d,t,os⟩:Shared).TypeIs (.builtin "object.__class__") "getset_descriptor":=AI;have L1:=wY (M:=model prog w) cD c.ca;have f5:=AI;have f6:=F.slot_gs_get.lookup;have f7:=F.slot_gs_set.lookup
 repeat (any_goals (first | assumption | (with_reducible refine oG hx ?_;rw [hc]) | with_reducible refine L1.at ?_ | wp_step))
 refine O6 cD c hx hc ?_
 repeat (any_goals (first | assumption | wp_step))
theorem O8{M:Model}{nv:Value}{Q:Unit→Shared→Prop}(cD:K.In h)(c:nH K C)(hx:h.get? a=some o)(hc:o.cls=.ref C)(hq:Q () ⟨h,g,d,t,os⟩) :
  wpAny M A (checkBuiltinCall "BaseException.__getattribute__" ⟨[.ref a,nv],[]⟩) Q E ⟨h,g,d,t,os⟩:=by
 have hk:builtinKind "BaseException.__getattribute__"=some .slot:=by decide +kernel
 have hs:splitId "BaseException.__getattribute__"=some ("BaseException","__getattribute__"):=by decide +kernel
 have L1:=PySem.W.looks_mroIn (M:=M) cD c.mb;have ha:=F.args_bexc_ga (.ref a) nv;simp only [checkBuiltinCall,hk,hs];refine bG ?_;unfold isInstance
 repeat (first | (with_reducible refine oG hx ?_;rw [hc]) | with_reducible refine L1.at ?_ | wp_step)
 exact hq
theorem O9{fill expr:Bool}{Q:aJ}(cD:K.In h)(c:nH K C)(hx:h.get? a=some o)(hc:o.cls=.ref C)(hq:Q (.ref C) ⟨h,g,d,t,os⟩) :
  wpAny (model prog w) A (getAttrBy (.ref a) (.str "__class__" tk) fill expr) Q E ⟨h,g,d,t,os⟩:=by
 have f3:=F.attrBase_ValueError.ga.bind (.ref a);have z0:(expr && onTheHeap (Value.builtin "BaseException.__getattribute__"))=false:=by cases expr <;> rfl
 have z2:(Value.builtin "BaseException.__getattribute__" == Value.builtin "object.__getattribute__")=false:=by decide +kernel
 have z1:(onTheHeap (Value.ref C) && Value.builtin "BaseException.__getattribute__" == Value.builtin "object.__getattribute__")=false:=by rw [z2];rfl
 have L1:=wY (M:=model prog w) cD c.ga;have L2:=wY (M:=model prog w) cD c.gn
 repeat (any_goals (first | assumption | (with_reducible refine oG hx ?_;rw [hc]) | with_reducible refine L1.at ?_ | with_reducible refine L2.at ?_ | wp_step))
 refine codeAny_call_builtin F.attrBase_ValueError.ga.plain F.entry_bexc_ga (O8 cD c hx hc (O7 cD c hx hc ?_))
 repeat (any_goals (first | assumption | wp_step))
theorem O_{Q:Option Value→Shared→Prop}(cD:K.In h)(c:nH K C)(hx:h.get? a=some o)(hc:o.cls=.ref C)(hq:Q (some (.ref C)) ⟨h,g,d,t+1,os⟩) :
  wpAny (model prog w) A (getAttr? (.ref a) "__class__") Q E ⟨h,g,d,t,os⟩:=by
 unfold getAttr? getAttrBy?
 repeat (any_goals (first | assumption | with_reducible apply O9 cD c hx hc | wp_step))
theorem Pa(c:nH K C):PySem.W.KitX K (.ref a) (.ref C) (ExcAt a C) where
 ty:=fun M h _ k=>by obtain ⟨oe,e1,e2,_⟩:=k;exact e2▸(PySem.W.Looks.ld e1).andThen .now
 it:=fun M h cD _=>by
  obtain ⟨cd,hc,_⟩:=PySem.W.any_some c.ci;unfold PySem.W.clsIn at hc
  split at hc
  ·rename_i look
   intro A' Q' E' s' k q;unfold isType loadHead;exact bG (wpAny_loadPart (k _ _ (cD _ _ look)) (dC q))
  ·cases hc
 ne:=fun h tp dd ai n sl cD Pb=>by
  obtain ⟨cd,hc,_⟩:=PySem.W.any_some c.ci;refine Bool.eq_false_iff.mpr fun q=>?_;have e:C=tp:=Value.ref.inj (kA.mp q);subst e;unfold PySem.W.clsIn at hc
  split at hc
  ·rename_i look
   have z:=(cD _ _ look).symm.trans Pb;cases z
  ·cases hc
 ca:=fun{prog w A E Q s} cD k z=>by obtain ⟨oe,e1,e2,_⟩:=k;obtain ⟨h,g,d,t,os⟩:=s;exact O_ cD c e1 e2 z
end
def ye(a:Addr)(h:Heap):Prop:=∃o ep,h.get? a=some o∧o.ExactDict∧o.data=.dict #[] ep∧(a == sysModules)=false
theorem ye.vd(e:ye a h):PySem.W.KitAt a "dict" h:=by obtain ⟨o,_,e,c,_⟩:=e;exact ⟨o,e,c.1⟩
def GN(a:Addr):HO:=.ext (ye a)
inductive rO (K:aA) (H:Hp):V→Value→Prop where
 | of {x:V} {t:Value} (h:iO K H x t):rO K H x t
 | exc {a C:Addr} (e:H a=some (rK a C)) (c:nH K C):rO K H (.ref a) (.ref C)
 | ph {a:Addr} (e:H a=some (GN a)):rO K H (.ref a) (.type "dict")
def GO:V→Value
 | .ty n=>.type n
 | .ref a=>.ref a
 | _=>.none
def Pc:V→Bool
 | .ty _=>true
 | .ref _=>true
 | _=>false
def Pd(K:aA):List V→Hp→VK→Prop:=fun xs H Q=>∃x c t b,xs=[x,c]∧Pc c=true∧rO K H x t∧PySem.W.kitOne K t (GO c)=some b∧Q (.bl b) H
variable {X:Cx}
theorem fJ(hK:X.K=K:=by rfl):gT X (.builtin "isinstance") (Pd K):=by
 intro pins s σ H xs us Q I r h;subst hK;obtain ⟨x,c,t,b,rfl,hc,ty,e,q⟩:=h;obtain ⟨u,cv,rfl,rx,rc⟩:=vals2 r;have ec:cv=GO c:=by
  cases c with
  | ty n=>exact rc
  | ref a=>exact rc
  | _=>cases hc
 subst ec;cases ty with
 | of ty=>exact Nx I rx ty e fun tk=>⟨.bl b,H,I.tok tk,rfl,q⟩
 | @ph a ea=>cases rx;obtain ⟨k,_,_⟩:=(show cC X.prog X.w H s.heap a (.ext (ye a)) from I.au a _ ea);exact iD PySem.W.kitx_dict I.cO k.vd e (fun z=>nomatch z) fun tk=>⟨.bl b,H,I.tok tk,rfl,q⟩
 | @exc a C ea cc=>cases rx;obtain ⟨k,_,_⟩:=(show cC X.prog X.w H s.heap a (.ext (ExcAt a C)) from I.au a _ ea);exact iD (Pa cc) I.cO k e (fun z=>nomatch z) fun tk=>⟨.bl b,H,I.tok tk,rfl,q⟩
def jV:List V→List V→Bool
 | [],[]=>true
 | x::xs,y::ys=>fI x y && jV xs ys
 | _,_=>false
def Pe(K:aA)(neg:Bool):R2:=fun x y H Q=>∃a b xs ys,x=.ref a∧y=.ref b∧fG K H a xs∧fG K H b ys∧xs.all gf=true∧ys.all gf=true∧Q (.bl (if neg then !jV xs ys else jV xs ys)) H
theorem GP{A:Around}{s:Shared}:∀{xs ys:List V} {us vs:List Value},Vals xs us→Vals ys vs→xs.all gf=true→ys.all gf=true→
  ∃e:Nat→Bool,(∀j (h1:j<us.length) (h2:j<vs.length),SeqAt.EqAt A s us[j] vs[j] (e j))∧((List.range (min us.length vs.length)).all e && us.length == vs.length)=jV xs ys
 | [],[],_,_,.nil,.nil,_,_=>⟨fun _=>true,fun j h1=>absurd h1 (Nat.not_lt_zero _),by simp [jV]⟩
 | [],_::_,_,_,.nil,.cons _ _,_,_=>⟨fun _=>true,fun j h1=>absurd h1 (Nat.not_lt_zero _),by simp [jV]⟩
 | _::_,[],_,_,.cons _ _,.nil,_,_=>⟨fun _=>true,fun j _ h2=>absurd h2 (Nat.not_lt_zero _),by simp [jV]⟩
 | x::xs,y::ys,u::us,v::vs,.cons r1 t1,.cons r2 t2,f1,f2=>by
  rw [qS,uI] at f1 f2;obtain ⟨e,h,q⟩:=GP (A:=A) (s:=s) t1 t2 f1.2 f2.2;refine ⟨fun j=>match j with | 0=>fI x y | k+1=>e k,fun j h1 h2=>?_,?_⟩
  ·cases j with
   | zero=>exact rJ r1 r2 f1.1 f2.1
   | succ k=>exact h k (by simpa using h1) (by simpa using h2)
  ·have em:min (u::us).length (v::vs).length=min us.length vs.length+1:=by simp only [cx];lia
   rw [em,AJ,qS,List.all_map];show (fI x y && (List.range (min us.length vs.length)).all e && ((us.length+1) == (vs.length+1)))=(fI x y && jV xs ys);rw [←q];have eb:((us.length+1) == (vs.length+1))=(us.length == vs.length):=by rw [uE,kA,kA];lia
   rw [eb,Bool.and_assoc]
theorem Pf(hu:X.A.units<cLine):b8 X (compareOp .Eq) (Pe X.K false):=by
 intro pins s σ H x y v u Q I rx ry h;obtain ⟨a,b,xs,ys,rfl,rfl,h1,h2,f1,f2,q⟩:=h;cases rx;cases ry;obtain ⟨us,r1,t1,_⟩:=I.tuple h1;obtain ⟨vs,r2,t2,_⟩:=I.tuple h2;obtain ⟨e,he,eq⟩:=GP (A:=X.A.in1) (s:=s) r1 r2 f1 f2;refine SeqAt.eq_tupleAt (e:=e) t1 t2 hu (fun j z1 z2=>by simpa using he j (by simpa using z1) (by simpa using z2)) ⟨.bl (jV xs ys),H,I,?_,q⟩
 show _=Value.bool (jV xs ys);rw [←eq];simp
theorem boot_isinstance:bootBuiltins "isinstance"=some (.builtin "isinstance"):=by decide +kernel
theorem boot_abs:bootBuiltins "abs"=some (.builtin "abs"):=by decide +kernel
theorem boot_min:bootBuiltins "min"=some (.builtin "min"):=by decide +kernel
theorem boot_int:bootBuiltins "int"=some (.type "int"):=by decide +kernel
theorem boot_bool:bootBuiltins "bool"=some (.type "bool"):=by decide +kernel
theorem boot_tuple:bootBuiltins "tuple"=some (.type "tuple"):=by decide +kernel
theorem boot_list:bootBuiltins "list"=some (.type "list"):=by decide +kernel
theorem Pg:bootBuiltins "ValueError"=some (.type "ValueError"):=by decide +kernel
end L2
namespace My
open PySem L2
def iT(n:Int):Bool:=(List.range 32).all fun e=>decide (e<2) || decide (n<(e:Int)*(e:Int)) || decide (n % (e:Int)≠0)
variable {n d:Int}
theorem GQ(h2:n≤997)(hd:2≤d)(hq:d*d≤n)(hm:n % d=0):iT n=false:=by
 have hd2:d<32:=by
  by_cases h:d<32;·exact h
  ·have:32*32≤d*d:=Int.mul_le_mul (by lia) (by lia) (by lia) (by lia)
   lia
 obtain ⟨k,rfl⟩:∃k:Nat,d=(k:Int):=⟨d.toNat,by lia⟩
 cases e:iT n with
 | false=>rfl
 | true=>
  have z:=oH.mp e k (gM.mpr (by lia))
  simp only [Bool.or_eq_true,decide_eq_true_eq] at z;rcases z with (z | z) | z;·lia
  ·lia
  ·exact absurd hm z
theorem Ph(hq:n<d*d)(hd:2≤d)(hm:∀e:Int,2≤e→e<d→n % e≠0):iT n=true:=by
 refine oH.mpr fun k _=>?_;simp only [Bool.or_eq_true,decide_eq_true_eq];by_cases h1:k<2;·exact .inl (.inl h1)
 ·by_cases h2:n<(k:Int)*(k:Int)
  ·exact .inl (.inr h2)
  ·refine .inr (hm k (by lia) ?_)
   by_cases h3:(k:Int)<d;·exact h3
   ·have:d*d≤(k:Int)*(k:Int):=Int.mul_le_mul (by lia) (by lia) (by lia) (by lia)
    lia
inductive Td where
 | a (w:Str)
 | b (w:Str) (n:Int)
def Td.vs:Td→List V
 | .a w=>[.str w]
 | .b w n=>[.str w,.int n]
def Td.yf:Td→Bool
 | .a w=>decide (w="fractions")
 | .b _ _=>false
def Td.jl:Td→Bool
 | .a _=>false
 | .b w n=>decide (w="wheel") && (decide (2≤n) && decide (n≤997) && iT n)
def Td.good(d:Td):Bool:=d.yf || d.jl
def Td.prime:Td→V
 | .a _=>.aO
 | .b _ n=>.int n
end My
namespace L2
open PySem PySem.Spec PyProof.Rows
abbrev Cx.aY (X:Cx) (N:List Str) (scope:Scope) (cl:List (Str×Addr)) (s₃:Shared) (H₃:Hp) (fp:List Addr):Cx:=
 {X with N:=N,s₀:=s₃,H₀:=H₃,env:=compEnvC scope cl s₃.heap.objs.size X.env,outer:=X.stack,stack:=X.stack,ex:=fp,fn:=fun _=>false,pn:=[],xe:=fun _ _=>False}
inductive iq (X:Cx):List Expr→TT→Prop where
 | nil:iq X [] (fun _ H Q=>Q true H)
 | one {c:Expr} {t:TT} (h:PT X c t):iq X [c] t
def iu(wi:TI)(ρ:St→St)(tt:TT)(te:TE):TE:=fun σ H Q=>wi σ H fun J H1=>∀D,H1 D=none→∃W:Nat→Nat→List V→Hp→Prop,(∃m,W 0 m [] (upd H1 D (.lst []))) ∧
 ∀i m ys Hc,W i m ys Hc→Hc D=some (.lst ys)∧((J.stop i Hc∧Q (.ref D) Hc)∨(J.go i Hc∧∀x H',J.d6 i Hc x H'→tt (some x::ρ σ) H' fun b H2=>
  if b=true then te (some x::ρ σ) H2 fun y H3=>H3 D=some (.lst ys)∧ys.length<sizeLine∧∃m',m'<m∧W (i+1) m' (ys++[y]) (upd H3 D (.lst (ys++[y]))) else ∃m',m'<m∧W (i+1) m' ys H2))
section
variable {X:Cx} {N:List Str} {scope:Scope} {cl:List (Str×Addr)} {x:Str} {px pos:Pos} {iter elt:Expr} {ifs:List Expr} {wi:TI} {ρ:St→St} {tt:TT} {te:TE}
structure BL (X:Cx) (N:List Str) (scope:Scope) (cl:List (Str×Addr)) (x:Str) (ρ:St→St):Prop where
 nI:closureFor scope X.env=pure cl
 kind:scope.kind=.function
 ve:∀y∈scope.names,y.2≠.cell
 names:∀y∈scope.names,y.2=.local→scope.names.lookup y.1=some .local
 sub:∀p∈cl,X.env.cells.lookup p.1=some p.2
 has:∀y,((relabel scope X.env).names.lookup y=some .cell∨(relabel scope X.env).names.lookup y=some .free)→∃c,cl.lookup y=some c
 n0:N[0]?=some x
 nd:N.Nodup
 hx:scope.names.lookup x=some .local
 nJ:∀(σ:St) (j:Nat) (v:V),(ρ σ)[j]?=some (some v)→∃(i:Nat) (y:Str),N[j+1]?=some y∧X.N[i]?=some y∧σ[i]?=some (some v)∧lO X.env.scope y∧(X.env.kindOf y=some .cell∨X.env.kindOf y=some .free)∧((relabel scope X.env).names.lookup y=some .cell∨(relabel scope X.env).names.lookup y=some .free)
 len:∀σ:St,σ.length=X.N.length→(ρ σ).length+1=N.length
theorem GR{names:List (Str×NameKind)}(h:(names.all fun q=>(q.2 != .cell && q.2 != .free) || (cl.lookup q.1).isSome)=true) :
  ∀y,(names.lookup y=some .cell∨names.lookup y=some .free)→∃c,cl.lookup y=some c:=fun y hy=>by
 have key:∀k:NameKind,(k != .cell && k != .free)=false→names.lookup y=some k→∃c,cl.lookup y=some c:=fun k hk e=>by have z:=oH.mp h (y,k) (iE e);rw [hk,uJ] at z;exact AH.mp z
 rcases hy with e | e;·exact key .cell rfl e
 ·exact key .free rfl e
theorem join_some{o:Option (Option V)}{v:V}(h:some o.join=some (some v)):o=some (some v):=by
 cases o with
 | none=>cases h
 | some o=>cases h;rfl
def yg(X:Cx)(sc:Scope):List Str→List Nat→Prop
 | n::ns,i::is=>(X.N[i]?=some n∧lO X.env.scope n∧(X.env.kindOf n=some .cell∨X.env.kindOf n=some .free)∧((relabel sc X.env).names.lookup n=some .cell∨(relabel sc X.env).names.lookup n=some .free))∧yg X sc ns is
 | _,[]=>True
 | [],_::_=>False
theorem BM{X:Cx}{sc:Scope}:∀{ns:List Str} {is:List Nat},yg X sc ns is→∀(σ:St) (j:Nat) (v:V),(is.map fun i=>σ[i]?.join)[j]?=some (some v)→∃(i:Nat) (n:Str),ns[j]?=some n∧X.N[i]?=some n∧σ[i]?=some (some v)∧lO X.env.scope n∧(X.env.kindOf n=some .cell∨X.env.kindOf n=some .free)∧((relabel sc X.env).names.lookup n=some .cell∨(relabel sc X.env).names.lookup n=some .free)
 | _,[],_,_,_,_,e=>by cases e
 | [],_::_,h,_,_,_,_=>h.elim
 | n::_,i::_,h,_,0,_,e=>⟨i,n,rfl,h.1.1,join_some e,h.1.2⟩
 | _::_,_::_,h,σ,j+1,v,e=>BM h.2 σ j v e
theorem dO(is:List Nat)(h1:closureFor scope X.env=pure cl)(h:yg X scope N.tail is:=by repeat' first | exact True.intro | refine And.intro ⟨rfl,Or.inr (Or.inl rfl),.inl rfl,.inl rfl⟩ ?_)(h2:scope.kind=.function:=by rfl)(h3:∀y∈scope.names,y.2≠.cell:=by decide +kernel)(h4:∀y∈scope.names,y.2=.local→scope.names.lookup y.1=some .local:=by decide +kernel)(h5:∀p∈cl,X.env.cells.lookup p.1=some p.2:=by repeat' first | exact oI _ | refine gw.mpr ⟨rfl,?_⟩)(h6:((relabel scope X.env).names.all fun q=>(q.2 != .cell && q.2 != .free) || (cl.lookup q.1).isSome)=true:=by rfl)(h7:N[0]?=some x:=by rfl)(h8:N.Nodup:=by decide +kernel)(h9:scope.names.lookup x=some .local:=by rfl)(hr:∀σ:St,ρ σ=is.map fun i=>σ[i]?.join:=by exact fun _=>rfl)(hl:is.length+1=N.length:=by rfl):BL X N scope cl x ρ:=
 ⟨h1,h2,h3,h4,h5,GR h6,h7,h8,h9,fun σ j v e=>by rw [hr] at e;rw [←List.getElem?_tail];exact BM h σ j v e,fun σ _=>by rw [hr,aD];exact hl⟩
theorem e9(B:BL X N scope cl x ρ)(hc:X.calm=true)(hi:PI X (.Name x px) iter wi)(ht:∀s₃ H₃ fp,iq (X.aY N scope cl s₃ H₃ fp) ifs tt)(he:∀s₃ H₃ fp,PE (X.aY N scope cl s₃ H₃ fp) elt te)
  (hs:∀x,foldedSetIterable iter X.env x=pure x:=by intro _;rfl):PE X (.ListComp elt [⟨.Name x px,iter,ifs,0⟩] scope pos) (iu wi ρ tt te):=by
 intro pins s σ H Q I h
 rw [eval_ListComp]
 refine qT (use:=none) rfl hs B.nI B.kind B.names (aF (hi pins s σ H _ I h) fun v s1 h1=>aF h1 fun nB s2 h2=>?_)
 obtain ⟨it,fp,tn,J,H2,rfl,I2,T,dM,f2,q2⟩:=h2
 have nD:H2 s2.heap.objs.size=none:=I2.au.fresh (aI _)
 obtain ⟨W,⟨m0,w0⟩,turn⟩:=q2 _ nD
 refine oB (xb B.ve (by intro y hy;simp at hy) (fun h₁ d7 fK=>?_) B.kind)
 dsimp only at d7 fK ⊢
 generalize hD:s2.heap.objs.size=D at nD w0 turn d7 fK ⊢
 generalize dy:({s2 with heap:=s2.heap.push {cls:=.type "list",dict:=none,data:=.seq ([]:List Value).toArray}}:Shared)=s3
 have I3:Inv X pins σ (upd H2 D (.lst [])) s3:=by
  subst hD dy
  exact I2.laid (t':=s2.toks) (fun b u e=>b9 _ e) (aI _) ⟨cT _,[],_,.nil,fc _ rfl⟩
 have e3:s3.heap=s2.heap.push {cls:=.type "list",dict:=none,data:=.seq ([]:List Value).toArray}:=by rw [←dy]
 have cL:∀b o,s2.heap.get? b=some o→s3.heap.get? b=some o:=fun b o e=>by rw [e3];exact b9 _ e
 rw [←e3] at d7 fK ⊢
 have below:∀b o,s3.heap.get? b=some o→b≠s3.heap.objs.size:=fun b o e=>dB (aZ e)
 have b5:∀b o,s3.heap.get? b=some o→h₁.get? b=some o:=fun b o e=>fK.extBut b o (below b o e) (b9 _ e)
 have dP:∀b∈fp,∃o,s2.heap.get? b=some o∧∀v,o.data≠.cell v:=T.obj _ _ dM
 have jW:∀b∈fp,b≠D:=fun b hb z=>by
  obtain ⟨o,e,_⟩:=dP b hb
  rw [z,←hD] at e
  exact absurd (aZ e) (eW _)
 have bF:∀y c,cl.lookup y=some c→X.env.cells.lookup y=some c:=fun y c e=>B.sub (y,c) (iE e)
 have jX:=I3.m9
 have dF:(X.aY N scope cl s3 (upd H2 D (.lst [])) fp).Ok:=by
  refine ⟨I.ok.mod,B.kind,I.ok.glob,I.ok.blt,aI _,fun a b c e1 e2=>I.ok.inj a b c (bF a c e1) (bF b c e2),fun y hy=>B.has y hy,(fun _ _ z _=>absurd z cJ),(fun _=>I.ok.hd hc),I.ok.frames,.inl rfl,fun b hb=>⟨?_,fun y c e z=>?_⟩,fun b o e=>?_,aN I.ok.fj I3.sz,fun b o e hb=>?_,fun b hb z=>?_,I3.stack,jX⟩
  ·obtain ⟨o,e,_⟩:=dP b hb
   exact below b o (cL b o e)
  ·exact (f2 b hb).2.2.2.2.1 y c (bF y c e) z
  ·exact I3.bs b o e
  ·rcases (f2 b hb).2.2.2.1 with z | z
   ·exact I.ok.jJ b o e z
   ·exact absurd (cw (aZ e) (aN I.ok.fj z)) (eW _)
  ·rcases dq.mp (I3.m7 b z) with z | z
   ·exact (f2 b hb).2.1 z
   ·exact (f2 b hb).2.2.1 z
 have IB:∀tk:Nat,Inv (X.aY N scope cl s3 (upd H2 D (.lst [])) fp) [] (none::ρ σ) (upd H2 D (.lst [])) {s3 with heap:=h₁,toks:=tk}:=fun tk=>by
  refine ⟨dF,rfl,I3.bare,Un.kept b5,⟨_,d7,fun j y v e1 e2 e3=>?_⟩,fun y c e=>?_,?_,fun y c e=>I3.fR y c (bF y c e),(fun p hp=>nomatch hp),I3.au.kept b5,?_⟩
  ·cases j with
   | zero=>cases e2
   | succ j=>
    obtain ⟨i,y',a1,a2,a3,a4,a5,a6⟩:=B.nJ σ j v e2
    have iU:N[j+1]?=some y:=e1
    rw [iU] at a1
    cases a1
    obtain ⟨m,hn,hl⟩:=I3.loc
    obtain ⟨u,r,l⟩:=hl i y v a2 a3 a4
    refine ⟨u,r,.inr ⟨a6,?_⟩⟩
    obtain ⟨c,ec⟩:=B.has y a6
    rcases l with ⟨k,_⟩ | ⟨_,c',gg,z⟩
    ·rcases a5 with q | q <;> (rw [k] at q;cases q)
    ·have:=bF y c ec
     rw [this] at gg
     cases gg
     obtain ⟨o,ho,hd⟩:=z
     exact ⟨c,ec,o,b5 _ _ ho,hd⟩
  ·obtain ⟨v,o,ho,hd⟩:=I3.cell y c (bF y c e)
   exact ⟨v,o,b5 _ _ ho,hd⟩
  ·exact I3.au.fresh (aI _)
  ·show (none::ρ σ).length=N.length
   rw [cx]
   exact B.len σ I.len
 have fin:∀{σ':St} {H':Hp} {s':Shared},Inv (X.aY N scope cl s3 (upd H2 D (.lst [])) fp) [] σ' H' s'→Q (.ref D) H'→compPost (model X.prog X.w) X.A X.xe none (EP X pins σ Q) (.ref D) s3.heap.objs.size (.ok .next) s':=fun{σ' H' s'} J q=>by
  obtain ⟨m,hn,_⟩:=J.loc
  refine ⟨m,hn,fun h' cH=>⟨.ref D,H',?_,rfl,q⟩⟩
  have old:∀b o,s3.heap.get? b=some o→b≠s3.heap.objs.size:=below
  have u1:Un (b7 X.stack) fp (upd H2 D (.lst [])) H' s3.heap h':=by
   refine ⟨fun b o e n hb hx=>?_,fun b o e n hb hx=>?_,J.base.free,fun b o e hx=>?_,J.base.d3,J.base.dS,J.base.d5⟩
   ·exact (cH.2 b (old b o e)).trans (J.base.keep b o e n hb hx)
   ·obtain ⟨sl,z⟩:=J.base.slot b o e n hb hx
    exact ⟨sl,(cH.2 b (old b o e)).trans z⟩
   ·obtain ⟨o',z⟩:=J.base.there b o e hx
    exact ⟨o',(cH.2 b (old b o e)).trans z⟩
  have jY:bT X.prog X.w H' h':=fun b u e=>by
   refine (J.au b u e).gB (fun c v hc z=>(cH.2 c fun y=>?_).trans z) (fun _ z=>z) fun _ _ z=>z
   have fr:=J.free
   have y':c=s3.heap.objs.size:=y
   rcases hc with hc | hc
   ·rw [←hc,y'] at e
    exact absurd (fr.symm.trans e) (by simp)
   ·rw [y'] at hc
    exact absurd (fr.symm.trans hc) (by simp)
  refine I3.iJ (s':={s' with heap:=h'}) (ch:=fp) (J.os) u1 jY J.bare fun b hb=>?_
  obtain ⟨g0,g1,g2,g3,g4,g5⟩:=f2 b hb
  exact ⟨g3,g1,g4,g5⟩
 have dr:∀{H':Hp},(∀b∈fp,H' b=none)→∀b∈fp,jh (X.aY N scope cl s3 (upd H2 D (.lst [])) fp) [] H' b:=fun hn b hb=>by
  refine ⟨hn b hb,?_,?_,.inl hb,fun y c e z=>(f2 b hb).2.2.2.2.1 y c (bF y c e) z,fun p hp=>nomatch hp⟩
  ·obtain ⟨o,e,_⟩:=dP b hb
   exact below b o (cL b o e)
  ·exact dF.jK b hb
 have loop:∀tk:Nat,codeAny (model X.prog X.w) X.A (.compLoop (.ListComp elt [⟨.Name x px,iter,ifs,0⟩] scope pos) 0 (.ref it) (.ref D) (compEnvC scope cl s3.heap.objs.size X.env))
   (compPost (model X.prog X.w) X.A X.xe none (EP X pins σ Q) (.ref D) s3.heap.objs.size) {s3 with heap:=h₁,toks:=tk}:=fun tk=>by
  refine xc (fun n s'=>∃i ys o H',Inv (X.aY N scope cl s3 (upd H2 D (.lst [])) fp) [] (o::ρ σ) H' s'∧tn i s'.heap∧(∀b∈fp,H' b=none)∧W i n ys H') ?_ m0
   ⟨0,[],none,_,IB tk,T.keep _ _ _ dM fun b hb o e=>b5 _ _ (cL _ _ e),fun b hb=>by rw [aH (jW b hb)];exact (f2 b hb).1,w0⟩
  rintro n s4 ⟨i,ys,o,H4,I4,gh,gi,w4⟩
  obtain ⟨vg,jZ⟩:=turn i n ys H4 w4
  rcases jZ with ⟨stop,qn⟩ | ⟨go,step⟩
  ·refine a_ (T.done (X.aY N scope cl s3 (upd H2 D (.lst [])) fp) rfl rfl rfl hc i [] s4 _ H4 (fun _ _=>False) I4 (dr gi) gh stop) (fun r s5 ⟨hr,I5⟩=>?_) fun _ _ z=>z.elim
   subst hr
   exact fin I5 qn
  ·refine a_ (T.item (X.aY N scope cl s3 (upd H2 D (.lst [])) fp) rfl rfl rfl hc i [] s4 _ H4 (fun _ _=>False) I4 (dr gi) gh go) (fun r s5 ⟨u,hr,h5⟩=>?_) fun _ _ z=>z.elim
   subst hr
   have z:letOwnedTupleGo (.Name x px) (.ref it) u=pure ():=rfl
   rw [z] at h5
   show wpAny _ _ ((pure ():Sem Unit) >>= fun _=>assign (.Name x px) (compEnvC scope cl s3.heap.objs.size X.env) u) _ _ s5
   refine bG (a_ h5 (fun _ s5 ⟨y,H5,I5,r5,y5,du,iL⟩=>?_) fun _ _ z=>z.elim)
   have iM:=I5.pinned (dr iL) (T.obj _ _ du)
   have pg:PG (X.aY N scope cl s3 (upd H2 D (.lst [])) fp) (.Name x px) (aS 0):=e7 (i:=0) B.nd B.n0 (.inl (jd B.hx)) (.inr (jd B.hx))
   have again:∀{σ7:St} {H7:Hp} {s7:Shared},Inv (X.aY N scope cl s3 (upd H2 D (.lst [])) fp) ([]++gD fp s5.heap) σ7 H7 s7→Inv (X.aY N scope cl s3 (upd H2 D (.lst [])) fp) [] σ7 H7 s7∧tn (i+1) s7.heap∧∀b∈fp,H7 b=none:=fun{σ7 H7 s7} I7=>by
    refine ⟨I7.lX,T.keep _ _ _ du fun b hb o e=>(I7.pin (b,o) (cM _ (cM _ (ig hb e)))).1,fun b hb=>?_⟩
    obtain ⟨o,e,d⟩:=T.obj _ _ du b hb
    exact (I7.pin (b,o) (cM _ (cM _ (ig hb e)))).2.1
   refine a_ (pg _ s5 _ H5 y u (fun σ2 H6=>σ2=some y::ρ σ∧H6=H5) iM r5 ⟨rfl,rfl⟩) (fun _ s6 ⟨σ6,H6,I6,q6⟩=>?_) fun _ _ z=>z.elim
   obtain ⟨rfl,rfl⟩:=q6
   have j4:=step y _ y5
   have tests:∀{d8:TT},iq (X.aY N scope cl s3 (upd H2 D (.lst [])) fp) ifs d8→∀{R:Bool→Hp→Prop},d8 (some y::ρ σ) H6 R→wpAny (model X.prog X.w) X.A
     (forIn ifs true fun c r=>if r=true then do let ok ←isTrue c (compEnvC scope cl s3.heap.objs.size X.env) (eval c (compEnvC scope cl s3.heap.objs.size X.env));pure (ForInStep.yield ok) else pure (ForInStep.yield r))
     (fun ok s7=>∃H7,Inv (X.aY N scope cl s3 (upd H2 D (.lst [])) fp) ([]++gD fp s5.heap) (some y::ρ σ) H7 s7∧R ok H7) (fun _ _=>False) s6:=fun{d8} p {R} hR=>by
    cases p with
    | nil=>exact qU ⟨_,I6,hR⟩
    | one p=>exact qV (p _ s6 _ _ _ I6 hR)
   refine a_ (tests (ht s3 _ fp) j4) (fun ok s7 ⟨H7,I7,q7⟩=>?_) fun _ _ z=>z.elim
   cases ok with
   | false=>
    obtain ⟨m',d9,w7⟩:=q7
    obtain ⟨a1,a2,a3⟩:=again I7
    exact ⟨m',d9,i+1,ys,_,H7,a1,a2,a3,w7⟩
   | true=>
    refine a_ (he s3 _ fp _ s7 _ H7 _ I7 q7) (fun ev s8 ⟨z,H8,I8,r8,j6,hz,m',d9,w8⟩=>?_) fun _ _ z=>z.elim
    refine a_ (l8 (X:=X.aY N scope cl s3 (upd H2 D (.lst [])) fp) _ s8 _ H8 (.ref D) [z] (.ref D) [ev] (fun _ H9=>H9=upd H8 D (.lst (ys++[z]))) I8 rfl (.cons r8 .nil) ⟨D,ys,z,rfl,rfl,j6,hz,rfl⟩) (fun _ s9 ⟨_,H9,I9,_,q9⟩=>?_) fun _ _ z=>z.elim
    subst q9
    obtain ⟨a1,a2,a3⟩:=again I9
    exact ⟨m',d9,i+1,ys++[z],_,_,a1,a2,a3,w8⟩
 have start:=loop (s3.toks+([]:List (Str×Value)).length)
 have es:({s3 with heap:=h₁,toks:=s3.toks+([]:List (Str×Value)).length}:Shared)={s2 with heap:=h₁,toks:=s2.toks+([]:List (Str×Value)).length}:=by rw [←dy]
 rw [es] at start
 exact qW start (T.self _ 0 _ _ _ (T.keep _ _ _ dM fun b hb o e=>b5 _ _ (cL _ _ e)) start)
end
def bE(i:Int):Prop:=i.natAbs<2 ^ 2048
variable {i:Int}
theorem bE.log(h:bE i):i.natAbs.log2<2048:=by
 by_cases z:i.natAbs=0;·rw [z];decide
 ·exact (Nat.log2_lt z).mpr h
def GS(i j:Int):Prop:=j≠0∧bE j
def BN(i j:Int):Prop:=bE i∧bE j
theorem BN.ok{j:Int}(h:BN i j):IntMulOk i j:=by
 have b:∀{k:Int},bE k→Builtin.Int.intBits k≤2048:=fun{k} hk=>by
  have z:=hk.log;unfold Builtin.Int.intBits
  split <;> lia
 unfold IntMulOk;have e:Builtin.Int.intTooBig ((Builtin.Int.intBits i:Int)+(Builtin.Int.intBits j:Int))=false:=by
  unfold Builtin.Int.intTooBig;have h1:=b h.1;have h2:=b h.2;have h3:(4096:Int)≤bitsLine:=by decide +kernel
  exact dI (by lia)
 intro z;rw [uI] at z;have z2:=z.2;rw [show Builtin.Int.intTooBig ((Builtin.Int.intBits i:Int)+(Builtin.Int.intBits j:Int))=false from e] at z2;cases z2
section
variable {X:Cx}
theorem BO:b8 X (binaryOp .FloorDiv) (rI GS fun i j=>.int (i.fdiv j)):=nF fun _ _ _ _ _ _ _ hc q=>floordiv_int hc.1 q (.inl (AK (cw hc.2.log (by decide))))
theorem jo:b8 X (binaryOp .Mult) (rI BN fun i j=>.int (i*j)):=nF fun _ _ _ _ _ _ _ hc q=>mul_int q hc.ok
def BP(i j:Int):Prop:=0<j∧bE j
theorem fU:b8 X (binaryOp .FloorDiv) (rI BP fun i j=>.int (i / j)):=nF fun i j _ _ _ _ _ hc q=>floordiv_int (Int.ne_of_gt hc.1) (by rw [AG i (Int.le_of_lt hc.1)];exact q) (.inl (AK (cw hc.2.log (by decide))))
def allR(K:aA):List V→Hp→VK→Prop:=fun xs H Q=>∃(p:Addr) (bs:List Bool),xs=[.ref p]∧bh K H p (bs.map V.bl)∧Q (.bl (bs.all id)) H
theorem yh{K:aA}(hc:X.calm=true)(hK:X.K=K:=by rfl):gT X (.builtin "all") (allR K):=by
 intro pins s σ H xs us Q I r h;subst hK;obtain ⟨p,bs,rfl,hq,q⟩:=h;obtain ⟨u,rfl,ru⟩:=vals1 r;cases ru;obtain ⟨ai,rv,pl,hz⟩:=I.list hq;have iw:p≠s.heap.objs.size:=by obtain ⟨o,e,_⟩:=pl.isList;exact dB (aZ e)
 have hl:ai.length=bs.length:=by rw [←rv.length,aD]
 refine call_all_walk (wV pl.isList ?_);refine ⟨s.heap.objs.size,_,_,_,_,_,fun i=>bs.getD i true,rfl,Walks.list (A:=X.A.in1) (show X.A.in1.handled=none from I.ok.hd hc) s.heap.objs.size p iw ai.toArray,⟨⟨_,fc _ rfl,rfl,rfl⟩,pl.isList.push _⟩,fun i v s' Q' E' hv l6=>?_,fun h' tk hk=>?_⟩
 ·have f_:ai[i]?=some v:=by simpa using hv
  cases eb:bs[i]? with
  | none=>
   have:=rv.none_of (i:=i) (by rw [bo,eb];rfl)
   rw [this] at f_;cases f_
  | some b=>
   obtain ⟨u,hu,ru⟩:=rv.get (i:=i) (x:=V.bl b) (by rw [bo,eb];rfl)
   rw [hu] at f_;cases f_;cases ru;have e:bs.getD i true=b:=by rw [bq,eb];rfl
   have jq:Q' (bs.getD i true) s':=l6;rw [e] at jq;exact lE jq
 ·refine ⟨.bl (bs.all id),H,I.kept fun b o e=>hk b o (fun z=>?_) (b9 _ e),?_,q⟩
  ·exact absurd (aZ e) (by rw [g_.mp z];exact eW _)
  ·show Value.bool _=Value.bool _
   congr 1
   rw [cK,hl];clear hk q rv pl hz hl hq
   induction bs with
   | nil=>rfl
   | cons b bs ih=>rw [cx,AJ,qS,List.all_map,qS];show (b && (List.range bs.length).all fun i=>bs.getD i true)=(b && bs.all id);rw [ih]
end
theorem boot_all:bootBuiltins "all"=some (.builtin "all"):=by decide +kernel
def BQ:Expr→Bool
 | .Starred _ _=>false
 | _=>true
variable {e:Expr} {es:List Expr}
theorem Pj{env:Env}(h:BQ e=true):starEach (e::es) env=(false,eval e env)::starEach es env:=by cases e <;> first | rfl | cases h
variable {X:Cx} {te:TE}
theorem Pk{t:TA}(hs:BQ e=true)(ha:PE X e te)(hr:PA X es t):PA X (e::es) (o8 te t):=
 NB ha hr (Pj hs)
theorem aa{t:TA}(ha:PE X e te)(hr:PA X es t)(hs:BQ e=true:=by rfl):PA X (e::es) (o8 te t):=Pk hs ha hr
variable {pos pos':Pos} {x:Str}
theorem GU{i:Nat}(hs:swapsWith e (some (.Name x pos')) pos.line X.env=pure false)(hf:X.fn x=true∨X.env.scope.names.lookup x=some .local)(hN:X.N.Nodup)(hi:X.N[i]?=some x)(hx:Loc X.env.scope x)(he:PE X e te) :
  PS X (.Assign [.Name x pos'] e pos) (lV te (aS i)):=MJ hN hi hx he hs hf
theorem putL(i:Nat)(hN:X.N.Nodup)(he:PE X e te)(hs:swapsWith e (some (.Name x pos')) pos.line X.env=pure false:=by rfl)(hi:X.N[i]?=some x:=by rfl)(hx:X.env.scope.names.lookup x=some .local:=by rfl) :
  PS X (.Assign [.Name x pos'] e pos) (lV te (aS i)):=GU hs (.inr hx) hN hi (.inl hx) he
theorem di(i:Nat)(hN:X.N.Nodup)(he:PE X e te)(hs:swapsWith e (some (.Name x pos')) pos.line X.env=pure false:=by rfl)(hf:X.fn x=true∨X.env.scope.names.lookup x=some .local:=by first | exact .inl rfl | exact .inr rfl | assumption)(hi:X.N[i]?=some x:=by rfl)(hx:X.env.scope.names.lookup x=some .cell:=by rfl) :
  PS X (.Assign [.Name x pos'] e pos) (lV te (aS i)):=GU hs hf hN hi (.inr hx) he
def Pl:V→List V→Hp→VK→Prop:=fun x xs H Q=>∃i:Int,x=.int i∧xs=[]∧Q (.int ((Builtin.Int.intBits i:Nat):Int)) H
theorem Pm:Bt X "int.bit_length" Pl:=by intro pins s σ H x xs v us Q I rx rv h;obtain ⟨i,rfl,rfl,q⟩:=h;have u_:=rv.zero;subst u_;obtain ⟨t,rfl⟩:=rx;exact call_int_bit_length ⟨.int ((Builtin.Int.intBits i:Nat):Int),H,I.tok _,⟨_,rfl⟩,q⟩
theorem Pn(h:bE i):Builtin.Int.intBits i≤2048:=by
 have z:=h.log;unfold Builtin.Int.intBits
 split <;> lia
end L2
namespace My
open PySem L2
theorem BR(a b:Str):decide (V.str a=V.str b)=decide (a=b):=by
 by_cases h:a=b;·subst h;simp
 ·rw [dI h];exact dI fun e=>h (V.str.inj e)
theorem kU(a b:Int):decide (V.int a=V.int b)=decide (a=b):=by
 by_cases h:a=b;·subst h;simp
 ·rw [dI h];exact dI fun e=>h (V.int.inj e)
variable {K:aA}
theorem yi{T:String}:PySem.W.kitOne K (.type T) (.type T)=some true:=by unfold PySem.W.kitOne;rw [aq (uK _)]
variable {H:Hp} {p:Addr}
theorem aK{o:HO}(h:H p=none):af H (upd H p o):=fun b u e=>by rw [aH (fi e h)];exact e
theorem l9(v:V):([(("prime":Str),v)]:List (Str×V)).lookup ("prime":Str)=some v:=by simp [List.lookup]
inductive Any (H:Hp):V→Prop where
 | aO:Any H .aO
 | bl (b:Bool):Any H (.bl b)
 | int (i:Int):Any H (.int i)
 | str (x:Str):Any H (.str x)
 | lst {a:Addr} {xs:List V} (e:H a=some (.lst xs)):Any H (.ref a)
 | tup {a:Addr} {xs:List V} (e:H a=some (.tup xs)):Any H (.ref a)
 | ph {a:Addr} (e:H a=some (GN a)):Any H (.ref a)
def iV:V→Bool
 | .int _=>true
 | _=>false
def l_:V→Bool
 | .bl _=>true
 | _=>false
def kW(H:Hp):V→Bool
 | .ref a=>(match H a with | some (.tup _)=>true | _=>false)
 | _=>false
variable {v:V}
theorem Any.vd(h:Any H v):∃T:String,rO K H v (.type T)∧PySem.W.kitOne K (.type T) (.type "int")=some (iV v || l_ v)∧PySem.W.kitOne K (.type T) (.type "bool")=some (l_ v) ∧
  PySem.W.kitOne K (.type T) (.type "tuple")=some (kW H v):=by
 cases h with
 | aO=>exact ⟨"NoneType",.of .aO,rfl,rfl,rfl⟩
 | bl b=>exact ⟨"bool",.of (.bl b),rfl,rfl,rfl⟩
 | int i=>exact ⟨"int",.of (.int i),rfl,rfl,rfl⟩
 | str x=>exact ⟨"str",.of (.str x),rfl,rfl,rfl⟩
 | lst e=>exact ⟨"list",.of (.lst e),rfl,rfl,by unfold kW;dsimp only;rw [e];rfl⟩
 | tup e=>exact ⟨"tuple",.of (.tup e),rfl,rfl,by unfold kW;dsimp only;rw [e];rfl⟩
 | ph e=>exact ⟨"dict",.ph e,rfl,rfl,by unfold kW;dsimp only;rw [e];rfl⟩
theorem GV(h:l_ v=true):iV v=false:=by cases v <;> first | rfl | cases h
def pz(H:Hp):V→Bool
 | .ref a=>(match H a with | some (.tup [.int x,.int y])=>decide (1≤y) && decide (Int.gcd x y=1) | _=>false)
 | _=>false
def yj(p:Int):V→Bool
 | .int i=>decide (0≤i) && decide (i<p)
 | _=>false
def vh:V→V→Bool
 | .int x,.int y=>decide (1≤y) && decide (Int.gcd x y=1)
 | _,_=>false
theorem BS{a:Addr}{x y:V}(e:H a=some (.tup [x,y])):pz H (.ref a)=vh x y:=by unfold pz;dsimp only;rw [e];cases x <;> cases y <;> rfl
theorem Po{a:Addr}{xs:List V}(e:H a=some (.tup xs))(h:xs.length≠2):pz H (.ref a)=false:=by
 unfold pz;dsimp only;rw [e]
 match xs,h with
 | [],_=>rfl
 | [x],_=>cases x <;> rfl
 | x::y::z::r,_=>cases x <;> (try rfl) <;> cases y <;> rfl
 | [x,y],h=>exact absurd rfl h
theorem Pp(h:kW H v=false):pz H v=false:=by
 unfold pz;unfold kW at h;cases v with
 | ref a=>
  dsimp only at h ⊢;cases e:H a with
  | none=>rfl
  | some o=>rw [e] at h;cases o <;> first | rfl | cases h
 | _=>rfl
structure Thing (H:Hp) (v:V):Prop where
 any:Any H v
 two:∀(a:Addr) (x y:V),v=.ref a→H a=some (.tup [x,y])→Any H x∧Any H y∧∀i:Int,y=.int i→bE i
variable {i:Int}
theorem Pq:Thing H (.int i):=⟨.int i,fun a x y e=>by cases e⟩
theorem Pr{x y:V}(e:H p=some (.tup [x,y]))(ax:Any H x)(ay:Any H y)(m:∀i:Int,y=.int i→bE i):Thing H (.ref p):=⟨.tup e,fun a x' y' z h=>by cases z;rw [e] at h;cases h;exact ⟨ax,ay,m⟩⟩
theorem ma{m:Str}(e:(m == ("prime":Str))=false):([(("prime":Str),v)]:List (Str×V)).lookup m=none:=by simp [List.lookup,e]
theorem GW(m n:Nat):Nat.gcd n (m % n)=Nat.gcd m n:=by rw [Nat.gcd_comm n,←Nat.gcd_rec,Nat.gcd_comm]
theorem yk(a:Int):(if a<0 then -a else a)=(a.natAbs:Int):=by split <;> lia
def lowG(a b:Int):Int:=if b<0 then 0-(Int.gcd a b:Int) else (Int.gcd a b:Int)
variable {a b:Int}
theorem nK(h:b≠0):0<Int.gcd a b:=uM _ (kC.mpr h)
theorem Pt(h:b≠0)(m:bE b):Int.gcd a b<2 ^ 2048:=eK (Nat.gcd_le_right _ (kC.mpr h)) m
theorem Pu(h:b≠0)(m:bE b):GS 0 (lowG a b):=by
 have h1:=nK (a:=a) h;have h2:=Pt (a:=a) h m;unfold lowG;refine ⟨by split <;> lia,?_⟩
 unfold bE
 split
 ·rw [show (0-(Int.gcd a b:Int)).natAbs=Int.gcd a b by lia];exact h2
 ·rw [uN];exact h2
theorem bE.of_lt(h1:-(10 ^ 70)<i)(h2:i<10 ^ 70):bE i:=by
 have h3:i.natAbs<2 ^ 240:=by lia
 exact cw h3 (oJ (by decide) (by decide))
def GX:Sp:=fun vs H Q _=>∃v:V,vs=[v]∧Any H v∧Q (.bl (iV v)) H
def Pw:Sp:=fun vs H Q _=>∃a b:Int,vs=[.int a,.int b]∧bE b∧Q (.int (Int.gcd a b:Int)) H
def Px:Sp:=fun vs H Q _=>∃n:Int,vs=[.int n]∧2≤n∧n≤997∧Q (.bl (iT n)) H
def Py:Sp:=fun vs H Q _=>∃(p:Addr) (d:Td),vs=[.ref p]∧H p=some (.tup d.vs)∧Q (.bl d.yf) H
def Pz:Sp:=fun vs H Q _=>∃(p:Addr) (d:Td),vs=[.ref p]∧H p=some (.tup d.vs)∧Q (.bl d.jl) H
def PB(C N:Addr):Sp:=fun vs H Q E=>∃(x dx p:Addr) (d:Td),vs=[.ref x,.ref p]∧H x=some (.ins C dx [])∧H p=some (.tup d.vs) ∧
 (d.good=true→Q .aO (upd H x (.ins C dx [("prime",d.prime)])))∧(d.good=false→E (.ref N) none H)
def fV(C:Addr)(H:Hp)(x:Addr)(q:Int):Prop:=∃dx,H x=some (.ins C dx [("prime",if q=0 then .aO else .int q)])
variable {H':Hp} {q:Int}
theorem fV.mono{C:Addr}{x:Addr}(h:fV C H x q)(s:af H H'):fV C H' x q:=by obtain ⟨dx,e⟩:=h;exact ⟨dx,s _ _ e⟩
def vi(H:Hp)(q:Int)(v:V):Bool:=if q=0 then pz H v else yj q v
def PD:Sp:=fun vs H Q _=>∃(q:Int) (v:V),vs=[.int q,v]∧Thing H v∧∀H',af H H'→Q (.bl (vi H q v)) H'
def GY(m c:Int):Int:=(m*69621+c % 998244353+1) % 1000000007
def yl(ns:List Int)(k:Int):Int:=
 let m:=(ns.take 7).foldl GY (1000003*(k+1))
 let m2:=m*m % 1000000007
 let m3:=(m2+7919*k*k)*48271 % 2147483647
 m3*m3 % 2147483647 / 8
def iW(ns:List Int)(k:Int):Int:=if k<ns.length then ns.getD k.toNat 0 % 10 ^ 40 else yl ns k
theorem BU(ns:List Int)(k:Int):0≤iW ns k:=by
 unfold iW
 split
 ·exact gy _ (by decide)
 ·unfold yl
  exact Int.ediv_nonneg (gy _ (by decide)) (by decide)
theorem BV(ns:List Int)(k:Int):iW ns k<10 ^ 40:=by
 unfold iW
 split
 ·exact gN _ (by decide)
 ·unfold yl
  have:∀a:Int,a % 2147483647 / 8<10 ^ 40:=fun a=>by lia
  exact this _
def PF(K:aA):Sp:=fun vs H Q _=>∃(a:Addr) (ns:List Int) (k:Int),vs=[.ref a,.int k]∧bh K H a (ns.map V.int)∧0≤k∧k≤1000000∧∀H',af H H'→Q (.int (iW ns k)) H'
def ym(K:aA):Sp:=fun vs H Q _=>∃(a:Addr) (ns:List Int),vs=[.ref a]∧bh K H a (ns.map V.int)∧ns.length≤63∧∀H',Q (.bl true) H'
theorem PH(xs:List V)(k:Nat):l7 xs none (some (k:Int))=xs.take k:=by unfold l7;rw [HT.NN,HT.NO,List.drop_zero,Nat.sub_zero];rw [List.take_eq_take_iff];lia
theorem PJ(h:1≤b):((a.fdiv (lowG a b) == a) && (b.fdiv (lowG a b) == b))=decide (Int.gcd a b=1):=by
 have hp:=nK (a:=a) (b:=b) (by lia)
 have e:lowG a b=(Int.gcd a b:Int):=by unfold lowG;rw [ar (by lia)]
 rw [e];by_cases g:Int.gcd a b=1
 ·rw [g]
  simp [Int.fdiv_one]
 ·rw [dI g]
  have hb:¬b.fdiv (Int.gcd a b:Int)=b:=fun z=>by
   rw [AG _ (by lia)] at z
   have z2:=Int.ediv_mul_le b (b:=(Int.gcd a b:Int)) (by lia)
   rw [z] at z2;have z3:b*2≤b*(Int.gcd a b:Int):=AL (by lia) (by lia)
   lia
  rw [jC.mpr hb,Bool.and_false]
variable {u:Int}
theorem vj{v:Int}(hu:0<u)(h:0<u*v):0<v:=by
 by_cases z:0<v;·exact z
 ·have y:=AL (show v≤0 by lia) (show 0≤u by lia)
  rw [cy] at y;lia
theorem nM(h:∀d:Nat,(d:Int)∣a→(d:Int)∣b→d=1):Int.gcd a b=1:=h _ (oK ..) (oM ..)
variable {d:Nat}
theorem nN(h:Int.gcd a b=1)(h1:(d:Int)∣a)(h2:(d:Int)∣b):d=1:=by have z:(d:Int)∣((Int.gcd a b:Nat):Int):=Int.dvd_coe_gcd h1 h2;rw [h] at z;exact Nat.dvd_one.mp (Int.natCast_dvd_natCast.mp z)
variable {c:Int}
theorem pA(h:Int.gcd b c=1)(h1:(d:Int)∣b)(h2:(d:Int)∣a*c):(d:Int)∣a:=by
 have hc:Nat.Coprime d c.natAbs:=by have z:Nat.Coprime b.natAbs c.natAbs:=h;exact Nat.Coprime.coprime_dvd_left (Int.ofNat_dvd_left.mp h1) z
 have z:d∣a.natAbs*c.natAbs:=by rw [←je];exact Int.ofNat_dvd_left.mp h2
 exact Int.ofNat_dvd_left.mpr (hc.dvd_of_dvd_mul_right z)
theorem vk(h1:Int.gcd a b=1)(h2:Int.gcd a c=1):Int.gcd a (b*c)=1:=by refine nM fun d x y=>?_;exact nN h1 x (pA (a:=b) (b:=a) (c:=c) h2 x y)
theorem BW(h:Int.gcd a b=1):Int.gcd b a=1:=by rw [Int.gcd_comm];exact h
theorem GZ(h:Int.gcd a b=1)(h1:c∣a):Int.gcd c b=1:=nM fun d x y=>nN h (iF x h1) y
theorem BX(h:b≠0):Int.gcd (a / (Int.gcd a b:Int)) (b / (Int.gcd a b:Int))=1:=by have z:0<Int.gcd a b:=uM _ (kC.mpr h);exact Int.gcd_ediv_gcd_ediv_gcd z
structure dG (x m:Int):Prop where
 pos:1≤m
 me:Int.gcd x m=1
variable {x m y n:Int}
theorem PK(a:dG x m)(b:dG y n)(h:Int.gcd m n=1):dG (x*n+y*m) (m*n):=by
 have m0:=a.pos;have n0:=b.pos;refine ⟨oN (by lia) (by lia),vk (nM fun d h1 h2=>?_) (nM fun d h1 h2=>?_)⟩
 ·have z:(d:Int)∣x*n:=(Int.dvd_add_left (iF h2 (oO ..))).mp h1
  exact nN a.me (pA h h2 z) h2
 ·have z:(d:Int)∣y*m:=(Int.dvd_add_right (iF h2 (oO ..))).mp h1
  exact nN b.me (pA (BW h) h2 z) h2
theorem PL(a:dG x m)(b:dG y n)(g k:Nat)(eg:g=Int.gcd m n)(top:Int)(et:top=x*(n / (g:Int))+y*(m / (g:Int)))(ek:k=Int.gcd top (g:Int)) :
  dG (top / (k:Int)) (m / (g:Int)*(n / (k:Int)))∧top / (k:Int)*(m*n)=(x*n+y*m)*(m / (g:Int)*(n / (k:Int))):=by
 have m0:=a.pos
 have n0:=b.pos
 have gp:0<g:=by rw [eg];exact uM _ (kC.mpr (by lia))
 have kp:0<k:=by rw [ek];exact uM _ (kC.mpr (by lia))
 have c1:=BX (a:=m) (b:=n) (by lia)
 have c2:=BX (a:=top) (b:=(g:Int)) (by lia)
 rw [←eg] at c1
 rw [←ek] at c2
 obtain ⟨m',em⟩:=oK (a:=m) (b:=n)
 obtain ⟨n',en⟩:=oM (a:=m) (b:=n)
 obtain ⟨t',e1⟩:=oK (a:=top) (b:=(g:Int))
 obtain ⟨g',e2⟩:=oM (a:=top) (b:=(g:Int))
 rw [←eg] at em en
 rw [←ek] at e1 e2
 have g0:(g:Int)≠0:=by lia
 have k0:(k:Int)≠0:=by lia
 have dm:m / (g:Int)=m':=by rw [em];exact jE _ g0
 have dn:n / (g:Int)=n':=by rw [en];exact jE _ g0
 have dt:top / (k:Int)=t':=by rw [e1];exact jE _ k0
 have dg:(g:Int) / (k:Int)=g':=by rw [e2];exact jE _ k0
 have dk:n / (k:Int)=g'*n':=by rw [en,e2,iG];exact jE _ k0
 rw [dm,dn] at c1 et
 rw [dt,dg] at c2
 rw [dt,dm,dk]
 have pos:∀{u v:Int},0<u→0<u*v→0<v:=fun hu hz=>vj hu hz
 have mp:0<m':=pos (u:=(g:Int)) (by lia) (by rw [←em];lia)
 have np:0<n':=pos (u:=(g:Int)) (by lia) (by rw [←en];lia)
 have PM:0<g':=pos (u:=(k:Int)) (by lia) (by rw [←e2];lia)
 have tm:Int.gcd top m'=1:=nM fun d h1 h2=>by
  rw [et] at h1
  have z:(d:Int)∣x*n':=(Int.dvd_add_left (iF h2 (oO ..))).mp h1
  exact nN a.me (pA c1 h2 z) (iF h2 ⟨g,by rw [em,fg]⟩)
 have tn:Int.gcd top n'=1:=nM fun d h1 h2=>by
  rw [et] at h1
  have z:(d:Int)∣y*m':=(Int.dvd_add_right (iF h2 (oO ..))).mp h1
  exact nN b.me (pA (BW c1) h2 z) (iF h2 ⟨g,by rw [en,fg]⟩)
 have tt:t'∣top:=⟨k,by rw [e1,fg]⟩
 refine ⟨⟨oN mp (oN PM np),vk (GZ tm tt) (vk c2 (GZ tn tt))⟩,?_⟩
 have q:(k:Int)*t'=x*n'+y*m':=by rw [←e1,et]
 have l:t'*(m*n)=(k:Int)*t'*(m'*(g'*n')*(g:Int)):=by
  rw [em,en]
  conv=>lhs;rw [show (g:Int)*n'=(k:Int)*g'*n' by rw [←e2]]
  simp only [iG,fg,xf]
 rw [l,q,em,en]
 simp only [Int.add_mul,iG,fg,xf]
def cj(x:Int):Prop:=x.natAbs≤10 ^ 300
theorem PN:(10:Nat) ^ 300<2 ^ 2048:=by decide +kernel
theorem cj.mid(h:cj x):bE x:=eK h PN
theorem cj.over{g:Int}(h:cj x):cj (x / g):=aN (oP x g) h
theorem cj.neg(h:cj x):cj (-x):=by unfold cj;rw [oQ];exact h
theorem cj.gcd(h:cj y)(z:y≠0):cj (Int.gcd x y:Int):=by unfold cj;rw [uN];exact aN (Nat.gcd_le_right _ (kC.mpr z)) h
theorem G0(z:y≠0):(0:Int)<(Int.gcd x y:Int):=by have:=nK (a:=x) z;lia
def PQ:Sp:=fun vs H Q _=>∃(p q:Addr) (x m y n:Int),vs=[.ref p,.ref q]∧H p=some (.tup [.int x,.int m])∧H q=some (.tup [.int y,.int n])∧dG x m∧dG y n∧cj x∧cj m∧cj y∧cj n ∧
 ∀(r:Addr) (H':Hp) (u d:Int),af H H'→H' r=some (.tup [.int u,.int d])→dG u d→u*(m*n)=(x*n+y*m)*d→Q (.ref r) H'
def PR:Sp:=fun vs H Q _=>∃(p q:Addr) (x m y n:Int),vs=[.ref p,.ref q]∧H p=some (.tup [.int x,.int m])∧H q=some (.tup [.int y,.int n])∧dG x m∧dG y n∧cj x∧cj m∧cj y∧cj n ∧
 ∀(r:Addr) (H':Hp) (u d:Int),af H H'→H' r=some (.tup [.int u,.int d])→dG u d→u*(m*n)=(x*n-y*m)*d→Q (.ref r) H'
theorem dG.neg(h:dG x m):dG (-x) m:=⟨h.pos,by rw [Int.neg_gcd];exact h.me⟩
def BY(C:Addr)(fr:Int→Int→Int→Int→Int)(rm:Int→Int→Int):Sp:=fun vs H Q _=>∃(z:Addr) (q:Int) (v u:V),vs=[.ref z,v,u]∧fV C H z q ∧
  ((q=0∧∃(p r:Addr) (x m y n:Int),v=.ref p∧u=.ref r∧H p=some (.tup [.int x,.int m])∧H r=some (.tup [.int y,.int n])∧dG x m∧dG y n∧cj x∧cj m∧cj y∧cj n ∧
    ∀(r':Addr) (H':Hp) (a d:Int),af H H'→H' r'=some (.tup [.int a,.int d])→dG a d→a*(m*n)=fr x m y n*d→Q (.ref r') H') ∨
   (2≤q∧∃i j:Int,v=.int i∧u=.int j∧0≤i∧i<1000∧Q (.int (rm i j % q)) H))
def bg(p:Int):Prop:=p=0∨(2≤p∧p≤997∧iT p=true)
inductive dj (B:Nat) (H:Hp):Int→V→Int→Int→Prop where
 | cY {p:Addr} {x m:Int} (e:H p=some (.tup [.int x,.int m])) (l:dG x m) (bx:x.natAbs≤B) (bm:m.natAbs≤B):dj B H 0 (.ref p) x m
 | rem {q i:Int} (h0:0≤i) (h1:i<q) (h2:q≤997):dj B H q (.int i) i 1
theorem dj.mono{B:Nat}(h:dj B H q v x m)(s:af H H'):dj B H' q v x m:=by
 cases h with
 | cY e l bx bm=>exact .cY (s _ _ e) l bx bm
 | rem h0 h1 h2=>exact .rem h0 h1 h2
theorem G1{d T B:Int}(l:dG u d)(hB:0<B)(e:u*B=T*d):d≤B∧u.natAbs≤T.natAbs:=by
 have h0:=l.pos;have hd:d∣B:=by
  have z:((d.natAbs:Nat):Int)∣B:=pA (a:=B) (b:=d) (c:=u) (BW l.me) (Int.natAbs_dvd.mpr (oR d)) ⟨T*(d / (d.natAbs:Int)),by
   have q:(d.natAbs:Int)=d:=by lia
   rw [q,Int.ediv_self (by lia),iC,fg B u,e,fg]⟩
  exact Int.natAbs_dvd.mp z
 have hle:=oS hB hd;refine ⟨hle,?_⟩;have z:u.natAbs*B.natAbs=T.natAbs*d.natAbs:=by rw [←je,e,je]
 have z2:T.natAbs*d.natAbs≤T.natAbs*B.natAbs:=Nat.mul_le_mul_left _ (by lia)
 rw [←z] at z2;exact Nat.le_of_mul_le_mul_right z2 (by lia)
theorem G3(h1:2≤q)(h2:q≤997)(hp:iT q=true)(b1:1≤b)(b2:b<q):Int.gcd q b=1:=by
 have gp:0<Int.gcd q b:=uM _ (kC.mpr (by lia))
 by_cases g1:Int.gcd q b=1;·exact g1
 exfalso
 obtain ⟨k,ek⟩:=oK (a:=q) (b:=b);have hb:=oS (by lia) (oM (a:=q) (b:=b))
 generalize Int.gcd q b=g at *;have kp:0<k:=vj (u:=(g:Int)) (by lia) (by rw [←ek];lia)
 have k2:k≠1:=fun z=>by rw [z,iC] at ek;lia
 have no:∀d:Int,2≤d→d*d≤q→q % d=0→False:=fun d x y z=>by rw [GQ h2 x y z] at hp;cases hp
 by_cases c:(g:Int)≤k;·exact no g (by lia) (by rw [ek];exact AL c (by lia)) (by rw [ek];exact Int.mul_emod_right ..)
 ·exact no k (by lia) (by rw [ek];exact Int.mul_le_mul_of_nonneg_right (by lia) (by lia)) (by rw [ek];exact Int.mul_emod_left ..)
structure mf (q b last lt now nt:Int):Prop where
 l:∃s,last=lt*b+s*q
 n:∃s,now=nt*b+s*q
 me:Int.gcd last now=1
 pos:1≤now
 less:now≤last
variable {nt:Int}
theorem mf.step{last lt now:Int}(h:mf q b last lt now nt)(h1:1<now):mf q b now nt (last-last / now*now) (lt-last / now*nt)∧last-last / now*now<now:=by
 obtain ⟨⟨s,es⟩,⟨r,er⟩,c,p,le⟩:=h;have e:last-last / now*now=last % now:=by have z:=AM last now;rw [fg] at z;lia
 have ZM:=gN last (show 0<now by lia)
 have ge:=gy last (show now≠0 by lia)
 have c':Int.gcd now (last % now)=1:=nM fun d x y=>nN c (by have z:=AM last now;rw [←z];exact Int.dvd_add y (iF x (Int.dvd_mul_right ..))) x
 have nz:last % now≠0:=fun z=>by rw [z,Int.gcd_zero_right] at c';lia
 refine ⟨⟨⟨r,er⟩,⟨s-last / now*r,?_⟩,by rw [e];exact c',by lia,by lia⟩,by lia⟩
 generalize last / now=f;rw [es,er,Int.sub_mul,Int.sub_mul,Int.mul_add,iG,iG];lia
theorem mf.done{last lt:Int}(h:mf q b last lt 1 nt)(hq:2≤q):(nt % q*b) % q=1:=by
 obtain ⟨s,e⟩:=h.n;have z:nt*b=1+(-s)*q:=by rw [Int.neg_mul];lia
 have y:nt % q*b % q=nt*b % q:=by rw [uO (nt % q) b,Int.emod_emod,←uO]
 rw [y,z,Int.add_mul_emod_self_right];exact jf (by lia) (by lia)
theorem mf.start(h1:2≤q)(h2:q≤997)(hp:iT q=true)(b1:1≤b)(b2:b<q):mf q b q 0 b 1:=
 ⟨⟨1,by lia⟩,⟨0,by lia⟩,G3 h1 h2 hp b1 b2,b1,by lia⟩
end My
namespace L2
open PySem PySem.Spec PyProof.Rows
end L2
namespace My
open PySem L2
def PU(N:Addr):Sp:=fun vs H Q E=>∃q b:Int,vs=[.int q,.int b]∧2≤q∧q≤997∧iT q=true∧0≤b∧b<q∧(b=0→E (.ref N) none H)∧(b≠0→∀r:Int,0≤r→r<q→(r*b) % q=1→Q (.int r) H)
def PV(N:Addr):Sp:=fun vs H Q E=>∃q i j:Int,vs=[.int q,.int i,.int j]∧2≤q∧q≤997∧iT q=true∧0≤i∧i<q∧0≤j∧j<q∧(j=0→E (.ref N) none H)∧(j≠0→∀r:Int,0≤r→r<q→(r*j) % q=i→Q (.int r) H)
theorem PX{q i j r:Int}(hq:2≤q)(i0:0≤i)(i1:i<q)(h:(r*j) % q=1):(i*r % q*j) % q=i:=by
 have y:i*r % q*j % q=i*(r*j) % q:=by rw [uO (i*r % q) j,Int.emod_emod,←uO,iG]
 rw [y,uO,h,jf i0 i1,iC,jf i0 i1]
end My
namespace L2
open PySem PySem.Spec PyProof.Rows
structure iX (K:aA) (x qual:Str) (st:Stmt) (i:Int) (f:Addr) (fd:FuncData):Prop where
 ex:∃(oc:Value) (od:Option Addr) (kV doc pm:Value) (an:Option Addr) (aU ct:Value) (fH:Array (Option Value)) (dT:Addr) (tk:Tok) (nO:Value) (nP:Option Addr) (n:Nat) (nQ:Array (Option Value)),
  fd=PySem.W.fnOf x qual (iQ st) (fT st) (aR st) (.ref dT) kV doc pm an aU ct∧K.lookup f=some ⟨oc,od,.func fd,fH⟩∧PySem.W.codeIn K aU qual=true∧K.lookup dT=some ⟨nO,nP,.seq #[.int i tk] n,nQ⟩
 kp:PySem.W.keepIn K (.ref f)=true
section
variable {P:Program} {w:World} {K:aA} {mg:cz} {base:Heap}
variable {x qual:Str} {st:Stmt} {i:Int} {f:Addr} {fd:FuncData} {ps:List Str}
theorem iX.BK{N:List Str}{k:Nat}{sp:Sp}(F:iX K x qual st i f fd)(S:bB N ps (aR st))(len:∀vs H Q E,sp vs H Q E→vs.length=ps.length)
  (jU:∀(aU:Value) (A:Around) (outer:List Env) (s:Shared) (H:Hp) (vs:List V) (Q:VK) (E:XK),cF k (A.deeper (envOfC qual (aR st) s.heap.objs.size f aU))→sp vs H Q E→
   rM (iP (dE P w) P w K mg base N qual (aR st) f aU A outer s H E) E→
   ∃t,eZ (iP (dE P w) P w K mg base N qual (aR st) f aU A outer s H E) (fT st) t∧t {nx:=fun _ H'=>Q .aO H',rt:=Q} (start N vs) H):aT P w K mg base (dE P w) (k+1) f fd ps sp:=by
 obtain ⟨oc,od,kV,doc,pm,an,aU,ct,fH,dT,tk,nO,nP,n,nQ,rfl,lk,fF,ld⟩:=F.ex;exact Bs lk fF S len fun A outer s H vs Q E hr ji=>jU aU A outer s H vs Q E hr ji ⟨rfl,rfl,rfl,rfl⟩
theorem yn{dT:Addr}{oc:Value}{od an:Option Addr}{fH:Array (Option Value)}{kV doc pm aU ct:Value}{tk:Tok}{nO:Value}{nP:Option Addr}{n:Nat}{nQ:Array (Option Value)}
  (l:K.lookup f=some ⟨oc,od,.func (PySem.W.fnOf x qual (iQ st) (fT st) (aR st) (.ref dT) kV doc pm an aU ct),fH⟩)
  (c:PySem.W.codeIn K aU qual=true) (k:PySem.W.keepIn K (.ref f)=true) (ld:K.lookup dT=some ⟨nO,nP,.seq #[.int i tk] n,nQ⟩):iX K x qual st i f (PySem.W.fnOf x qual (iQ st) (fT st) (aR st) (.ref dT) kV doc pm an aU ct):=
 ⟨⟨oc,od,kV,doc,pm,an,aU,ct,fH,dT,tk,nO,nP,n,nQ,rfl,l,c,ld⟩,k⟩
theorem iX.binds(F:iX K x qual st i f fd)
  (h:∀(s:Shared) (dT:Addr) (kV doc pm:Value) (an:Option Addr) (aU ct:Value) (tk:Tok) (o:Obj) (n:Nat) (us:List Value),s.heap.get? dT=some o→o.data=.seq #[.int i tk] n→us.length=ps.length→
   BindsTo s (PySem.W.fnOf x qual (iQ st) (fT st) (aR st) (.ref dT) kV doc pm an aU ct) ⟨us,[]⟩ (ps.zip us)):Binds K fd ps []:=by
 obtain ⟨oc,od,kV,doc,pm,an,aU,ct,fH,dT,tk,nO,nP,n,nQ,rfl,lk,fF,ld⟩:=F.ex;intro s us X hl;rw [wZ] at hl ⊢;exact h s dT kV doc pm an aU ct tk _ n us (X _ _ ld) rfl hl
theorem iX.PY(F:iX K x qual st i f fd)
  (h:∀(s:Shared) (dT:Addr) (kV doc pm:Value) (an:Option Addr) (aU ct:Value) (tk:Tok) (o:Obj) (n:Nat) (us:List Value),s.heap.get? dT=some o→o.data=.seq #[.int i tk] n→us.length+1=ps.length→
   BindsTo s (PySem.W.fnOf x qual (iQ st) (fT st) (aR st) (.ref dT) kV doc pm an aU ct) ⟨us,[]⟩ (ps.zip (us++[.int i tk]))):∃v,Vals [V.int i] [v]∧Binds K fd ps [v]:=by
 obtain ⟨oc,od,kV,doc,pm,an,aU,ct,fH,dT,tk,nO,nP,n,nQ,rfl,lk,fF,ld⟩:=F.ex;refine ⟨.int i tk,.cons ⟨tk,rfl⟩ .nil,fun s us X hl=>?_⟩;exact h s dT kV doc pm an aU ct tk _ n us (X _ _ ld) rfl (by simpa using hl)
theorem iX.PZ{y:Str}(F:iX K x qual st i f fd)
  (h:∀(s:Shared) (dT:Addr) (kV doc pm:Value) (an:Option Addr) (aU ct:Value) (tk:Tok) (o:Obj) (n:Nat) (us ws:List Value),s.heap.get? dT=some o→o.data=.seq #[.int i tk] n→ws.length=1→us.length+1=ps.length→
   BindsTo s (PySem.W.fnOf x qual (iQ st) (fT st) (aR st) (.ref dT) kV doc pm an aU ct) ⟨us,[y].zip ws⟩ (ps.zip (us++ws))) :
  ∀(s:Shared) (us ws:List Value),K.In s.heap→ws.length=1→us.length+1=ps.length→BindsTo s fd ⟨us,[y].zip ws⟩ (ps.zip (us++ws)):=by
 obtain ⟨oc,od,kV,doc,pm,an,aU,ct,fH,dT,tk,nO,nP,n,nQ,rfl,lk,fF,ld⟩:=F.ex;intro s us ws X hw hl;exact h s dT kV doc pm an aU ct tk _ n us ws (X _ _ ld) rfl hw hl
end
section
variable {X:Cx} {CX:gc} {k:Nat} {f C:Addr} {fd:FuncData} {ps:List Str} {y:Str} {sp:Sp} {E:XK} {m:Str} {pos apos F5:Pos} {e e' o:Expr} {ta:TE} {t tk:TA}
end
end L2
namespace My
open PySem L2
def kX(a b:Int):Int:=a.fdiv (lowG a b)
def kY(a b:Int):Int:=b.fdiv (lowG a b)
variable {a b:Int}
theorem P1(hb:b≠0):dG (kX a b) (kY a b)∧kX a b*b=a*kY a b∧(kX a b).natAbs≤a.natAbs∧(kY a b).natAbs≤b.natAbs:=by
 have gp:=nK (a:=a) hb;have c:=BX (a:=a) hb;obtain ⟨a',ea⟩:=oK (a:=a) (b:=b);obtain ⟨b',eb⟩:=oM (a:=a) (b:=b);unfold kX kY lowG;generalize Int.gcd a b=g at *;have g0:(g:Int)≠0:=by lia
 have ga:a / (g:Int)=a':=by rw [ea];exact jE _ g0
 have gb:b / (g:Int)=b':=by rw [eb];exact jE _ g0
 rw [ga,gb] at c;have la:a'.natAbs≤a.natAbs:=by rw [←ga];exact oP ..
 have lb:b'.natAbs≤b.natAbs:=by rw [←gb];exact oP ..
 have cr:a'*b=a*b':=by rw [ea,eb];simp only [iG,fg,xf]
 by_cases h:b<0
 ·have d1:(0-(g:Int))∣a:=⟨-a',by rw [ea,Int.zero_sub,Int.neg_mul_neg]⟩
  have d2:(0-(g:Int))∣b:=⟨-b',by rw [eb,Int.zero_sub,Int.neg_mul_neg]⟩
  rw [aq h,xg d1,xg d2,Int.zero_sub,Int.ediv_neg,Int.ediv_neg,ga,gb];refine ⟨⟨?_,by rw [Int.neg_gcd,Int.gcd_neg];exact c⟩,?_,?_,?_⟩
  ·have z:0 < -b':=vj (u:=(g:Int)) (by lia) (by rw [jF,←eb];lia)
   lia
  ·rw [Int.neg_mul,jF,cr]
  ·rw [oQ];exact la
  ·rw [oQ];exact lb
 ·rw [ar h,xg ⟨a',ea⟩,xg ⟨b',eb⟩,ga,gb]
  have z:0<b':=vj (u:=(g:Int)) (by lia) (by rw [←eb];lia)
  exact ⟨⟨by lia,c⟩,cr,la,lb⟩
theorem G4(a:Int):kX a 1=a∧kY a 1=1:=by
 unfold kX kY lowG;rw [Int.gcd_one_right,ar (by decide)]
 exact ⟨Int.fdiv_one a,Int.fdiv_one 1⟩
def P4(N:Addr):Sp:=fun vs H Q E=>∃a b:Int,vs=[.int a,.int b]∧bE b∧(b=0→E (.ref N) none H)∧(b≠0→∀(r:Addr) (H':Hp),af H H'→H' r=some (.tup [.int (kX a b),.int (kY a b)])→Q (.ref r) H')
def kZ(q b:Int):Prop:=if q=0 then b=0 else b % q=0
def rP(H:Hp)(q:Int)(v:V)(a b:Int):Prop:=
 (q=0∧∃r:Addr,v=.ref r∧H r=some (.tup [.int (kX a b),.int (kY a b)]))∨(2≤q∧∃r:Int,v=.int r∧0≤r∧r<q∧(r*(b % q)) % q=a % q)
theorem rP.mono{H H':Hp}{q:Int}{v:V}(h:rP H q v a b)(s:af H H'):rP H' q v a b:=by
 rcases h with ⟨h,r,e,h2⟩ | h;·exact .inl ⟨h,r,e,s _ _ h2⟩
 ·exact .inr h
def P5(C N:Addr):Sp:=fun vs H Q E=>∃(z:Addr) (q a b:Int),vs=[.ref z,.int a,.int b]∧fV C H z q∧bg q∧bE b ∧
 (kZ q b→E (.ref N) none H)∧(¬kZ q b→∀(v:V) (H':Hp),af H H'→rP H' q v a b→Q v H')
end My
namespace L2
open PySem PySem.Spec PyProof.Rows
section
variable {X:Cx}
end
end L2
namespace My
open PySem L2
inductive gH (H:Hp):Int→V→Int→Int→Prop where
 | cY {p:Addr} {u d t b:Int} (e:H p=some (.tup [.int u,.int d])) (l:dG u d) (hb:b≠0) (h:u*b=t*d):gH H 0 (.ref p) t b
 | rem {q r t b:Int} (q2:2≤q) (h0:0≤r) (h1:r<q) (g:Int.gcd q b=1) (h:q∣r*b-t):gH H q (.int r) t b
variable {H H':Hp} {q b:Int} {v:V}
theorem gH.mono{t:Int}(h:gH H q v t b)(s:af H H'):gH H' q v t b:=by
 cases h with
 | cY e l hb h=>exact .cY (s _ _ e) l hb h
 | rem q2 h0 h1 g h=>exact .rem q2 h0 h1 g h
variable {B:Nat} {x m:Int}
theorem dj.G5(h:dj B H q v x m)(hq:bg q):gH H q v x m:=by
 cases h with
 | cY e l bx bm=>exact .cY e l (by have:=l.pos;lia) rfl
 | rem h0 h1 h2=>
  have q2:2≤q:=(hq.resolve_left (by lia)).1
  exact .rem q2 h0 h1 (by rw [Int.gcd_one_right]) ⟨0,by lia⟩
theorem rQ{u d t:Int}(l:dG u d)(hb:b≠0)(e:u*b=t*d):u.natAbs≤t.natAbs∧d.natAbs≤b.natAbs:=by
 have h3:=l.pos;by_cases c:0<b
 ·obtain ⟨z1,z2⟩:=G1 l c e
  lia
 ·have e':u*(-b)=(-t)*d:=by rw [jF,e,Int.neg_mul]
  obtain ⟨z1,z2⟩:=G1 l (show 0 < -b by lia) e'
  lia
variable {a c:Int}
theorem G6(h:c≠0)(e:a*c=b*c):a=b:=Int.eq_of_mul_eq_mul_right h e
theorem P6{t:Int}(h:Int.gcd q c=1)(d:q∣c-t):Int.gcd q t=1:=by
 refine nM fun e h1 h2=>nN h h1 ?_;have z:=Int.dvd_add (iF h1 d) h2;rw [show c-t+t=c by lia] at z
 exact z
theorem P7(q2:2≤q)(g:Int.gcd q c=1)(d:q∣a*c):q∣a:=by
 have qq:((q.natAbs:Nat):Int)=q:=by lia
 have z:=pA (a:=a) (b:=q) (c:=c) (d:=q.natAbs) g (by rw [qq];exact oR q) (by rw [qq];exact d)
 rw [qq] at z;exact z
theorem BZ(a q:Int):∃w,a % q+q*w=a:=⟨a / q,AM a q⟩
section
variable {C N z:Addr} {q:Int} {v u:V} {t b t' b':Int} {H:Hp} {Q:VK} {E:XK}
theorem ZN(hw:fV C H z q)(hq:bg q)(hv:gH H q v t b)(hu:gH H q u t' b')(b1:cj t)(b2:cj b)(b3:cj t')(b4:cj b')
  (k:∀(v':V) (H':Hp),af H H'→gH H' q v' (t*b'+t'*b) (b*b')→Q v' H'):BY C (fun x m y n=>x*n+y*m) (fun i j=>i+j) [.ref z,v,u] H Q E:=by
 refine ⟨z,q,v,u,rfl,hw,?_⟩;cases hv with
 | cY e l hb h=>
  cases hu with
  | cY e' l' pB h'=>
   rename_i p x m p' y n
   obtain ⟨c1,c2⟩:=rQ l hb h;obtain ⟨c3,c4⟩:=rQ l' pB h';refine .inl ⟨rfl,_,_,x,m,y,n,rfl,rfl,e,e',l,l',aN c1 b1,aN c2 b2,aN c3 b3,aN c4 b4,fun r' H' a d s' er la ea=>k _ H' s' (.cY er la (xh hb pB) ?_)⟩;have m0:=l.pos;have n0:=l'.pos;refine G6 (c:=m*n) (xh (by lia) (by lia)) ?_
   grind
  | rem q2 h0 h1 g h=>lia
 | rem q2 h0 h1 g h=>
  cases hu with
  | cY e' l' pB h'=>lia
  | rem P8 P9 nR g' h'=>
   rename_i i j
   have q3:q≤997:=(hq.resolve_left (by lia)).2.1
   refine .inr ⟨q2,i,j,rfl,rfl,h0,by lia,k _ H (af.refl H) (.rem q2 (gy _ (by lia)) (gN _ (by lia)) (vk g g') ?_)⟩
   obtain ⟨k1,e1⟩:=h;obtain ⟨k2,e2⟩:=h';obtain ⟨w,ew⟩:=BZ (i+j) q;exact ⟨k1*b'+k2*b-w*(b*b'),by grind⟩
theorem P_(hw:fV C H z q)(hq:bg q)(hv:gH H q v t b)(hu:gH H q u t' b')(b1:cj t)(b2:cj b)(b3:cj t')(b4:cj b')
  (k:∀(v':V) (H':Hp),af H H'→gH H' q v' (t*b'-t'*b) (b*b')→Q v' H'):BY C (fun x m y n=>x*n-y*m) (fun i j=>i-j) [.ref z,v,u] H Q E:=by
 refine ⟨z,q,v,u,rfl,hw,?_⟩;cases hv with
 | cY e l hb h=>
  cases hu with
  | cY e' l' pB h'=>
   rename_i p x m p' y n
   obtain ⟨c1,c2⟩:=rQ l hb h;obtain ⟨c3,c4⟩:=rQ l' pB h';refine .inl ⟨rfl,_,_,x,m,y,n,rfl,rfl,e,e',l,l',aN c1 b1,aN c2 b2,aN c3 b3,aN c4 b4,fun r' H' a d s' er la ea=>k _ H' s' (.cY er la (xh hb pB) ?_)⟩;have m0:=l.pos;have n0:=l'.pos;refine G6 (c:=m*n) (xh (by lia) (by lia)) ?_
   grind
  | rem q2 h0 h1 g h=>lia
 | rem q2 h0 h1 g h=>
  cases hu with
  | cY e' l' pB h'=>lia
  | rem P8 P9 nR g' h'=>
   rename_i i j
   have q3:q≤997:=(hq.resolve_left (by lia)).2.1
   refine .inr ⟨q2,i,j,rfl,rfl,h0,by lia,k _ H (af.refl H) (.rem q2 (gy _ (by lia)) (gN _ (by lia)) (vk g g') ?_)⟩
   obtain ⟨k1,e1⟩:=h;obtain ⟨k2,e2⟩:=h';obtain ⟨w,ew⟩:=BZ (i-j) q;exact ⟨k1*b'-k2*b-w*(b*b'),by grind⟩
theorem Qa(nz:¬q∣b):¬kZ q b:=fun h=>nz (by
  unfold kZ at h;by_cases z:q=0;·rw [aq z] at h;rw [h];exact Int.dvd_zero q
  ·rw [ar z] at h;exact AN h)
theorem Qb(h:gH H q v t b):vi H q v=true:=by
 unfold vi;cases h with
 | cY e l hb h=>
  rw [aq rfl,BS e]
  rename_i u d
  show (decide (1≤d) && decide (Int.gcd u d=1))=true;rw [cN l.pos,cN l.me];rfl
 | rem q2 h0 h1 g h=>
  rw [ar (by lia)]
  rename_i r
  show (decide (0≤r) && decide (r<q))=true;rw [cN h0,cN h1];rfl
end
theorem dj.cP{D:Addr}{ys:List V}(h:dj B H q v x m)(eD:H D=some (.lst ys))(k:∀b o,b≠D→H b=some o→H' b=some o):dj B H' q v x m:=by
 cases h with
 | cY e l bx bm=>refine .cY (k _ _ (fun z=>?_) e) l bx bm;rw [z,eD] at e;cases e
 | rem h0 h1 h2=>exact .rem h0 h1 h2
end My
namespace L2
open PySem PySem.Spec PyProof.Rows
structure mh (J:It) (xs:List V) (H1:Hp):Prop where
 go:∀i Hc,af H1 Hc→i<xs.length→J.go i Hc
 d6:∀i Hc x H',af H1 Hc→J.d6 i Hc x H'→H'=Hc∧(i<xs.length→xs[i]?=some x)
 stop:∀i Hc,af H1 Hc→xs.length≤i→J.stop i Hc
variable {K:aA} {a:Addr} {xs:List V} {H1:Hp}
theorem fL(h:bh K H1 a xs):mh (kS K a) xs H1 where
 go:=fun i Hc s hi=>⟨xs,xs[i],s.seq h,by simp [hi]⟩
 d6:=fun i Hc x H' s y=>⟨y.1,fun _=>y.2 xs (s.seq h)⟩
 stop:=fun i Hc s hi=>⟨xs,s.seq h,hi⟩
theorem k4{lo:Int}{n:Nat}:mh (nC lo n) ((List.range n).map fun i:Nat=>V.int (lo+(i:Int))) H1 where
 go:=fun i Hc s hi=>by
  have hi:i<n:=by simpa using hi
  exact hi
 d6:=fun i Hc x H' s y=>⟨y.1,fun hi=>by
  have hi:i<n:=by simpa using hi
  rw [y.2];simp [hi]⟩
 stop:=fun i Hc s hi=>by
  have hi:n≤i:=by simpa using hi
  exact hi
variable {H:Hp}
theorem d_{H':Hp}{D:Addr}{o:HO}(s:af H H')(n:H D=none):af H (upd H' D o):=fun b u e=>by rw [aH (fi e n)];exact s b u e
variable {te:TE} {Q:VK}
theorem G7{J:It}{ρσ:St}{D:Addr}(js:mh J xs H1)(nD:H1 D=none)(hn:xs.length<sizeLine)
  (P:Nat→V→Hp→Prop) (mono:∀i y H H' ys,P i y H→H D=some (.lst ys)→(∀b o,b≠D→H b=some o→H' b=some o)→P i y H')
  (step:∀i x,xs[i]?=some x→∀(Hc:Hp) (R:VK),af H1 Hc→(∃ys,Hc D=some (.lst ys))→(∀y H3,af Hc H3→P i y H3→R y H3)→te (some x::ρσ) Hc R)
  (fin:∀ys Hc,af H1 Hc→ys.length=xs.length→(∀i y,ys[i]?=some y→P i y Hc)→Hc D=some (.lst ys)→Q (.ref D) Hc) :
  ∃W:Nat→Nat→List V→Hp→Prop,(∃m,W 0 m [] (upd H1 D (.lst []))) ∧
   ∀i m ys Hc,W i m ys Hc→Hc D=some (.lst ys)∧((J.stop i Hc∧Q (.ref D) Hc)∨(J.go i Hc∧∀x H',J.d6 i Hc x H'→
    if true=true then te (some x::ρσ) H' fun y H3=>H3 D=some (.lst ys)∧ys.length<sizeLine∧∃m',m'<m∧W (i+1) m' (ys++[y]) (upd H3 D (.lst (ys++[y]))) else ∃m',m'<m∧W (i+1) m' ys H')):=by
 refine ⟨fun i m ys Hc=>m=xs.length-i∧i≤xs.length∧Hc D=some (.lst ys)∧af H1 Hc∧ys.length=i∧∀j y,ys[j]?=some y→P j y Hc,⟨_,rfl,cT _,aB,d_ (af.refl H1) nD,rfl,fun j y e=>by simp at e⟩,?_⟩
 rintro i m ys Hc ⟨rfl,hi,eD,sH,el,hP⟩;refine ⟨eD,?_⟩;by_cases cb:i<xs.length
 ·refine .inr ⟨js.go i Hc sH cb,fun x H' hy=>?_⟩
  obtain ⟨rfl,hx⟩:=js.d6 i Hc x H' sH hy;rw [aq rfl];refine step i x (hx cb) _ _ sH ⟨ys,eD⟩ fun y H3 s3 hp=>?_;have e3:=s3 _ _ eD;refine ⟨e3,by lia,xs.length-(i+1),by lia,rfl,cb,aB,d_ (sH.trans s3) nD,by simp [el],fun j y' e=>?_⟩
  have cP:∀b o,b≠D→H3 b=some o→upd H3 D (.lst (ys++[y])) b=some o:=fun b o nb e=>by rw [aH nb];exact e
  by_cases hj:j<i
  ·have e':ys[j]?=some y':=by rw [eX (by lia)] at e;exact e
   refine mono j y' H' _ ys (hP j y' e') eD fun b o nb e=>?_;exact cP b o nb (s3 _ _ e)
  ·have hj:j=i:=by have:=(aW.mp e).1;simp at this;lia
   subst hj;have e':y'=y:=by rw [fE (by lia),el,jG] at e;simpa using e.symm
   subst e';exact mono _ _ H3 _ ys hp e3 cP
 ·have e:i=xs.length:=by lia
  subst e;exact .inl ⟨js.stop _ Hc sH (aI _),fin ys Hc sH el hP eD⟩
variable {wi:TI} {ρ:St→St} {σ:St}
theorem G8(gk:∀R:It→Hp→Prop,(∀J H1,af H H1→mh J xs H1→R J H1)→wi σ H R)(hn:xs.length<sizeLine)
  (P:Addr→Nat→V→Hp→Prop) (mono:∀D i y H H' ys,P D i y H→H D=some (.lst ys)→(∀b o,b≠D→H b=some o→H' b=some o)→P D i y H')
  (step:∀D i x,xs[i]?=some x→∀(Hc:Hp) (R:VK),af H Hc→(∃ys,Hc D=some (.lst ys))→(∀y H3,af Hc H3→P D i y H3→R y H3)→te (some x::ρ σ) Hc R)
  (fin:∀D ys Hc,af H Hc→ys.length=xs.length→(∀i y,ys[i]?=some y→P D i y Hc)→Hc D=some (.lst ys)→Q (.ref D) Hc):iu wi ρ (fun _ H Q=>Q true H) te σ H Q:=by
 refine gk _ fun J H1 s1 js=>?_;intro D nD;exact G7 (ρσ:=ρ σ) (te:=te) (Q:=Q) js nD hn (P D) (mono D) (fun i x hx Hc R sc=>step D i x hx Hc R (s1.trans sc)) (fun ys Hc sc=>fin D ys Hc (s1.trans sc))
variable {g:TG} {D:Ends}
theorem fM(h:te σ H fun x H1=>g x σ H1 D.nx):lV te g D σ H:=h
theorem bK{a b:TS}(h:a {D with nx:=fun σ H=>b D σ H} σ H):rB a b D σ H:=h
section
variable {X:Cx} {N:List Str} {scope:Scope} {cl:List (Str×Addr)} {x:Str} {px pos:Pos} {iter elt:Expr} {ifs:List Expr} {wi:TI} {ρ:St→St} {tt:TT} {te:TE}
theorem yo{y:Str}{py nS:Pos}{i0:Nat}(B:BL X N scope cl x ρ)(hc:X.calm=true)(hN:X.N.Nodup)(vm:X.N[i0]?=some y)(hy:Loc X.env.scope y)(hi:PI X (.Name x px) iter wi)(ht:∀s₃ H₃ fp,iq (X.aY N scope cl s₃ H₃ fp) ifs tt)(he:∀s₃ H₃ fp,PE (X.aY N scope cl s₃ H₃ fp) elt te)
  (vo:swapsWith (.ListComp elt [⟨.Name x px,iter,ifs,0⟩] scope pos) (some (.Name y py)) nS.line X.env=pure true:=by rfl) (hf:X.fn y=true∨X.env.scope.names.lookup y=some .local:=by first | exact .inl rfl | exact .inr rfl | assumption)
  (hs:∀x,foldedSetIterable iter X.env x=pure x:=by intro _;rfl):PS X (.Assign [.Name y py] (.ListComp elt [⟨.Name x px,iter,ifs,0⟩] scope pos) nS) (lV (iu wi ρ tt te) (aS i0)):=by
 intro pins s σ H D0 I h
 have h:iu wi ρ tt te σ H (fun v H1=>D0.nx (σ.set i0 (some v)) H1):=h
 rw [AO _ _ _ _ vo]
 refine bG (qO (bG ?_))
 show wpAny _ X.A (do let _ ←comprehension (.ListComp elt [⟨.Name x px,iter,ifs,0⟩] scope pos) scope X.env _ (newList []) false (eval iter X.env) (some (assign (.Name y py) X.env))) _ _ s
 refine bG (a_ (Q:=fun _ s'=>SP X pins D0 .next s') ?_ (fun _ s' hq=>dC (dC hq)) fun _ _ e=>e)
 refine qT (use:=some (assign (.Name y py) X.env)) rfl hs B.nI B.kind B.names (aF (hi pins s σ H _ I h) fun v s1 h1=>aF h1 fun nB s2 h2=>?_)
 obtain ⟨it,fp,tn,J,H2,rfl,I2,T,dM,f2,q2⟩:=h2
 have nD:H2 s2.heap.objs.size=none:=I2.au.fresh (aI _)
 obtain ⟨W,⟨m0,w0⟩,turn⟩:=q2 _ nD
 refine oB (xb B.ve (by intro y hy;simp at hy) (fun h₁ d7 fK=>?_) B.kind)
 dsimp only at d7 fK ⊢
 generalize hD:s2.heap.objs.size=D at nD w0 turn d7 fK ⊢
 generalize dy:({s2 with heap:=s2.heap.push {cls:=.type "list",dict:=none,data:=.seq ([]:List Value).toArray}}:Shared)=s3
 have I3:Inv X pins σ (upd H2 D (.lst [])) s3:=by
  subst hD dy
  exact I2.laid (t':=s2.toks) (fun b u e=>b9 _ e) (aI _) ⟨cT _,[],_,.nil,fc _ rfl⟩
 have e3:s3.heap=s2.heap.push {cls:=.type "list",dict:=none,data:=.seq ([]:List Value).toArray}:=by rw [←dy]
 have cL:∀b o,s2.heap.get? b=some o→s3.heap.get? b=some o:=fun b o e=>by rw [e3];exact b9 _ e
 rw [←e3] at d7 fK ⊢
 have below:∀b o,s3.heap.get? b=some o→b≠s3.heap.objs.size:=fun b o e=>dB (aZ e)
 have b5:∀b o,s3.heap.get? b=some o→h₁.get? b=some o:=fun b o e=>fK.extBut b o (below b o e) (b9 _ e)
 have dP:∀b∈fp,∃o,s2.heap.get? b=some o∧∀v,o.data≠.cell v:=T.obj _ _ dM
 have jW:∀b∈fp,b≠D:=fun b hb z=>by
  obtain ⟨o,e,_⟩:=dP b hb
  rw [z,←hD] at e
  exact absurd (aZ e) (eW _)
 have bF:∀y c,cl.lookup y=some c→X.env.cells.lookup y=some c:=fun y c e=>B.sub (y,c) (iE e)
 have jX:=I3.m9
 have dF:(X.aY N scope cl s3 (upd H2 D (.lst [])) fp).Ok:=by
  refine ⟨I.ok.mod,B.kind,I.ok.glob,I.ok.blt,aI _,fun a b c e1 e2=>I.ok.inj a b c (bF a c e1) (bF b c e2),fun y hy=>B.has y hy,(fun _ _ z _=>absurd z cJ),(fun _=>I.ok.hd hc),I.ok.frames,.inl rfl,fun b hb=>⟨?_,fun y c e z=>?_⟩,fun b o e=>?_,aN I.ok.fj I3.sz,fun b o e hb=>?_,fun b hb z=>?_,I3.stack,jX⟩
  ·obtain ⟨o,e,_⟩:=dP b hb
   exact below b o (cL b o e)
  ·exact (f2 b hb).2.2.2.2.1 y c (bF y c e) z
  ·exact I3.bs b o e
  ·rcases (f2 b hb).2.2.2.1 with z | z
   ·exact I.ok.jJ b o e z
   ·exact absurd (cw (aZ e) (aN I.ok.fj z)) (eW _)
  ·rcases dq.mp (I3.m7 b z) with z | z
   ·exact (f2 b hb).2.1 z
   ·exact (f2 b hb).2.2.1 z
 have IB:∀tk:Nat,Inv (X.aY N scope cl s3 (upd H2 D (.lst [])) fp) [] (none::ρ σ) (upd H2 D (.lst [])) {s3 with heap:=h₁,toks:=tk}:=fun tk=>by
  refine ⟨dF,rfl,I3.bare,Un.kept b5,⟨_,d7,fun j y v e1 e2 e3=>?_⟩,fun y c e=>?_,?_,fun y c e=>I3.fR y c (bF y c e),(fun p hp=>nomatch hp),I3.au.kept b5,?_⟩
  ·cases j with
   | zero=>cases e2
   | succ j=>
    obtain ⟨i,y',a1,a2,a3,a4,a5,a6⟩:=B.nJ σ j v e2
    have iU:N[j+1]?=some y:=e1
    rw [iU] at a1
    cases a1
    obtain ⟨m,hn,hl⟩:=I3.loc
    obtain ⟨u,r,l⟩:=hl i y v a2 a3 a4
    refine ⟨u,r,.inr ⟨a6,?_⟩⟩
    obtain ⟨c,ec⟩:=B.has y a6
    rcases l with ⟨k,_⟩ | ⟨_,c',gg,z⟩
    ·rcases a5 with q | q <;> (rw [k] at q;cases q)
    ·have:=bF y c ec
     rw [this] at gg
     cases gg
     obtain ⟨o,ho,hd⟩:=z
     exact ⟨c,ec,o,b5 _ _ ho,hd⟩
  ·obtain ⟨v,o,ho,hd⟩:=I3.cell y c (bF y c e)
   exact ⟨v,o,b5 _ _ ho,hd⟩
  ·exact I3.au.fresh (aI _)
  ·show (none::ρ σ).length=N.length
   rw [cx]
   exact B.len σ I.len
 have j7:∀b o,s3.heap.get? b=some o→b≠s3.heap.objs.size:=below
 have fin:∀{σ':St} {H':Hp} {s':Shared},Inv (X.aY N scope cl s3 (upd H2 D (.lst [])) fp) [] σ' H' s'→D0.nx (σ.set i0 (some (.ref D))) H'→compPost (model X.prog X.w) X.A X.xe (some (assign (.Name y py) X.env)) (fun _ s'=>SP X pins D0 .next s') (.ref D) s3.heap.objs.size (.ok .next) s':=fun{σ' H' s'} J q=>by
  obtain ⟨m,hn,_⟩:=J.loc
  have hn:s'.heap.Ns s3.heap.objs.size m:=hn
  have JC:H' s3.heap.objs.size=none:=J.free
  have u1:Un (b7 X.stack) fp (upd H2 D (.lst [])) H' s3.heap s'.heap:=by
   refine ⟨fun b o e n hb hx=>J.base.keep b o e n hb hx,fun b o e n hb hx=>J.base.slot b o e n hb hx,J.base.free,fun b o e hx=>J.base.there b o e hx,J.base.d3,J.base.dS,J.base.d5⟩
  have IX:Inv X pins σ H' s':=I3.iJ (ch:=fp) (J.os) u1 J.au J.bare fun b hb=>by
   obtain ⟨g0,g1,g2,g3,g4,g5⟩:=f2 b hb
   exact ⟨g3,g1,g4,g5⟩
  have nl:X.env.locals≠s3.heap.objs.size:=by
   obtain ⟨m3,⟨o3,_,_,e3,_⟩,_⟩:=I3.loc
   exact j7 _ _ e3
  have nc:∀z c,X.env.cells.lookup z=some c→c≠s3.heap.objs.size:=fun z c e=>by
   obtain ⟨v3,o3,e3,_⟩:=I3.cell z c e
   exact j7 _ _ e3
  refine wU (xy (v:=.ref D) IX hN vm hy rfl (fun gG j8 j9=>?_) hf)
  obtain ⟨a,j9,ha⟩:=j9
  have na:s3.heap.objs.size≠a:=by
   rcases ha with rfl | e
   ·exact fun z=>nl z.symm
   ·exact fun z=>nc _ _ e z.symm
  refine ⟨m,hn.sameBut j9 na,fun h' cH=>⟨σ.set i0 (some (.ref D)),H',?_,q⟩⟩
  have u2:Un (b7 X.stack) [s3.heap.objs.size] H' H' gG.heap h':=by
   refine ⟨fun b o e n hb hx=>(cH.2 b (by simpa using hx)).trans e,fun b o e n hb hx=>⟨o.slots,(cH.2 b (by simpa using hx)).trans e⟩,fun b o e n hx=>n,fun b o e hx=>⟨o,(cH.2 b (by simpa using hx)).trans e⟩,fun b xs z=>z,fun b o u z=>z,fun b ps z=>⟨#[],by simpa using z⟩⟩
  have jY:bT X.prog X.w H' h':=fun b u e=>by
   refine (j8.au b u e).gB (fun c v hc z=>(cH.2 c fun y=>?_).trans z) (fun _ z=>z) fun _ _ z=>z
   have y':c=s3.heap.objs.size:=y
   rcases hc with hc | hc
   ·rw [←hc,y',JC] at e
    cases e
   ·rw [y',JC] at hc
    cases hc
  refine j8.iJ (s':={gG with heap:=h'}) (ch:=[s3.heap.objs.size]) rfl u2 jY j8.bare fun b hb=>?_
  have eb:b=s3.heap.objs.size:=by simpa using hb
  subst eb
  refine ⟨.inr I3.sz,fun z=>nl z.symm,fun z c e=>nc z c e,fun p hp=>?_⟩
  exact j7 _ _ (I3.pin p hp).1
 have dr:∀{H':Hp},(∀b∈fp,H' b=none)→∀b∈fp,jh (X.aY N scope cl s3 (upd H2 D (.lst [])) fp) [] H' b:=fun hn b hb=>by
  refine ⟨hn b hb,?_,?_,.inl hb,fun y c e z=>(f2 b hb).2.2.2.2.1 y c (bF y c e) z,fun p hp=>nomatch hp⟩
  ·obtain ⟨o,e,_⟩:=dP b hb
   exact below b o (cL b o e)
  ·exact dF.jK b hb
 have loop:∀tk:Nat,codeAny (model X.prog X.w) X.A (.compLoop (.ListComp elt [⟨.Name x px,iter,ifs,0⟩] scope pos) 0 (.ref it) (.ref D) (compEnvC scope cl s3.heap.objs.size X.env))
   (compPost (model X.prog X.w) X.A X.xe (some (assign (.Name y py) X.env)) (fun _ s'=>SP X pins D0 .next s') (.ref D) s3.heap.objs.size) {s3 with heap:=h₁,toks:=tk}:=fun tk=>by
  refine xc (fun n s'=>∃i ys o H',Inv (X.aY N scope cl s3 (upd H2 D (.lst [])) fp) [] (o::ρ σ) H' s'∧tn i s'.heap∧(∀b∈fp,H' b=none)∧W i n ys H') ?_ m0
   ⟨0,[],none,_,IB tk,T.keep _ _ _ dM fun b hb o e=>b5 _ _ (cL _ _ e),fun b hb=>by rw [aH (jW b hb)];exact (f2 b hb).1,w0⟩
  rintro n s4 ⟨i,ys,o,H4,I4,gh,gi,w4⟩
  obtain ⟨vg,jZ⟩:=turn i n ys H4 w4
  rcases jZ with ⟨stop,qn⟩ | ⟨go,step⟩
  ·refine a_ (T.done (X.aY N scope cl s3 (upd H2 D (.lst [])) fp) rfl rfl rfl hc i [] s4 _ H4 (fun _ _=>False) I4 (dr gi) gh stop) (fun r s5 ⟨hr,I5⟩=>?_) fun _ _ z=>z.elim
   subst hr
   exact fin I5 qn
  ·refine a_ (T.item (X.aY N scope cl s3 (upd H2 D (.lst [])) fp) rfl rfl rfl hc i [] s4 _ H4 (fun _ _=>False) I4 (dr gi) gh go) (fun r s5 ⟨u,hr,h5⟩=>?_) fun _ _ z=>z.elim
   subst hr
   have z:letOwnedTupleGo (.Name x px) (.ref it) u=pure ():=rfl
   rw [z] at h5
   show wpAny _ _ ((pure ():Sem Unit) >>= fun _=>assign (.Name x px) (compEnvC scope cl s3.heap.objs.size X.env) u) _ _ s5
   refine bG (a_ h5 (fun _ s5 ⟨y,H5,I5,r5,y5,du,iL⟩=>?_) fun _ _ z=>z.elim)
   have iM:=I5.pinned (dr iL) (T.obj _ _ du)
   have pg:PG (X.aY N scope cl s3 (upd H2 D (.lst [])) fp) (.Name x px) (aS 0):=e7 (i:=0) B.nd B.n0 (.inl (jd B.hx)) (.inr (jd B.hx))
   have again:∀{σ7:St} {H7:Hp} {s7:Shared},Inv (X.aY N scope cl s3 (upd H2 D (.lst [])) fp) ([]++gD fp s5.heap) σ7 H7 s7→Inv (X.aY N scope cl s3 (upd H2 D (.lst [])) fp) [] σ7 H7 s7∧tn (i+1) s7.heap∧∀b∈fp,H7 b=none:=fun{σ7 H7 s7} I7=>by
    refine ⟨I7.lX,T.keep _ _ _ du fun b hb o e=>(I7.pin (b,o) (cM _ (cM _ (ig hb e)))).1,fun b hb=>?_⟩
    obtain ⟨o,e,d⟩:=T.obj _ _ du b hb
    exact (I7.pin (b,o) (cM _ (cM _ (ig hb e)))).2.1
   refine a_ (pg _ s5 _ H5 y u (fun σ2 H6=>σ2=some y::ρ σ∧H6=H5) iM r5 ⟨rfl,rfl⟩) (fun _ s6 ⟨σ6,H6,I6,q6⟩=>?_) fun _ _ z=>z.elim
   obtain ⟨rfl,rfl⟩:=q6
   have j4:=step y _ y5
   have tests:∀{d8:TT},iq (X.aY N scope cl s3 (upd H2 D (.lst [])) fp) ifs d8→∀{R:Bool→Hp→Prop},d8 (some y::ρ σ) H6 R→wpAny (model X.prog X.w) X.A
     (forIn ifs true fun c r=>if r=true then do let ok ←isTrue c (compEnvC scope cl s3.heap.objs.size X.env) (eval c (compEnvC scope cl s3.heap.objs.size X.env));pure (ForInStep.yield ok) else pure (ForInStep.yield r))
     (fun ok s7=>∃H7,Inv (X.aY N scope cl s3 (upd H2 D (.lst [])) fp) ([]++gD fp s5.heap) (some y::ρ σ) H7 s7∧R ok H7) (fun _ _=>False) s6:=fun{d8} p {R} hR=>by
    cases p with
    | nil=>exact qU ⟨_,I6,hR⟩
    | one p=>exact qV (p _ s6 _ _ _ I6 hR)
   refine a_ (tests (ht s3 _ fp) j4) (fun ok s7 ⟨H7,I7,q7⟩=>?_) fun _ _ z=>z.elim
   cases ok with
   | false=>
    obtain ⟨m',d9,w7⟩:=q7
    obtain ⟨a1,a2,a3⟩:=again I7
    exact ⟨m',d9,i+1,ys,_,H7,a1,a2,a3,w7⟩
   | true=>
    refine a_ (he s3 _ fp _ s7 _ H7 _ I7 q7) (fun ev s8 ⟨z,H8,I8,r8,j6,hz,m',d9,w8⟩=>?_) fun _ _ z=>z.elim
    refine a_ (l8 (X:=X.aY N scope cl s3 (upd H2 D (.lst [])) fp) _ s8 _ H8 (.ref D) [z] (.ref D) [ev] (fun _ H9=>H9=upd H8 D (.lst (ys++[z]))) I8 rfl (.cons r8 .nil) ⟨D,ys,z,rfl,rfl,j6,hz,rfl⟩) (fun _ s9 ⟨_,H9,I9,_,q9⟩=>?_) fun _ _ z=>z.elim
    subst q9
    obtain ⟨a1,a2,a3⟩:=again I9
    exact ⟨m',d9,i+1,ys++[z],_,_,a1,a2,a3,w8⟩
 have start:=loop (s3.toks+([]:List (Str×Value)).length)
 have es:({s3 with heap:=h₁,toks:=s3.toks+([]:List (Str×Value)).length}:Shared)={s2 with heap:=h₁,toks:=s2.toks+([]:List (Str×Value)).length}:=by rw [←dy]
 rw [es] at start
 exact qW start (T.self _ 0 _ _ _ (T.keep _ _ _ dM fun b hb o e=>b5 _ _ (cL _ _ e)) start)
end
def rS(K:aA)(l1 l2:Addr):It:=
  ⟨fun i H=>∃xs ys x y,bh K H l1 xs∧bh K H l2 ys∧xs[i]?=some x∧ys[i]?=some y,
   fun i H v H'=>∃T x y,H T=none∧v=.ref T∧H'=upd H T (.tup [x,y])∧∀xs ys,bh K H l1 xs→bh K H l2 ys→xs[i]?=some x∧ys[i]?=some y,
   fun i H=>∃xs ys,bh K H l1 xs∧bh K H l2 ys∧(xs.length≤i∨ys.length≤i)⟩
variable {l1 l2:Addr}
theorem Qc{P:Program}{w:World}{elts:List Expr}{k:Nat}{pos:Pos}{z TI TO i1 i2:Addr}(D:ZipApart z TI TO i1 i2 l1 l2):Turn P w K (.Tuple elts k pos) (rS K l1 l2) [z,TI,TO,i1,i2] z
  (fun i h=>IsZip h z TI TO .none∧IsPair h TI (.ref i1) (.ref i2)∧(∃a b,IsPair h TO a b)∧h.IsListIter i1 l1 i∧h.IsListIter i2 l2 i) where
 mem:=by simp
 obj:=fun i h st b hb=>by
  obtain ⟨hz,mi,⟨a,c,nU⟩,h1,h2⟩:=st;simp only [dq,qX,or_false] at hb;rcases hb with rfl | rfl | rfl | rfl | rfl;·exact ⟨_,hz,fun v z=>by cases z⟩
  ·exact ⟨_,mi,fun v z=>by cases z⟩
  ·exact ⟨_,nU,fun v z=>by cases z⟩
  ·obtain ⟨o,e,c,d⟩:=h1
   exact ⟨o,e,fun v z=>by rw [d] at z;cases z⟩
  ·obtain ⟨o,e,c,d⟩:=h2
   exact ⟨o,e,fun v z=>by rw [d] at z;cases z⟩
 keep:=fun i h h' st k=>by obtain ⟨hz,mi,⟨a,c,nU⟩,h1,h2⟩:=st;exact ⟨k _ (by simp) _ hz,k _ (by simp) _ mi,⟨a,c,k _ (by simp) _ nU⟩,h1.at fun o e=>k _ (by simp) o e,h2.at fun o e=>k _ (by simp) o e⟩
 item:=by
  intro X hP hw hK hc i pins s σ H E I hf st hg;subst hP hw hK;obtain ⟨hz,mi,⟨a,c,nU⟩,h1,h2⟩:=st;obtain ⟨xs,ys,x,y,rW,jq,hx,hy⟩:=hg;obtain ⟨ai,rv,p,_⟩:=I.list rW;obtain ⟨G9,yp,p',_⟩:=I.list jq;obtain ⟨u,hu,ru⟩:=rv.get hx;obtain ⟨u',Qd,Qe⟩:=yp.get hy;refine wpAny_pyNext_zip_item D hz mi nU h1 h2 p.isList p'.isList (x:=u) (y:=u') (by simpa using hu) (by simpa using Qd) fun h' g1 g2 g3 g4 g5 g6 g7=>⟨_,rfl,?_⟩
  refine wpAny_letOwnedTupleGo_zip g1 fun vp q1 sb=>?_;have yd:H s.heap.objs.size=none:=I.au.fresh (aI _);have lt:∀b o,s.heap.get? b=some o→b≠s.heap.objs.size:=fun b o e=>dB (aZ e);have keep:∀b o,b∉[z,TI,TO,i1,i2]→s.heap.get? b=some o→vp.get? b=some o:=fun b o nb e=>by simp only [dq,qX,or_false,not_or] at nb;exact sb.extBut _ _ nb.1 (g7 b o nb.1 nb.2.2.1 nb.2.2.2.1 nb.2.2.2.2 e)
  have Qf:z≠s.heap.objs.size:=lt _ _ hz;have pT:IsPair vp s.heap.objs.size u u':=sb.extBut _ _ Qf.symm g5;have vq:∀{b:Addr} {o:HO} (e:H b=some o),upd H s.heap.objs.size (.tup [x,y]) b=some o:=fun e=>by rw [aH (fi e yd)];exact e
  have au:bT X.prog X.w (upd H s.heap.objs.size (.tup [x,y])) vp:=fun b o e=>by
   by_cases hb:b=s.heap.objs.size
   ·subst hb
    rw [aB] at e;cases e;exact ⟨by show 2≤sizeLine;decide,[u,u'],.cons ru (.cons Qe .nil),⟨_,pT,rfl,_,rfl⟩⟩
   ·rw [aH hb] at e
    refine (I.au b o e).gB (fun c v dJ q=>keep c v (fun m=>?_) q) (fun c q=>vq q) fun c xs q=>vq q;have nn:=(hf c m).1;rcases dJ with rfl | dJ;·rw [nn] at e;cases e
    ·rw [nn] at dJ;cases dJ
  have u1:Un (b7 X.stack) [z,TI,TO,i1,i2] H (upd H s.heap.objs.size (.tup [x,y])) s.heap vp:=
   ⟨fun b o e n _ hx=>keep b o hx e,fun b o e n _ hx=>⟨o.slots,keep b o hx e⟩,fun b o e n hx=>by rw [aH (lt b o e)];exact n,fun b o e hx=>⟨o,keep b o hx e⟩,fun b xs e=>vq e,fun b o u e=>vq e,fun b ps e=>⟨#[],by rw [vq e];simp⟩⟩
  refine ⟨.ref s.heap.objs.size,upd H s.heap.objs.size (.tup [x,y]),I.iJ (s':={s with heap:=vp}) (ch:=[z,TI,TO,i1,i2]) rfl u1 au I.bare (fun b hb=>?_),rfl,⟨_,x,y,yd,rfl,rfl,fun as bs ha hb=>⟨by rw [I.xC ha rW];exact hx,by rw [I.xC hb jq];exact hy⟩⟩,?_,fun b hb=>?_⟩
  ·obtain ⟨f0,f1,f2,f3,f4,f5⟩:=hf b hb
   exact ⟨f3,f1,f4,f5⟩
  ·exact ⟨q1,sb.extBut _ _ D.TIz (g7 _ _ D.TIz D.TITO D.TIi1 D.TIi2 mi),⟨_,_,sb.extBut _ _ D.TOz g2⟩,g3.extBut sb.extBut D.i1z,g4.extBut sb.extBut D.i2z⟩
  ·have nb:b≠s.heap.objs.size:=by
    simp only [dq,qX,or_false] at hb;rcases hb with rfl | rfl | rfl | rfl | rfl;·exact lt _ _ hz
    ·exact lt _ _ mi
    ·exact lt _ _ nU
    ·obtain ⟨o,e,_⟩:=h1;exact lt _ _ e
    ·obtain ⟨o,e,_⟩:=h2;exact lt _ _ e
   rw [aH nb];exact (hf b hb).1
 done:=by
  intro X hP hw hK hc i pins s σ H E I hf st hg;subst hP hw hK;obtain ⟨hz,mi,⟨a,c,nU⟩,h1,h2⟩:=st;obtain ⟨xs,ys,rW,jq,hx⟩:=hg;obtain ⟨ai,rv,p,_⟩:=I.list rW;obtain ⟨G9,yp,p',_⟩:=I.list jq;have hl:=rv.length;have ZO:=yp.length;refine wpAny_pyNext_zip_end (I.ok.hd hc) D hz mi nU h1 h2 p.isList p'.isList (hx.imp (fun h=>by simp;lia) fun h=>by simp;lia) fun h' g=>⟨rfl,?_⟩
  have keep:∀b o,b∉[z,TI,TO,i1,i2]→s.heap.get? b=some o→h'.get? b=some o:=fun b o nb e=>by simp only [dq,qX,or_false,not_or] at nb;exact g b o nb.1 nb.2.2.1 nb.2.2.2.1 nb.2.2.2.2 e
  have au:bT X.prog X.w H h':=fun b o e=>by
   refine (I.au b o e).gB (fun c v dJ q=>keep c v (fun m=>?_) q) (fun c q=>q) fun c xs q=>q;have nn:=(hf c m).1;rcases dJ with rfl | dJ;·rw [nn] at e;cases e
   ·rw [nn] at dJ;cases dJ
  have u1:Un (b7 X.stack) [z,TI,TO,i1,i2] H H s.heap h':=
   ⟨fun b o e n _ hx=>keep b o hx e,fun b o e n _ hx=>⟨o.slots,keep b o hx e⟩,fun b o e n hx=>n,fun b o e hx=>⟨o,keep b o hx e⟩,fun b xs e=>e,fun b o u e=>e,fun b ps e=>⟨#[],by rw [e];simp⟩⟩
  refine I.iJ (s':={s with heap:=h'}) (ch:=[z,TI,TO,i1,i2]) rfl u1 au I.bare fun b hb=>?_;obtain ⟨f0,f1,f2,f3,f4,f5⟩:=hf b hb;exact ⟨f3,f1,f4,f5⟩
 self:=fun _ _ _ _ _ st h=>wpAny_pyIter_zip st.1 h
theorem boot_zip:bootBuiltins "zip"=some (.type "zip"):=by decide +kernel
def Qg(K:aA)(ta:TA):TI:=fun σ H R=>ta σ H fun vs H1=>∃l1 l2,vs=[.ref l1,.ref l2]∧(∃xs,bh K H1 l1 xs)∧(∃ys,bh K H1 l2 ys)∧R (rS K l1 l2) H1
section
variable {X:Cx}
theorem nV{elts:List Expr}{k:Nat}{xR:Pos}{a b:Expr}{ta:TA}{p pos:Pos}(hg:Gl X "zip")(hm:X.mg "zip"=none)(ha:PA X [a,b] ta)(hs:starEach [a,b] X.env=[(false,eval a X.env),(false,eval b X.env)]:=by rfl)(kT:starEach [b] X.env=[(false,eval b X.env)]:=by rfl) :
  PI X (.Tuple elts k xR) (.Call (.Name "zip" p) [a,b] [] pos) (Qg X.K ta):=by
 intro pins s σ H R I h;refine Call_ (rz I hg hm boot_zip (wX (aF (ha pos pins s σ H _ I h) fun us s1 ⟨vs,H1,I1,r1,q1⟩=>?_) (by rw [hs,kT]) (by rw [kT];rfl)))
 obtain ⟨l1,l2,e,⟨xs,rW⟩,⟨ys,jq⟩,q⟩:=q1;subst e;cases r1 with
 | cons r rr=>
  cases rr with
  | cons r' rr=>
   cases rr;cases r;cases r';obtain ⟨ai,rv,p1,_⟩:=I1.list rW;obtain ⟨G9,yp,p2,_⟩:=I1.list jq;have b1:l1<s1.heap.objs.size:=by obtain ⟨o,e,_⟩:=p1.isList;exact aZ e
   have b2:l2<s1.heap.objs.size:=by obtain ⟨o,e,_⟩:=p2.isList;exact aZ e
   refine call_zip_2 p1.isList p2.isList fun h' z1 z2 z3 z4 z5 z6 z7=>?_;refine wpAny_pyIter_zip (s:={s1 with heap:=h'}) z1 ?_;have D:ZipApart (s1.heap.objs.size+4) (s1.heap.objs.size+2) (s1.heap.objs.size+3) s1.heap.objs.size (s1.heap.objs.size+1) l1 l2:=by constructor <;> (intro h;have h:@Eq Nat _ _:=h;have b1:@LT.lt Nat _ l1 s1.heap.objs.size:=b1;have b2:@LT.lt Nat _ l2 s1.heap.objs.size:=b2;lia)
   refine ⟨_,_,_,_,H1,rfl,I1.kept (t':=s1.toks) z7,Qc D,⟨z1,z2,⟨_,_,z3⟩,z4,z5⟩,fun b hb=>?_,q⟩;have le:s1.heap.objs.size≤b:=by
    simp only [dq,qX,or_false] at hb;rcases hb with rfl | rfl | rfl | rfl | rfl;·exact xj ..
    ·exact xj ..
    ·exact xj ..
    ·exact aI _
    ·exact xj ..
   exact I1.Bk le (I1.au.fresh le)
end
section
variable {prog:Program} {w:World} {A:Around} {R:Result→Shared→Prop} {s:Shared}
theorem G_{elt target iter:Expr}{ifs:List Expr}{scope:Scope}{pos:Pos}{it acc:Value}{env:Env}(I:Nat→Shared→Prop)
  (turn:∀n s,I n s→wpAny (model prog w) A (pyNext it) (fun r s₁=>match r with
   | none=>R (.ok .next) s₁
   | some v=>wpAny (model prog w) A (letOwnedTupleGo target it v) (fun _ s₁=>wpAny (model prog w) A (assign target env v) (fun _ s₂=>
     wpAny (model prog w) A (forIn ifs true fun c r=>if r=true then do let ok ←isTrue c env (eval c env);pure (ForInStep.yield ok) else pure (ForInStep.yield r)) (fun ok s₃=>
      if ok=true then wpAny (model prog w) A (eval elt env) (fun x s₄=>
       wpAny (model prog w) A (call (.builtin "list.append") [acc,x]) (fun _ s₅=>∃m,m<n∧I m s₅) (notedBy (model prog w) A env fun e s'=>R (.error e) s') s₄) (notedBy (model prog w) A env fun e s'=>R (.error e) s') s₃
      else ∃m,m<n∧I m s₃) (notedBy (model prog w) A env fun e s'=>R (.error e) s') s₂) (notedBy (model prog w) A env fun e s'=>R (.error e) s') s₁) (notedBy (model prog w) A env fun e s'=>R (.error e) s') s₁) (notedBy (model prog w) A env fun e s'=>R (.error e) s') s)
  (n:Nat) (h:I n s):codeAny (model prog w) A (.compLoop (.ListComp elt [⟨target,iter,ifs,0⟩] scope pos) 0 it acc env) R s:=by
 refine codeAny_loop rfl I (fun n s hI=>?_) n h
 show wpAny _ A ((compTurn (.ListComp elt [⟨target,iter,ifs,0⟩] scope pos) 0 it acc env).onRaise (fun x=>do noteFrame x env;theTreesLotGoes x)) _ _ s
 refine wpAny_noted ?_
 rw [compTurn_list]
 refine bG (qO (bG (a_ (turn n s hI) (fun r s₁ h₁=>?_) fun _ _ h'=>h')))
 cases r with
 | none=>exact dC h₁
 | some v=>
  refine bG (a_ h₁ (fun _ s₁ h₁=>?_) fun _ _ h'=>h')
  refine bG (a_ h₁ (fun _ s₂ h₂=>bG (a_ h₂ (fun ok s₃ h₃=>?_) fun _ _ h'=>h')) fun _ _ h'=>h')
  cases ok with
  | false=>exact dC ⟨rfl,h₃⟩
  | true=>
   exact bG (bG (a_ h₃ (fun x s₄ h₄=>bG (a_ h₄ (fun _ s₅ h₅=>dC (dC ⟨rfl,h₅⟩)) fun _ _ h'=>h')) fun _ _ h'=>h'))
end
def pC(K:aA)(wi:TI)(ρ:St→St)(tt:TT)(te:TE):TE:=fun σ H Q=>wi σ H fun J H1=>∀D,H1 D=none→∃W:Nat→Nat→List V→Hp→Prop,(∃m,W 0 m [] (upd H1 D (.lst []))) ∧
 ∀i m ys Hc,W i m ys Hc→Hc D=some (.lst ys)∧((J.stop i Hc∧Q (.ref D) Hc)∨(J.go i Hc∧∀v H',J.d6 i Hc v H'→∃T x1 x2,v=.ref T∧fG K H' T [x1,x2]∧tt (some x1::some x2::ρ σ) H' fun b H2=>
  if b=true then te (some x1::some x2::ρ σ) H2 fun y H3=>H3 D=some (.lst ys)∧ys.length<sizeLine∧∃m',m'<m∧W (i+1) m' (ys++[y]) (upd H3 D (.lst (ys++[y]))) else ∃m',m'<m∧W (i+1) m' ys H2))
section
variable {X:Cx} {N:List Str} {scope:Scope} {cl:List (Str×Addr)} {x y:Str} {px py pos tp:Pos} {j_:Nat} {iter elt:Expr} {ifs:List Expr} {wi:TI} {ρ:St→St} {tt:TT} {te:TE}
structure B0 (X:Cx) (N:List Str) (scope:Scope) (cl:List (Str×Addr)) (x y:Str) (ρ:St→St):Prop where
 nI:closureFor scope X.env=pure cl
 kind:scope.kind=.function
 ve:∀y∈scope.names,y.2≠.cell
 names:∀y∈scope.names,y.2=.local→scope.names.lookup y.1=some .local
 sub:∀p∈cl,X.env.cells.lookup p.1=some p.2
 has:∀y,((relabel scope X.env).names.lookup y=some .cell∨(relabel scope X.env).names.lookup y=some .free)→∃c,cl.lookup y=some c
 n0:N[0]?=some x
 n1:N[1]?=some y
 nd:N.Nodup
 hx:scope.names.lookup x=some .local
 hy:scope.names.lookup y=some .local
 nJ:∀(σ:St) (j:Nat) (v:V),(ρ σ)[j]?=some (some v)→∃(i:Nat) (y:Str),N[j+1+1]?=some y∧X.N[i]?=some y∧σ[i]?=some (some v)∧lO X.env.scope y∧(X.env.kindOf y=some .cell∨X.env.kindOf y=some .free)∧((relabel scope X.env).names.lookup y=some .cell∨(relabel scope X.env).names.lookup y=some .free)
 len:∀σ:St,σ.length=X.N.length→(ρ σ).length+1+1=N.length
theorem nW(is:List Nat)(h1:closureFor scope X.env=pure cl)(h:yg X scope N.tail.tail is:=by repeat' first | exact True.intro | refine And.intro ⟨rfl,Or.inr (Or.inl rfl),.inl rfl,.inl rfl⟩ ?_)(h2:scope.kind=.function:=by rfl)(h3:∀y∈scope.names,y.2≠.cell:=by decide +kernel)(h4:∀y∈scope.names,y.2=.local→scope.names.lookup y.1=some .local:=by decide +kernel)(h5:∀p∈cl,X.env.cells.lookup p.1=some p.2:=by repeat' first | exact oI _ | refine gw.mpr ⟨rfl,?_⟩)(h6:((relabel scope X.env).names.all fun q=>(q.2 != .cell && q.2 != .free) || (cl.lookup q.1).isSome)=true:=by rfl)(h7:N[0]?=some x:=by rfl)(Qh:N[1]?=some y:=by rfl)(h8:N.Nodup:=by decide +kernel)(h9:scope.names.lookup x=some .local:=by rfl)(Qi:scope.names.lookup y=some .local:=by rfl)(hr:∀σ:St,ρ σ=is.map fun i=>σ[i]?.join:=by exact fun _=>rfl)(hl:is.length+1+1=N.length:=by rfl):B0 X N scope cl x y ρ:=
 ⟨h1,h2,h3,h4,h5,GR h6,h7,Qh,h8,h9,Qi,fun σ j v e=>by rw [hr] at e;rw [←List.getElem?_tail,←List.getElem?_tail];exact BM h σ j v e,fun σ _=>by rw [hr,aD];exact hl⟩
theorem rZ(B:B0 X N scope cl x y ρ)(hc:X.calm=true)(hi:PI X (.Tuple [.Name x px,.Name y py] j_ tp) iter wi)(ht:∀s₃ H₃ fp,iq (X.aY N scope cl s₃ H₃ fp) ifs tt)(he:∀s₃ H₃ fp,PE (X.aY N scope cl s₃ H₃ fp) elt te)
  (hs:∀x,foldedSetIterable iter X.env x=pure x:=by intro _;rfl):PE X (.ListComp elt [⟨.Tuple [.Name x px,.Name y py] j_ tp,iter,ifs,0⟩] scope pos) (pC X.K wi ρ tt te):=by
 intro pins s σ H Q I h
 rw [eval_ListComp]
 refine qT (use:=none) rfl hs B.nI B.kind B.names (aF (hi pins s σ H _ I h) fun v s1 h1=>aF h1 fun nB s2 h2=>?_)
 obtain ⟨it,fp,tn,J,H2,rfl,I2,T,dM,f2,q2⟩:=h2
 have nD:H2 s2.heap.objs.size=none:=I2.au.fresh (aI _)
 obtain ⟨W,⟨m0,w0⟩,turn⟩:=q2 _ nD
 refine oB (xb B.ve (by intro y hy;simp at hy) (fun h₁ d7 fK=>?_) B.kind)
 dsimp only at d7 fK ⊢
 generalize hD:s2.heap.objs.size=D at nD w0 turn d7 fK ⊢
 generalize dy:({s2 with heap:=s2.heap.push {cls:=.type "list",dict:=none,data:=.seq ([]:List Value).toArray}}:Shared)=s3
 have I3:Inv X pins σ (upd H2 D (.lst [])) s3:=by
  subst hD dy
  exact I2.laid (t':=s2.toks) (fun b u e=>b9 _ e) (aI _) ⟨cT _,[],_,.nil,fc _ rfl⟩
 have e3:s3.heap=s2.heap.push {cls:=.type "list",dict:=none,data:=.seq ([]:List Value).toArray}:=by rw [←dy]
 have cL:∀b o,s2.heap.get? b=some o→s3.heap.get? b=some o:=fun b o e=>by rw [e3];exact b9 _ e
 rw [←e3] at d7 fK ⊢
 have below:∀b o,s3.heap.get? b=some o→b≠s3.heap.objs.size:=fun b o e=>dB (aZ e)
 have b5:∀b o,s3.heap.get? b=some o→h₁.get? b=some o:=fun b o e=>fK.extBut b o (below b o e) (b9 _ e)
 have dP:∀b∈fp,∃o,s2.heap.get? b=some o∧∀v,o.data≠.cell v:=T.obj _ _ dM
 have jW:∀b∈fp,b≠D:=fun b hb z=>by
  obtain ⟨o,e,_⟩:=dP b hb
  rw [z,←hD] at e
  exact absurd (aZ e) (eW _)
 have bF:∀y c,cl.lookup y=some c→X.env.cells.lookup y=some c:=fun y c e=>B.sub (y,c) (iE e)
 have jX:=I3.m9
 have dF:(X.aY N scope cl s3 (upd H2 D (.lst [])) fp).Ok:=by
  refine ⟨I.ok.mod,B.kind,I.ok.glob,I.ok.blt,aI _,fun a b c e1 e2=>I.ok.inj a b c (bF a c e1) (bF b c e2),fun y hy=>B.has y hy,(fun _ _ z _=>absurd z cJ),(fun _=>I.ok.hd hc),I.ok.frames,.inl rfl,fun b hb=>⟨?_,fun y c e z=>?_⟩,fun b o e=>?_,aN I.ok.fj I3.sz,fun b o e hb=>?_,fun b hb z=>?_,I3.stack,jX⟩
  ·obtain ⟨o,e,_⟩:=dP b hb
   exact below b o (cL b o e)
  ·exact (f2 b hb).2.2.2.2.1 y c (bF y c e) z
  ·exact I3.bs b o e
  ·rcases (f2 b hb).2.2.2.1 with z | z
   ·exact I.ok.jJ b o e z
   ·exact absurd (cw (aZ e) (aN I.ok.fj z)) (eW _)
  ·rcases dq.mp (I3.m7 b z) with z | z
   ·exact (f2 b hb).2.1 z
   ·exact (f2 b hb).2.2.1 z
 have IB:∀tk:Nat,Inv (X.aY N scope cl s3 (upd H2 D (.lst [])) fp) [] (none::none::ρ σ) (upd H2 D (.lst [])) {s3 with heap:=h₁,toks:=tk}:=fun tk=>by
  refine ⟨dF,rfl,I3.bare,Un.kept b5,⟨_,d7,fun j y v e1 e2 e3=>?_⟩,fun y c e=>?_,?_,fun y c e=>I3.fR y c (bF y c e),(fun p hp=>nomatch hp),I3.au.kept b5,?_⟩
  ·cases j with
   | zero=>cases e2
   | succ j=>
   cases j with
   | zero=>cases e2
   | succ j=>
    obtain ⟨i,y',a1,a2,a3,a4,a5,a6⟩:=B.nJ σ j v e2
    have iU:N[j+1+1]?=some y:=e1
    rw [iU] at a1
    cases a1
    obtain ⟨m,hn,hl⟩:=I3.loc
    obtain ⟨u,r,l⟩:=hl i y v a2 a3 a4
    refine ⟨u,r,.inr ⟨a6,?_⟩⟩
    obtain ⟨c,ec⟩:=B.has y a6
    rcases l with ⟨k,_⟩ | ⟨_,c',gg,z⟩
    ·rcases a5 with q | q <;> (rw [k] at q;cases q)
    ·have:=bF y c ec
     rw [this] at gg
     cases gg
     obtain ⟨o,ho,hd⟩:=z
     exact ⟨c,ec,o,b5 _ _ ho,hd⟩
  ·obtain ⟨v,o,ho,hd⟩:=I3.cell y c (bF y c e)
   exact ⟨v,o,b5 _ _ ho,hd⟩
  ·exact I3.au.fresh (aI _)
  ·show (none::none::ρ σ).length=N.length
   rw [cx,cx]
   exact B.len σ I.len
 have fin:∀{σ':St} {H':Hp} {s':Shared},Inv (X.aY N scope cl s3 (upd H2 D (.lst [])) fp) [] σ' H' s'→Q (.ref D) H'→compPost (model X.prog X.w) X.A X.xe none (EP X pins σ Q) (.ref D) s3.heap.objs.size (.ok .next) s':=fun{σ' H' s'} J q=>by
  obtain ⟨m,hn,_⟩:=J.loc
  refine ⟨m,hn,fun h' cH=>⟨.ref D,H',?_,rfl,q⟩⟩
  have old:∀b o,s3.heap.get? b=some o→b≠s3.heap.objs.size:=below
  have u1:Un (b7 X.stack) fp (upd H2 D (.lst [])) H' s3.heap h':=by
   refine ⟨fun b o e n hb hx=>?_,fun b o e n hb hx=>?_,J.base.free,fun b o e hx=>?_,J.base.d3,J.base.dS,J.base.d5⟩
   ·exact (cH.2 b (old b o e)).trans (J.base.keep b o e n hb hx)
   ·obtain ⟨sl,z⟩:=J.base.slot b o e n hb hx
    exact ⟨sl,(cH.2 b (old b o e)).trans z⟩
   ·obtain ⟨o',z⟩:=J.base.there b o e hx
    exact ⟨o',(cH.2 b (old b o e)).trans z⟩
  have jY:bT X.prog X.w H' h':=fun b u e=>by
   refine (J.au b u e).gB (fun c v hc z=>(cH.2 c fun y=>?_).trans z) (fun _ z=>z) fun _ _ z=>z
   have fr:=J.free
   have y':c=s3.heap.objs.size:=y
   rcases hc with hc | hc
   ·rw [←hc,y'] at e
    exact absurd (fr.symm.trans e) (by simp)
   ·rw [y'] at hc
    exact absurd (fr.symm.trans hc) (by simp)
  refine I3.iJ (s':={s' with heap:=h'}) (ch:=fp) (J.os) u1 jY J.bare fun b hb=>?_
  obtain ⟨g0,g1,g2,g3,g4,g5⟩:=f2 b hb
  exact ⟨g3,g1,g4,g5⟩
 have dr:∀{H':Hp},(∀b∈fp,H' b=none)→∀b∈fp,jh (X.aY N scope cl s3 (upd H2 D (.lst [])) fp) [] H' b:=fun hn b hb=>by
  refine ⟨hn b hb,?_,?_,.inl hb,fun y c e z=>(f2 b hb).2.2.2.2.1 y c (bF y c e) z,fun p hp=>nomatch hp⟩
  ·obtain ⟨o,e,_⟩:=dP b hb
   exact below b o (cL b o e)
  ·exact dF.jK b hb
 have loop:∀tk:Nat,codeAny (model X.prog X.w) X.A (.compLoop (.ListComp elt [⟨.Tuple [.Name x px,.Name y py] j_ tp,iter,ifs,0⟩] scope pos) 0 (.ref it) (.ref D) (compEnvC scope cl s3.heap.objs.size X.env))
   (compPost (model X.prog X.w) X.A X.xe none (EP X pins σ Q) (.ref D) s3.heap.objs.size) {s3 with heap:=h₁,toks:=tk}:=fun tk=>by
  refine G_ (fun n s'=>∃i ys o o2 H',Inv (X.aY N scope cl s3 (upd H2 D (.lst [])) fp) [] (o::o2::ρ σ) H' s'∧tn i s'.heap∧(∀b∈fp,H' b=none)∧W i n ys H') ?_ m0
   ⟨0,[],none,none,_,IB tk,T.keep _ _ _ dM fun b hb o e=>b5 _ _ (cL _ _ e),fun b hb=>by rw [aH (jW b hb)];exact (f2 b hb).1,w0⟩
  rintro n s4 ⟨i,ys,o,o2,H4,I4,gh,gi,w4⟩
  obtain ⟨vg,jZ⟩:=turn i n ys H4 w4
  rcases jZ with ⟨stop,qn⟩ | ⟨go,step⟩
  ·refine a_ (T.done (X.aY N scope cl s3 (upd H2 D (.lst [])) fp) rfl rfl rfl hc i [] s4 _ H4 (fun _ _=>False) I4 (dr gi) gh stop) (fun r s5 ⟨hr,I5⟩=>?_) fun _ _ z=>z.elim
   subst hr
   exact fin I5 qn
  ·refine a_ (T.item (X.aY N scope cl s3 (upd H2 D (.lst [])) fp) rfl rfl rfl hc i [] s4 _ H4 (fun _ _=>False) I4 (dr gi) gh go) (fun r s5 ⟨u,hr,h5⟩=>?_) fun _ _ z=>z.elim
   subst hr
   refine a_ h5 (fun _ s5 ⟨y0,H5,I5,r5,y5,du,iL⟩=>?_) fun _ _ z=>z.elim
   obtain ⟨Tt,x1,x2,e0,B3,j4⟩:=step y0 _ y5
   subst e0
   have iM:=I5.pinned (dr iL) (T.obj _ _ du)
   have pg:PG (X.aY N scope cl s3 (upd H2 D (.lst [])) fp) (.Tuple [.Name x px,.Name y py] j_ tp) (Bg X.K 2 (uY (aS 0) (uY (aS 1) Bf))):=
    xG (X:=X.aY N scope cl s3 (upd H2 D (.lst [])) fp) hc (ng (e7 (i:=0) B.nd B.n0 (.inl (jd B.hx)) (.inr (jd B.hx))) (ng (e7 (i:=1) B.nd B.n1 (.inl (jd B.hy)) (.inr (jd B.hy))) xF))
   have again:∀{σ7:St} {H7:Hp} {s7:Shared},Inv (X.aY N scope cl s3 (upd H2 D (.lst [])) fp) ([]++gD fp s5.heap) σ7 H7 s7→Inv (X.aY N scope cl s3 (upd H2 D (.lst [])) fp) [] σ7 H7 s7∧tn (i+1) s7.heap∧∀b∈fp,H7 b=none:=fun{σ7 H7 s7} I7=>by
    refine ⟨I7.lX,T.keep _ _ _ du fun b hb o e=>(I7.pin (b,o) (cM _ (cM _ (ig hb e)))).1,fun b hb=>?_⟩
    obtain ⟨o,e,d⟩:=T.obj _ _ du b hb
    exact (I7.pin (b,o) (cM _ (cM _ (ig hb e)))).2.1
   refine a_ (pg _ s5 _ H5 (.ref Tt) u (fun σ2 H6=>σ2=some x1::some x2::ρ σ∧H6=H5) iM r5 ⟨Tt,_,rfl,B3,rfl,_,_,rfl,_,_,rfl,rfl,rfl,rfl⟩) (fun _ s6 ⟨σ6,H6,I6,q6⟩=>?_) fun _ _ z=>z.elim
   obtain ⟨rfl,rfl⟩:=q6
   have tests:∀{d8:TT},iq (X.aY N scope cl s3 (upd H2 D (.lst [])) fp) ifs d8→∀{R:Bool→Hp→Prop},d8 (some x1::some x2::ρ σ) H6 R→wpAny (model X.prog X.w) X.A
     (forIn ifs true fun c r=>if r=true then do let ok ←isTrue c (compEnvC scope cl s3.heap.objs.size X.env) (eval c (compEnvC scope cl s3.heap.objs.size X.env));pure (ForInStep.yield ok) else pure (ForInStep.yield r))
     (fun ok s7=>∃H7,Inv (X.aY N scope cl s3 (upd H2 D (.lst [])) fp) ([]++gD fp s5.heap) (some x1::some x2::ρ σ) H7 s7∧R ok H7) (fun _ _=>False) s6:=fun{d8} p {R} hR=>by
    cases p with
    | nil=>exact qU ⟨_,I6,hR⟩
    | one p=>exact qV (p _ s6 _ _ _ I6 hR)
   refine a_ (tests (ht s3 _ fp) j4) (fun ok s7 ⟨H7,I7,q7⟩=>?_) fun _ _ z=>z.elim
   cases ok with
   | false=>
    obtain ⟨m',d9,w7⟩:=q7
    obtain ⟨a1,a2,a3⟩:=again I7
    exact ⟨m',d9,i+1,ys,_,_,H7,a1,a2,a3,w7⟩
   | true=>
    refine a_ (he s3 _ fp _ s7 _ H7 _ I7 q7) (fun ev s8 ⟨z,H8,I8,r8,j6,hz,m',d9,w8⟩=>?_) fun _ _ z=>z.elim
    refine a_ (l8 (X:=X.aY N scope cl s3 (upd H2 D (.lst [])) fp) _ s8 _ H8 (.ref D) [z] (.ref D) [ev] (fun _ H9=>H9=upd H8 D (.lst (ys++[z]))) I8 rfl (.cons r8 .nil) ⟨D,ys,z,rfl,rfl,j6,hz,rfl⟩) (fun _ s9 ⟨_,H9,I9,_,q9⟩=>?_) fun _ _ z=>z.elim
    subst q9
    obtain ⟨a1,a2,a3⟩:=again I9
    exact ⟨m',d9,i+1,ys++[z],_,_,_,a1,a2,a3,w8⟩
 have start:=loop (s3.toks+([]:List (Str×Value)).length)
 have es:({s3 with heap:=h₁,toks:=s3.toks+([]:List (Str×Value)).length}:Shared)={s2 with heap:=h₁,toks:=s2.toks+([]:List (Str×Value)).length}:=by rw [←dy]
 rw [es] at start
 exact qW start (T.self _ 0 _ _ _ (T.keep _ _ _ dM fun b hb o e=>b5 _ _ (cL _ _ e)) start)
end
section
variable {X:Cx}
def anyR(K:aA):List V→Hp→VK→Prop:=fun xs H Q=>∃(p:Addr) (bs:List Bool),xs=[.ref p]∧bh K H p (bs.map V.bl)∧Q (.bl (bs.any id)) H
theorem Qj(hc:X.calm=true)(hK:X.K=K:=by rfl):gT X (.builtin "any") (anyR K):=by
 intro pins s σ H xs us Q I r h;subst hK;obtain ⟨p,bs,rfl,hq,q⟩:=h;obtain ⟨u,rfl,ru⟩:=vals1 r;cases ru;obtain ⟨ai,rv,pl,hz⟩:=I.list hq;have iw:p≠s.heap.objs.size:=by obtain ⟨o,e,_⟩:=pl.isList;exact dB (aZ e)
 have hl:ai.length=bs.length:=by rw [←rv.length,aD]
 refine call_any_walk (wV pl.isList ?_);refine ⟨s.heap.objs.size,_,_,_,_,_,fun i=>bs.getD i false,rfl,Walks.list (A:=X.A.in1) (show X.A.in1.handled=none from I.ok.hd hc) s.heap.objs.size p iw ai.toArray,⟨⟨_,fc _ rfl,rfl,rfl⟩,pl.isList.push _⟩,fun i v s' Q' E' hv l6=>?_,fun h' tk hk=>?_⟩
 ·have f_:ai[i]?=some v:=by simpa using hv
  cases eb:bs[i]? with
  | none=>
   have:=rv.none_of (i:=i) (by rw [bo,eb];rfl)
   rw [this] at f_;cases f_
  | some b=>
   obtain ⟨u,hu,ru⟩:=rv.get (i:=i) (x:=V.bl b) (by rw [bo,eb];rfl)
   rw [hu] at f_;cases f_;cases ru;have e:bs.getD i false=b:=by rw [bq,eb];rfl
   have jq:Q' (bs.getD i false) s':=l6;rw [e] at jq;exact lE jq
 ·refine ⟨.bl (bs.any id),H,I.kept fun b o e=>hk b o (fun z=>?_) (b9 _ e),?_,q⟩
  ·exact absurd (aZ e) (by rw [g_.mp z];exact eW _)
  ·show Value.bool _=Value.bool _
   congr 1
   rw [cK,hl];clear hk q rv pl hz hl hq
   induction bs with
   | nil=>rfl
   | cons b bs ih=>rw [cx,AJ,oF,List.any_map,oF];show (b || (List.range bs.length).any fun i=>bs.getD i false)=(b || bs.any id);rw [ih]
def Qk(K:aA):List V→Hp→VK→Prop:=fun xs H Q=>∃(p:Addr) (ns:List Int),xs=[.ref p]∧bh K H p (ns.map V.int)∧Q (.int ns.sum) H
theorem Ql:∀(ns:List Int),preSum (fun i=>ns.getD i 0) ns.length=ns.sum:=by
 intro ns;have key:∀k,k≤ns.length→preSum (fun i=>ns.getD i 0) k=(ns.take k).sum:=by
  intro k
  induction k with
  | zero=>intro _;rfl
  | succ k ih=>
   intro hk;show preSum (fun i=>ns.getD i 0) k+ns.getD k 0=_;rw [ih (by lia),List.take_add_one,List.sum_append]
   have e:ns[k]?=some ns[k]:=by simp [show k<ns.length by lia]
   rw [bq,e];simp
 rw [key ns.length (aI _),uP]
theorem Qm(hc:X.calm=true)(hK:X.K=K:=by rfl):gT X (.builtin "sum") (Qk K):=by
 intro pins s σ H xs us Q I r h;subst hK;obtain ⟨p,ns,rfl,hq,q⟩:=h;obtain ⟨u,rfl,ru⟩:=vals1 r;cases ru;obtain ⟨ai,rv,pl,hz⟩:=I.list hq;have iw:p≠s.heap.objs.size:=by obtain ⟨o,e,_⟩:=pl.isList;exact dB (aZ e)
 have hl:ai.length=ns.length:=by rw [←rv.length,aD]
 refine call_sum_walkG (wV pl.isList ?_);refine ⟨s.heap.objs.size,_,_,_,_,_,fun i=>ns.getD i 0,rfl,Walks.list (A:=X.A.in1) (show X.A.in1.handled=none from I.ok.hd hc) s.heap.objs.size p iw ai.toArray,⟨⟨_,fc _ rfl,rfl,rfl⟩,pl.isList.push _⟩,?_,fun i v hv=>?_,fun h' tk t' hk=>?_⟩
 ·intro b hb
  rw [qP];simp only [dq,qX,or_false] at hb;rcases hb with rfl | rfl;·exact qR _
  ·obtain ⟨o,e,_⟩:=pl.isList
   exact Nat.lt_succ_of_lt (aZ e)
 ·have f_:ai[i]?=some v:=by simpa using hv
  cases eb:ns[i]? with
  | none=>
   have:=rv.none_of (i:=i) (by rw [bo,eb];rfl)
   rw [this] at f_;cases f_
  | some b=>
   obtain ⟨u,hu,ru⟩:=rv.get (i:=i) (x:=V.int b) (by rw [bo,eb];rfl)
   rw [hu] at f_;cases f_;obtain ⟨t,rfl⟩:=ru;exact ⟨t,by show Value.int b t=Value.int (ns.getD i 0) t;rw [bq,eb];rfl⟩
 ·refine ⟨.int ns.sum,H,I.kept fun b o e=>hk b o (fun z=>?_) (b9 _ e),⟨t',?_⟩,q⟩
  ·exact absurd (aZ e) (by rw [g_.mp z];exact eW _)
  ·congr 1
   rw [cK,hl];exact Ql ns
end
theorem boot_any:bootBuiltins "any"=some (.builtin "any"):=by decide +kernel
theorem boot_sum:bootBuiltins "sum"=some (.builtin "sum"):=by decide +kernel
abbrev Cx.cQ (X:Cx) (N:List Str) (scope:Scope) (cl:List (Str×Addr)) (x:Str) (s₃:Shared) (H₃:Hp) (fp:List Addr):Cx:=
 {X with N:=N,s₀:=s₃,H₀:=H₃,env:=compEnvC scope ((x,s₃.heap.objs.size+1)::cl) s₃.heap.objs.size X.env,outer:=X.stack,stack:=X.stack,ex:=fp,fn:=fun y=>y == x,pn:=[],xe:=fun _ _=>False}
section
variable {M:Model} {A:Around} {E:aJ} {s:Shared}
theorem Hf{scope:Scope}{globals:Addr}{cl:List (Str×Addr)}{qual x:Str}{env:Env}{Q:Env→Shared→Prop}
  (c1:∀n,cellsFrom n scope.names cl=(x,n)::cl) (p1:∀h:Heap,pushCells h scope.names=h.push {cls:=.type "cell",data:=.cell none})
  (hQ:Q (newEnv scope s.heap.objs.size globals ((x,s.heap.objs.size+1)::cl) qual none .none (some env) builtinsNs) {s with heap:=(s.heap.push {cls:=.type "dict",data:=.dict #[]}).push {cls:=.type "cell",data:=.cell none}}) :
  wpAny M A (newFunctionEnv scope globals cl [] qual none .none (some env)) Q E s:=by
 simp only [newFunctionEnv,Option.isSome_some,if_true];refine bG (wpAny_alloc ?_);refine bG (wpAny_layCells _ (fun name kind cells=>by cases Qn:kind == NameKind.cell <;> simp [Qn]) _ _ _ _ ?_)
 rw [show ({s with heap:=s.heap.push {cls:=.type "dict",data:=.dict #[]}}:Shared).heap.objs.size=s.heap.objs.size+1 from qP ..,c1,p1];exact bG (dC (dC hQ))
end
section
variable {X:Cx} {N:List Str} {scope:Scope} {cl:List (Str×Addr)} {x:Str} {px pos:Pos} {iter elt:Expr} {ifs:List Expr} {wi:TI} {ρ:St→St} {tt:TT} {te:TE}
theorem vt{names:List (Str×NameKind)}(h:(names.all fun q=>(q.2 != .cell && q.2 != .free) || ((cl.lookup q.1).isSome || q.1 == x))=true) :
  ∀y,y≠x→(names.lookup y=some .cell∨names.lookup y=some .free)→∃c,cl.lookup y=some c:=fun y hx hy=>by
 have key:∀k:NameKind,(k != .cell && k != .free)=false→names.lookup y=some k→∃c,cl.lookup y=some c:=fun k hk e=>by have z:=oH.mp h (y,k) (iE e);rw [hk,uJ,show ((y,k).1 == x)=false from jC.mpr hx,Bool.or_false] at z;exact AH.mp z
 rcases hy with e | e;·exact key .cell rfl e
 ·exact key .free rfl e
structure Hg (X:Cx) (N:List Str) (scope:Scope) (cl:List (Str×Addr)) (x:Str) (ρ:St→St):Prop where
 nI:closureFor scope X.env=pure cl
 kind:scope.kind=.function
 Hh:∀n,cellsFrom n scope.names cl=(x,n)::cl
 Hi:∀h:Heap,pushCells h scope.names=h.push {cls:=.type "cell",data:=.cell none}
 names:∀y∈scope.names,y.2=.local→scope.names.lookup y.1=some .local
 sub:∀p∈cl,X.env.cells.lookup p.1=some p.2
 has:∀y,y≠x→((relabel scope X.env).names.lookup y=some .cell∨(relabel scope X.env).names.lookup y=some .free)→∃c,cl.lookup y=some c
 n0:N[0]?=some x
 nd:N.Nodup
 Hj:(relabel scope X.env).names.lookup x=some .cell
 nJ:∀(σ:St) (j:Nat) (v:V),(ρ σ)[j]?=some (some v)→∃(i:Nat) (y:Str),N[j+1]?=some y∧X.N[i]?=some y∧σ[i]?=some (some v)∧lO X.env.scope y∧(X.env.kindOf y=some .cell∨X.env.kindOf y=some .free)∧((relabel scope X.env).names.lookup y=some .cell∨(relabel scope X.env).names.lookup y=some .free)
 len:∀σ:St,σ.length=X.N.length→(ρ σ).length+1=N.length
theorem B4(B:Hg X N scope cl x ρ)(hc:X.calm=true)(hi:PI X (.Name x px) iter wi)(ht:∀s₃ H₃ fp,iq (X.cQ N scope cl x s₃ H₃ fp) ifs tt)(he:∀s₃ H₃ fp,PE (X.cQ N scope cl x s₃ H₃ fp) elt te)
  (hs:∀x,foldedSetIterable iter X.env x=pure x:=by intro _;rfl):PE X (.ListComp elt [⟨.Name x px,iter,ifs,0⟩] scope pos) (iu wi ρ tt te):=by
 intro pins s σ H Q I h
 rw [eval_ListComp]
 refine qT (use:=none) rfl hs B.nI B.kind B.names (aF (hi pins s σ H _ I h) fun v s1 h1=>aF h1 fun nB s2 h2=>?_)
 obtain ⟨it,fp,tn,J,H2,rfl,I2,T,dM,f2,q2⟩:=h2
 have nD:H2 s2.heap.objs.size=none:=I2.au.fresh (aI _)
 obtain ⟨W,⟨m0,w0⟩,turn⟩:=q2 _ nD
 refine oB (Hf B.Hh B.Hi ?_)
 dsimp only
 generalize hD:s2.heap.objs.size=D at nD w0 turn ⊢
 generalize dy:({s2 with heap:=s2.heap.push {cls:=.type "list",dict:=none,data:=.seq ([]:List Value).toArray}}:Shared)=s3
 have I3:Inv X pins σ (upd H2 D (.lst [])) s3:=by
  subst hD dy
  exact I2.laid (t':=s2.toks) (fun b u e=>b9 _ e) (aI _) ⟨cT _,[],_,.nil,fc _ rfl⟩
 have e3:s3.heap=s2.heap.push {cls:=.type "list",dict:=none,data:=.seq ([]:List Value).toArray}:=by rw [←dy]
 have cL:∀b o,s2.heap.get? b=some o→s3.heap.get? b=some o:=fun b o e=>by rw [e3];exact b9 _ e
 rw [←e3]
 obtain ⟨h₁,eh⟩:∃h₁,h₁=(s3.heap.push {cls:=.type "dict",data:=.dict #[]}).push {cls:=.type "cell",data:=.cell none}:=⟨_,rfl⟩
 rw [←eh]
 have d7:h₁.Ns s3.heap.objs.size (fun _=>none):=by
  rw [eh]
  exact (Heap.Ns.new s3.heap (.type "dict")).keeps fun b o e=>b9 _ e
 have B5:(s3.heap.push {cls:=.type "dict",data:=.dict #[]}).objs.size=s3.heap.objs.size+1:=qP ..
 have B6:h₁.IsCell (s3.heap.objs.size+1) none:=by
  rw [eh,←B5]
  exact ⟨_,fc _ rfl,rfl⟩
 have below:∀b o,s3.heap.get? b=some o→b≠s3.heap.objs.size:=fun b o e=>dB (aZ e)
 have b5:∀b o,s3.heap.get? b=some o→h₁.get? b=some o:=fun b o e=>by rw [eh];exact b9 _ (b9 _ e)
 have dP:∀b∈fp,∃o,s2.heap.get? b=some o∧∀v,o.data≠.cell v:=T.obj _ _ dM
 have jW:∀b∈fp,b≠D:=fun b hb z=>by
  obtain ⟨o,e,_⟩:=dP b hb
  rw [z,←hD] at e
  exact absurd (aZ e) (eW _)
 have bF:∀y c,cl.lookup y=some c→X.env.cells.lookup y=some c:=fun y c e=>B.sub (y,c) (iE e)
 have vv:∀y c,cl.lookup y=some c→c<s3.heap.objs.size:=fun y c e=>by
  obtain ⟨v,o,eo,_⟩:=I3.cell y c (bF y c e)
  exact aZ eo
 have lk:∀y c,((x,s3.heap.objs.size+1)::cl).lookup y=some c→(y=x∧c=s3.heap.objs.size+1)∨(y≠x∧cl.lookup y=some c):=fun y c e=>by
  by_cases z:y=x
  ·subst z
   rw [mU,uK] at e
   exact .inl ⟨rfl,(Option.some.inj e).symm⟩
  ·rw [mU,jC.mpr z] at e
   exact .inr ⟨z,e⟩
 have vw:∀y c,y≠x→cl.lookup y=some c→((x,s3.heap.objs.size+1)::cl).lookup y=some c:=fun y c z e=>by
  rw [mU,jC.mpr z]
  exact e
 have vx:∀b∈fp,b<s3.heap.objs.size:=fun b hb=>by
  obtain ⟨o,e,_⟩:=dP b hb
  exact aZ (cL b o e)
 have jX:=I3.m9
 have dF:(X.cQ N scope cl x s3 (upd H2 D (.lst [])) fp).Ok:=by
  refine ⟨I.ok.mod,B.kind,I.ok.glob,I.ok.blt,aI _,fun a b c e1 e2=>?inj,fun y hy=>?has,(fun y c z e=>?kI),(fun _=>I.ok.hd hc),I.ok.frames,.inl rfl,fun b hb=>⟨?_,fun y c e z=>?_⟩,fun b o e=>?_,aN I.ok.fj I3.sz,fun b o e hb=>?_,fun b hb z=>?_,I3.stack,jX⟩
  case inj=>
   rcases lk a c e1 with ⟨z1,B7⟩ | ⟨_,f1⟩ <;> rcases lk b _ e2 with ⟨z2,ec⟩ | ⟨_,vy⟩
   ·rw [z1,z2]
   ·have:=vv _ _ vy
    rw [B7] at this
    exact absurd this (mV.mpr (fP _))
   ·have:=vv _ _ f1
    rw [ec] at this
    exact absurd this (mV.mpr (fP _))
   ·exact I.ok.inj a b c (bF a c f1) (bF b c vy)
  case has=>
   by_cases z:y=x
   ·subst z
    exact ⟨_,by rw [show (compEnvC scope ((y,s3.heap.objs.size+1)::cl) s3.heap.objs.size X.env).cells=(y,s3.heap.objs.size+1)::cl from rfl,mU,uK]⟩
   ·obtain ⟨c,ec⟩:=B.has y z hy
    exact ⟨c,vw y c z ec⟩
  case kI=>
   have z:y=x:=by simpa using z
   rcases lk y c e with ⟨_,rfl⟩ | ⟨z',_⟩
   ·exact fP _
   ·exact absurd z z'
  ·obtain ⟨o,e,_⟩:=dP b hb
   exact below b o (cL b o e)
  ·rcases lk y c e with ⟨rfl,rfl⟩ | ⟨_,e⟩
   ·rw [←z] at hb
    exact absurd (vx _ hb) (mV.mpr (fP _))
   ·exact (f2 b hb).2.2.2.2.1 y c (bF y c e) z
  ·exact I3.bs b o e
  ·rcases (f2 b hb).2.2.2.1 with z | z
   ·exact I.ok.jJ b o e z
   ·exact absurd (cw (aZ e) (aN I.ok.fj z)) (eW _)
  ·rcases dq.mp (I3.m7 b z) with z | z
   ·exact (f2 b hb).2.1 z
   ·exact (f2 b hb).2.2.1 z
 have IB:∀tk:Nat,Inv (X.cQ N scope cl x s3 (upd H2 D (.lst [])) fp) [] (none::ρ σ) (upd H2 D (.lst [])) {s3 with heap:=h₁,toks:=tk}:=fun tk=>by
  refine ⟨dF,rfl,I3.bare,Un.kept b5,⟨_,d7,fun j y v e1 e2 e3=>?_⟩,fun y c e=>?_,?_,fun y c e=>?fC,(fun p hp=>nomatch hp),I3.au.kept b5,?_⟩
  ·cases j with
   | zero=>cases e2
   | succ j=>
    obtain ⟨i,y',a1,a2,a3,a4,a5,a6⟩:=B.nJ σ j v e2
    have iU:N[j+1]?=some y:=e1
    rw [iU] at a1
    cases a1
    obtain ⟨m,hn,hl⟩:=I3.loc
    obtain ⟨u,r,l⟩:=hl i y v a2 a3 a4
    refine ⟨u,r,.inr ⟨a6,?_⟩⟩
    have yx:y≠x:=fun z=>by
     have n0:=B.n0
     rw [←z] at n0
     have:=(List.getElem?_inj (aW.mp n0).1 B.nd).mp (n0.trans iU.symm)
     lia
    obtain ⟨c,ec⟩:=B.has y yx a6
    rcases l with ⟨k,_⟩ | ⟨_,c',gg,z⟩
    ·rcases a5 with q | q <;> (rw [k] at q;cases q)
    ·have:=bF y c ec
     rw [this] at gg
     cases gg
     obtain ⟨o,ho,hd⟩:=z
     exact ⟨c,vw y c yx ec,o,b5 _ _ ho,hd⟩
  case fC=>
   rcases lk y c e with ⟨rfl,rfl⟩ | ⟨_,e⟩
   ·exact I3.au.fresh (fP _)
   ·exact I3.fR y c (bF y c e)
  ·rcases lk y c e with ⟨rfl,rfl⟩ | ⟨_,e⟩
   ·exact ⟨none,B6⟩
   ·obtain ⟨v,o,ho,hd⟩:=I3.cell y c (bF y c e)
    exact ⟨v,o,b5 _ _ ho,hd⟩
  ·exact I3.au.fresh (aI _)
  ·show (none::ρ σ).length=N.length
   rw [cx]
   exact B.len σ I.len
 have fin:∀{σ':St} {H':Hp} {s':Shared},Inv (X.cQ N scope cl x s3 (upd H2 D (.lst [])) fp) [] σ' H' s'→Q (.ref D) H'→compPost (model X.prog X.w) X.A X.xe none (EP X pins σ Q) (.ref D) s3.heap.objs.size (.ok .next) s':=fun{σ' H' s'} J q=>by
  obtain ⟨m,hn,_⟩:=J.loc
  refine ⟨m,hn,fun h' cH=>⟨.ref D,H',?_,rfl,q⟩⟩
  have old:∀b o,s3.heap.get? b=some o→b≠s3.heap.objs.size:=below
  have u1:Un (b7 X.stack) fp (upd H2 D (.lst [])) H' s3.heap h':=by
   refine ⟨fun b o e n hb hx=>?_,fun b o e n hb hx=>?_,J.base.free,fun b o e hx=>?_,J.base.d3,J.base.dS,J.base.d5⟩
   ·exact (cH.2 b (old b o e)).trans (J.base.keep b o e n hb hx)
   ·obtain ⟨sl,z⟩:=J.base.slot b o e n hb hx
    exact ⟨sl,(cH.2 b (old b o e)).trans z⟩
   ·obtain ⟨o',z⟩:=J.base.there b o e hx
    exact ⟨o',(cH.2 b (old b o e)).trans z⟩
  have jY:bT X.prog X.w H' h':=fun b u e=>by
   refine (J.au b u e).gB (fun c v hc z=>(cH.2 c fun y=>?_).trans z) (fun _ z=>z) fun _ _ z=>z
   have fr:=J.free
   have y':c=s3.heap.objs.size:=y
   rcases hc with hc | hc
   ·rw [←hc,y'] at e
    exact absurd (fr.symm.trans e) (by simp)
   ·rw [y'] at hc
    exact absurd (fr.symm.trans hc) (by simp)
  refine I3.iJ (s':={s' with heap:=h'}) (ch:=fp) (J.os) u1 jY J.bare fun b hb=>?_
  obtain ⟨g0,g1,g2,g3,g4,g5⟩:=f2 b hb
  exact ⟨g3,g1,g4,g5⟩
 have dr:∀{H':Hp},(∀b∈fp,H' b=none)→∀b∈fp,jh (X.cQ N scope cl x s3 (upd H2 D (.lst [])) fp) [] H' b:=fun hn b hb=>by
  refine ⟨hn b hb,?_,?_,.inl hb,fun y c e z=>?sc,fun p hp=>nomatch hp⟩
  case sc=>
   rcases lk y c e with ⟨rfl,rfl⟩ | ⟨_,e⟩
   ·rw [←z] at hb
    exact absurd (vx _ hb) (mV.mpr (fP _))
   ·exact (f2 b hb).2.2.2.2.1 y c (bF y c e) z
  ·obtain ⟨o,e,_⟩:=dP b hb
   exact below b o (cL b o e)
  ·exact dF.jK b hb
 have loop:∀tk:Nat,codeAny (model X.prog X.w) X.A (.compLoop (.ListComp elt [⟨.Name x px,iter,ifs,0⟩] scope pos) 0 (.ref it) (.ref D) (compEnvC scope ((x,s3.heap.objs.size+1)::cl) s3.heap.objs.size X.env))
   (compPost (model X.prog X.w) X.A X.xe none (EP X pins σ Q) (.ref D) s3.heap.objs.size) {s3 with heap:=h₁,toks:=tk}:=fun tk=>by
  refine xc (fun n s'=>∃i ys o H',Inv (X.cQ N scope cl x s3 (upd H2 D (.lst [])) fp) [] (o::ρ σ) H' s'∧tn i s'.heap∧(∀b∈fp,H' b=none)∧W i n ys H') ?_ m0
   ⟨0,[],none,_,IB tk,T.keep _ _ _ dM fun b hb o e=>b5 _ _ (cL _ _ e),fun b hb=>by rw [aH (jW b hb)];exact (f2 b hb).1,w0⟩
  rintro n s4 ⟨i,ys,o,H4,I4,gh,gi,w4⟩
  obtain ⟨vg,jZ⟩:=turn i n ys H4 w4
  rcases jZ with ⟨stop,qn⟩ | ⟨go,step⟩
  ·refine a_ (T.done (X.cQ N scope cl x s3 (upd H2 D (.lst [])) fp) rfl rfl rfl hc i [] s4 _ H4 (fun _ _=>False) I4 (dr gi) gh stop) (fun r s5 ⟨hr,I5⟩=>?_) fun _ _ z=>z.elim
   subst hr
   exact fin I5 qn
  ·refine a_ (T.item (X.cQ N scope cl x s3 (upd H2 D (.lst [])) fp) rfl rfl rfl hc i [] s4 _ H4 (fun _ _=>False) I4 (dr gi) gh go) (fun r s5 ⟨u,hr,h5⟩=>?_) fun _ _ z=>z.elim
   subst hr
   have z:letOwnedTupleGo (.Name x px) (.ref it) u=pure ():=rfl
   rw [z] at h5
   show wpAny _ _ ((pure ():Sem Unit) >>= fun _=>assign (.Name x px) (compEnvC scope ((x,s3.heap.objs.size+1)::cl) s3.heap.objs.size X.env) u) _ _ s5
   refine bG (a_ h5 (fun _ s5 ⟨y,H5,I5,r5,y5,du,iL⟩=>?_) fun _ _ z=>z.elim)
   have iM:=I5.pinned (dr iL) (T.obj _ _ du)
   have pg:PG (X.cQ N scope cl x s3 (upd H2 D (.lst [])) fp) (.Name x px) (aS 0):=e7 (i:=0) B.nd B.n0 (.inr B.Hj) (.inl (by show (x == x)=true;simp))
   have again:∀{σ7:St} {H7:Hp} {s7:Shared},Inv (X.cQ N scope cl x s3 (upd H2 D (.lst [])) fp) ([]++gD fp s5.heap) σ7 H7 s7→Inv (X.cQ N scope cl x s3 (upd H2 D (.lst [])) fp) [] σ7 H7 s7∧tn (i+1) s7.heap∧∀b∈fp,H7 b=none:=fun{σ7 H7 s7} I7=>by
    refine ⟨I7.lX,T.keep _ _ _ du fun b hb o e=>(I7.pin (b,o) (cM _ (cM _ (ig hb e)))).1,fun b hb=>?_⟩
    obtain ⟨o,e,d⟩:=T.obj _ _ du b hb
    exact (I7.pin (b,o) (cM _ (cM _ (ig hb e)))).2.1
   refine a_ (pg _ s5 _ H5 y u (fun σ2 H6=>σ2=some y::ρ σ∧H6=H5) iM r5 ⟨rfl,rfl⟩) (fun _ s6 ⟨σ6,H6,I6,q6⟩=>?_) fun _ _ z=>z.elim
   obtain ⟨rfl,rfl⟩:=q6
   have j4:=step y _ y5
   have tests:∀{d8:TT},iq (X.cQ N scope cl x s3 (upd H2 D (.lst [])) fp) ifs d8→∀{R:Bool→Hp→Prop},d8 (some y::ρ σ) H6 R→wpAny (model X.prog X.w) X.A
     (forIn ifs true fun c r=>if r=true then do let ok ←isTrue c (compEnvC scope ((x,s3.heap.objs.size+1)::cl) s3.heap.objs.size X.env) (eval c (compEnvC scope ((x,s3.heap.objs.size+1)::cl) s3.heap.objs.size X.env));pure (ForInStep.yield ok) else pure (ForInStep.yield r))
     (fun ok s7=>∃H7,Inv (X.cQ N scope cl x s3 (upd H2 D (.lst [])) fp) ([]++gD fp s5.heap) (some y::ρ σ) H7 s7∧R ok H7) (fun _ _=>False) s6:=fun{d8} p {R} hR=>by
    cases p with
    | nil=>exact qU ⟨_,I6,hR⟩
    | one p=>exact qV (p _ s6 _ _ _ I6 hR)
   refine a_ (tests (ht s3 _ fp) j4) (fun ok s7 ⟨H7,I7,q7⟩=>?_) fun _ _ z=>z.elim
   cases ok with
   | false=>
    obtain ⟨m',d9,w7⟩:=q7
    obtain ⟨a1,a2,a3⟩:=again I7
    exact ⟨m',d9,i+1,ys,_,H7,a1,a2,a3,w7⟩
   | true=>
    refine a_ (he s3 _ fp _ s7 _ H7 _ I7 q7) (fun ev s8 ⟨z,H8,I8,r8,j6,hz,m',d9,w8⟩=>?_) fun _ _ z=>z.elim
    refine a_ (l8 (X:=X.cQ N scope cl x s3 (upd H2 D (.lst [])) fp) _ s8 _ H8 (.ref D) [z] (.ref D) [ev] (fun _ H9=>H9=upd H8 D (.lst (ys++[z]))) I8 rfl (.cons r8 .nil) ⟨D,ys,z,rfl,rfl,j6,hz,rfl⟩) (fun _ s9 ⟨_,H9,I9,_,q9⟩=>?_) fun _ _ z=>z.elim
    subst q9
    obtain ⟨a1,a2,a3⟩:=again I9
    exact ⟨m',d9,i+1,ys++[z],_,_,a1,a2,a3,w8⟩
 have start:=loop s3.toks
 have es:({s3 with heap:=h₁,toks:=s3.toks}:Shared)={s2 with heap:=h₁}:=by rw [←dy]
 rw [es] at start
 exact qW start (T.self _ 0 _ _ _ (T.keep _ _ _ dM fun b hb o e=>b5 _ _ (cL _ _ e)) start)
end
def vz(K:aA)(H:Hp):Nat→V→V→Prop
 | 0,v,u=>v=u∧gf v=true
 | n+1,v,u=>(v=u∧gf v=true)∨∃a b xs ys,v=.ref a∧u=.ref b∧((bh K H a xs∧bh K H b ys)∨(fG K H a xs∧fG K H b ys))∧xs.length=ys.length∧∀(j:Nat) (x y:V),xs[j]?=some x→ys[j]?=some y→vz K H n x y
theorem yq{v:V}(h:gf v=true):fI v v=true:=by
 cases v with
 | aO=>rfl
 | bl b=>show (b == b)=true;simp
 | int i=>show (i == i)=true;simp
 | str x=>show (x == x)=true;simp
 | _=>cases h
theorem all_range(n:Nat):(List.range n).all (fun _=>true)=true:=by simp
section
variable {X:Cx} {pins:aM} {σ:St} {H:Hp} {s:Shared}
theorem yr(I:Inv X pins σ H s):∀(n:Nat) (A:Around) (v u:V) (a b:Value),vz X.K H n v u→RelV v a→RelV u b→A.units+n<cLine→SeqAt.EqAt A s a b true
 | 0,A,v,u,a,b,h,ra,rb,hu=>by obtain ⟨rfl,hf⟩:=h;have z:=rJ (A:=A) (s:=s) ra rb hf hf;rw [yq hf] at z;exact z
 | n+1,A,v,u,a,b,h,ra,rb,hu=>by
  rcases h with ⟨rfl,hf⟩ | ⟨p,q,xs,ys,rfl,rfl,hs,hl,hi⟩
  ·have z:=rJ (A:=A) (s:=s) ra rb hf hf
   rw [yq hf] at z;exact z
  ·cases ra
   cases rb;by_cases pq:p=q
   ·subst pq
    exact SeqAt.EqAt.same _
   rcases hs with ⟨h1,h2⟩ | ⟨h1,h2⟩
   ·obtain ⟨us,r1,t1,_⟩:=I.list h1
    obtain ⟨vs,r2,t2,_⟩:=I.list h2;have l1:=r1.length;have l2:=r2.length;have z:=xk (A:=A) (e:=fun _=>true) t1.isList t2.isList (by simp;lia) (by lia) (fun j z1 z2=>by
     have vA:j<us.length:=by simpa using z1
     have vB:j<vs.length:=by simpa using z2
     obtain ⟨x,ex⟩:∃x,xs[j]?=some x:=⟨xs[j],by simp [show j<xs.length by lia]⟩
     obtain ⟨y,ey⟩:∃y,ys[j]?=some y:=⟨ys[j],by simp [show j<ys.length by lia]⟩
     obtain ⟨x',iH,rx⟩:=r1.get ex;obtain ⟨y',ke,ry⟩:=r2.get ey;have e1:us.toArray[j]=x':=by simpa using (aW.mp iH).2
     have e2:vs.toArray[j]=y':=by simpa using (aW.mp ke).2
     rw [e1,e2];exact yr I n A.in1 x y x' y' (hi j x y ex ey) rx ry (by rw [uQ];lia))
    rw [all_range] at z;exact SeqAt.EqAt.of_refs pq z
   ·obtain ⟨us,r1,t1,_⟩:=I.tuple h1
    obtain ⟨vs,r2,t2,_⟩:=I.tuple h2;have l1:=r1.length;have l2:=r2.length;have z:=SeqAt.RcAt.tuples (A:=A) (e:=fun _=>true) t1 t2 (by lia) (fun j z1 z2=>by
     have vA:j<us.length:=by simpa using z1
     have vB:j<vs.length:=by simpa using z2
     obtain ⟨x,ex⟩:∃x,xs[j]?=some x:=⟨xs[j],by simp [show j<xs.length by lia]⟩
     obtain ⟨y,ey⟩:∃y,ys[j]?=some y:=⟨ys[j],by simp [show j<ys.length by lia]⟩
     obtain ⟨x',iH,rx⟩:=r1.get ex;obtain ⟨y',ke,ry⟩:=r2.get ey;have e1:us.toArray[j]=x':=by simpa using (aW.mp iH).2
     have e2:vs.toArray[j]=y':=by simpa using (aW.mp ke).2
     rw [e1,e2];exact yr I n A.in1 x y x' y' (hi j x y ex ey) rx ry (by rw [uQ];lia))
    have e3:(us.toArray.size == vs.toArray.size)=true:=by simp;lia
    rw [all_range,e3] at z;exact SeqAt.EqAt.of_refs pq z
end
section
variable {X:Cx}
def Hk(K:aA)(n:Nat)(r:Bool):R2:=fun x y H Q=>∃a b xs ys,x=.ref a∧y=.ref b∧bh K H a xs∧bh K H b ys∧xs.length=ys.length∧(∀(j:Nat) (x y:V),xs[j]?=some x→ys[j]?=some y→vz K H n x y)∧Q (.bl r) H
variable {n:Nat}
theorem ZP(hu:X.A.units+64<cLine)(hn:n<60:=by decide):b8 X (compareOp .Eq) (Hk X.K n true):=by
 intro pins s σ H x y v u Q I rx ry h;obtain ⟨a,b,xs,ys,rfl,rfl,h1,h2,hl,hi,q⟩:=h;cases rx;cases ry;obtain ⟨us,r1,t1,_⟩:=I.list h1;obtain ⟨vs,r2,t2,_⟩:=I.list h2;have l1:=r1.length;have l2:=r2.length;refine SeqAt.eq_listAt (e:=fun _=>true) t1.isList t2.isList (by simp;lia) (by lia) (fun j z1 z2=>?_) ?_
 ·have vA:j<us.length:=by simpa using z1
  have vB:j<vs.length:=by simpa using z2
  obtain ⟨x,ex⟩:∃x,xs[j]?=some x:=⟨xs[j],by simp [show j<xs.length by lia]⟩
  obtain ⟨y,ey⟩:∃y,ys[j]?=some y:=⟨ys[j],by simp [show j<ys.length by lia]⟩
  obtain ⟨x',iH,rx⟩:=r1.get ex;obtain ⟨y',ke,ry⟩:=r2.get ey;have e1:us.toArray[j]=x':=by simpa using (aW.mp iH).2
  have e2:vs.toArray[j]=y':=by simpa using (aW.mp ke).2
  rw [e1,e2];exact yr I n X.A.in1 x y x' y' (hi j x y ex ey) rx ry (by rw [uQ];lia)
 ·rw [all_range]
  exact ⟨.bl true,H,I,rfl,q⟩
theorem Qo(hu:X.A.units+64<cLine)(hn:n<60:=by decide):b8 X (compareOp .NotEq) (Hk X.K n false):=by
 intro pins s σ H x y v u Q I rx ry h;obtain ⟨a,b,xs,ys,rfl,rfl,h1,h2,hl,hi,q⟩:=h;cases rx;cases ry;obtain ⟨us,r1,t1,_⟩:=I.list h1;obtain ⟨vs,r2,t2,_⟩:=I.list h2;have l1:=r1.length;have l2:=r2.length;refine SeqAt.RcNeAt.lists (e:=fun _=>true) t1.isList t2.isList (by simp;lia) (by lia) (fun j z1 z2=>?_) _ _ _ _ ?_
 ·have vA:j<us.length:=by simpa using z1
  have vB:j<vs.length:=by simpa using z2
  obtain ⟨x,ex⟩:∃x,xs[j]?=some x:=⟨xs[j],by simp [show j<xs.length by lia]⟩
  obtain ⟨y,ey⟩:∃y,ys[j]?=some y:=⟨ys[j],by simp [show j<ys.length by lia]⟩
  obtain ⟨x',iH,rx⟩:=r1.get ex;obtain ⟨y',ke,ry⟩:=r2.get ey;have e1:us.toArray[j]=x':=by simpa using (aW.mp iH).2
  have e2:vs.toArray[j]=y':=by simpa using (aW.mp ke).2
  rw [e1,e2];exact yr I n X.A.in1 x y x' y' (hi j x y ex ey) rx ry (by rw [uQ];lia)
 ·rw [all_range]
  exact ⟨.bl false,H,I,rfl,q⟩
end
section
variable {X:Cx} {N:List Str} {scope:Scope} {cl:List (Str×Addr)} {x:Str} {px pos:Pos} {iter elt:Expr} {ifs:List Expr} {wi:TI} {ρ:St→St} {tt:TT} {te:TE}
theorem Hl{y:Str}{py nS:Pos}{i0:Nat}(B:Hg X N scope cl x ρ)(hc:X.calm=true)(hN:X.N.Nodup)(vm:X.N[i0]?=some y)(hy:Loc X.env.scope y)(hi:PI X (.Name x px) iter wi)(ht:∀s₃ H₃ fp,iq (X.cQ N scope cl x s₃ H₃ fp) ifs tt)(he:∀s₃ H₃ fp,PE (X.cQ N scope cl x s₃ H₃ fp) elt te)
  (vo:swapsWith (.ListComp elt [⟨.Name x px,iter,ifs,0⟩] scope pos) (some (.Name y py)) nS.line X.env=pure true:=by rfl) (hf:X.fn y=true∨X.env.scope.names.lookup y=some .local:=by first | exact .inl rfl | exact .inr rfl | assumption)
  (hs:∀x,foldedSetIterable iter X.env x=pure x:=by intro _;rfl):PS X (.Assign [.Name y py] (.ListComp elt [⟨.Name x px,iter,ifs,0⟩] scope pos) nS) (lV (iu wi ρ tt te) (aS i0)):=by
 intro pins s σ H D0 I h
 have h:iu wi ρ tt te σ H (fun v H1=>D0.nx (σ.set i0 (some v)) H1):=h
 rw [AO _ _ _ _ vo]
 refine bG (qO (bG ?_))
 show wpAny _ X.A (do let _ ←comprehension (.ListComp elt [⟨.Name x px,iter,ifs,0⟩] scope pos) scope X.env _ (newList []) false (eval iter X.env) (some (assign (.Name y py) X.env))) _ _ s
 refine bG (a_ (Q:=fun _ s'=>SP X pins D0 .next s') ?_ (fun _ s' hq=>dC (dC hq)) fun _ _ e=>e)
 refine qT (use:=some (assign (.Name y py) X.env)) rfl hs B.nI B.kind B.names (aF (hi pins s σ H _ I h) fun v s1 h1=>aF h1 fun nB s2 h2=>?_)
 obtain ⟨it,fp,tn,J,H2,rfl,I2,T,dM,f2,q2⟩:=h2
 have nD:H2 s2.heap.objs.size=none:=I2.au.fresh (aI _)
 obtain ⟨W,⟨m0,w0⟩,turn⟩:=q2 _ nD
 refine oB (Hf B.Hh B.Hi ?_)
 dsimp only
 generalize hD:s2.heap.objs.size=D at nD w0 turn ⊢
 generalize dy:({s2 with heap:=s2.heap.push {cls:=.type "list",dict:=none,data:=.seq ([]:List Value).toArray}}:Shared)=s3
 have I3:Inv X pins σ (upd H2 D (.lst [])) s3:=by
  subst hD dy
  exact I2.laid (t':=s2.toks) (fun b u e=>b9 _ e) (aI _) ⟨cT _,[],_,.nil,fc _ rfl⟩
 have e3:s3.heap=s2.heap.push {cls:=.type "list",dict:=none,data:=.seq ([]:List Value).toArray}:=by rw [←dy]
 have cL:∀b o,s2.heap.get? b=some o→s3.heap.get? b=some o:=fun b o e=>by rw [e3];exact b9 _ e
 rw [←e3]
 obtain ⟨h₁,eh⟩:∃h₁,h₁=(s3.heap.push {cls:=.type "dict",data:=.dict #[]}).push {cls:=.type "cell",data:=.cell none}:=⟨_,rfl⟩
 rw [←eh]
 have d7:h₁.Ns s3.heap.objs.size (fun _=>none):=by
  rw [eh]
  exact (Heap.Ns.new s3.heap (.type "dict")).keeps fun b o e=>b9 _ e
 have B5:(s3.heap.push {cls:=.type "dict",data:=.dict #[]}).objs.size=s3.heap.objs.size+1:=qP ..
 have B6:h₁.IsCell (s3.heap.objs.size+1) none:=by
  rw [eh,←B5]
  exact ⟨_,fc _ rfl,rfl⟩
 have below:∀b o,s3.heap.get? b=some o→b≠s3.heap.objs.size:=fun b o e=>dB (aZ e)
 have b5:∀b o,s3.heap.get? b=some o→h₁.get? b=some o:=fun b o e=>by rw [eh];exact b9 _ (b9 _ e)
 have dP:∀b∈fp,∃o,s2.heap.get? b=some o∧∀v,o.data≠.cell v:=T.obj _ _ dM
 have jW:∀b∈fp,b≠D:=fun b hb z=>by
  obtain ⟨o,e,_⟩:=dP b hb
  rw [z,←hD] at e
  exact absurd (aZ e) (eW _)
 have bF:∀y c,cl.lookup y=some c→X.env.cells.lookup y=some c:=fun y c e=>B.sub (y,c) (iE e)
 have vv:∀y c,cl.lookup y=some c→c<s3.heap.objs.size:=fun y c e=>by
  obtain ⟨v,o,eo,_⟩:=I3.cell y c (bF y c e)
  exact aZ eo
 have lk:∀y c,((x,s3.heap.objs.size+1)::cl).lookup y=some c→(y=x∧c=s3.heap.objs.size+1)∨(y≠x∧cl.lookup y=some c):=fun y c e=>by
  by_cases z:y=x
  ·subst z
   rw [mU,uK] at e
   exact .inl ⟨rfl,(Option.some.inj e).symm⟩
  ·rw [mU,jC.mpr z] at e
   exact .inr ⟨z,e⟩
 have vw:∀y c,y≠x→cl.lookup y=some c→((x,s3.heap.objs.size+1)::cl).lookup y=some c:=fun y c z e=>by
  rw [mU,jC.mpr z]
  exact e
 have vx:∀b∈fp,b<s3.heap.objs.size:=fun b hb=>by
  obtain ⟨o,e,_⟩:=dP b hb
  exact aZ (cL b o e)
 have jX:=I3.m9
 have dF:(X.cQ N scope cl x s3 (upd H2 D (.lst [])) fp).Ok:=by
  refine ⟨I.ok.mod,B.kind,I.ok.glob,I.ok.blt,aI _,fun a b c e1 e2=>?inj,fun y hy=>?has,(fun y c z e=>?kI),(fun _=>I.ok.hd hc),I.ok.frames,.inl rfl,fun b hb=>⟨?_,fun y c e z=>?_⟩,fun b o e=>?_,aN I.ok.fj I3.sz,fun b o e hb=>?_,fun b hb z=>?_,I3.stack,jX⟩
  case inj=>
   rcases lk a c e1 with ⟨z1,B7⟩ | ⟨_,f1⟩ <;> rcases lk b _ e2 with ⟨z2,ec⟩ | ⟨_,vy⟩
   ·rw [z1,z2]
   ·have:=vv _ _ vy
    rw [B7] at this
    exact absurd this (mV.mpr (fP _))
   ·have:=vv _ _ f1
    rw [ec] at this
    exact absurd this (mV.mpr (fP _))
   ·exact I.ok.inj a b c (bF a c f1) (bF b c vy)
  case has=>
   by_cases z:y=x
   ·subst z
    exact ⟨_,by rw [show (compEnvC scope ((y,s3.heap.objs.size+1)::cl) s3.heap.objs.size X.env).cells=(y,s3.heap.objs.size+1)::cl from rfl,mU,uK]⟩
   ·obtain ⟨c,ec⟩:=B.has y z hy
    exact ⟨c,vw y c z ec⟩
  case kI=>
   have z:y=x:=by simpa using z
   rcases lk y c e with ⟨_,rfl⟩ | ⟨z',_⟩
   ·exact fP _
   ·exact absurd z z'
  ·obtain ⟨o,e,_⟩:=dP b hb
   exact below b o (cL b o e)
  ·rcases lk y c e with ⟨rfl,rfl⟩ | ⟨_,e⟩
   ·rw [←z] at hb
    exact absurd (vx _ hb) (mV.mpr (fP _))
   ·exact (f2 b hb).2.2.2.2.1 y c (bF y c e) z
  ·exact I3.bs b o e
  ·rcases (f2 b hb).2.2.2.1 with z | z
   ·exact I.ok.jJ b o e z
   ·exact absurd (cw (aZ e) (aN I.ok.fj z)) (eW _)
  ·rcases dq.mp (I3.m7 b z) with z | z
   ·exact (f2 b hb).2.1 z
   ·exact (f2 b hb).2.2.1 z
 have IB:∀tk:Nat,Inv (X.cQ N scope cl x s3 (upd H2 D (.lst [])) fp) [] (none::ρ σ) (upd H2 D (.lst [])) {s3 with heap:=h₁,toks:=tk}:=fun tk=>by
  refine ⟨dF,rfl,I3.bare,Un.kept b5,⟨_,d7,fun j y v e1 e2 e3=>?_⟩,fun y c e=>?_,?_,fun y c e=>?fC,(fun p hp=>nomatch hp),I3.au.kept b5,?_⟩
  ·cases j with
   | zero=>cases e2
   | succ j=>
    obtain ⟨i,y',a1,a2,a3,a4,a5,a6⟩:=B.nJ σ j v e2
    have iU:N[j+1]?=some y:=e1
    rw [iU] at a1
    cases a1
    obtain ⟨m,hn,hl⟩:=I3.loc
    obtain ⟨u,r,l⟩:=hl i y v a2 a3 a4
    refine ⟨u,r,.inr ⟨a6,?_⟩⟩
    have yx:y≠x:=fun z=>by
     have n0:=B.n0
     rw [←z] at n0
     have:=(List.getElem?_inj (aW.mp n0).1 B.nd).mp (n0.trans iU.symm)
     lia
    obtain ⟨c,ec⟩:=B.has y yx a6
    rcases l with ⟨k,_⟩ | ⟨_,c',gg,z⟩
    ·rcases a5 with q | q <;> (rw [k] at q;cases q)
    ·have:=bF y c ec
     rw [this] at gg
     cases gg
     obtain ⟨o,ho,hd⟩:=z
     exact ⟨c,vw y c yx ec,o,b5 _ _ ho,hd⟩
  case fC=>
   rcases lk y c e with ⟨rfl,rfl⟩ | ⟨_,e⟩
   ·exact I3.au.fresh (fP _)
   ·exact I3.fR y c (bF y c e)
  ·rcases lk y c e with ⟨rfl,rfl⟩ | ⟨_,e⟩
   ·exact ⟨none,B6⟩
   ·obtain ⟨v,o,ho,hd⟩:=I3.cell y c (bF y c e)
    exact ⟨v,o,b5 _ _ ho,hd⟩
  ·exact I3.au.fresh (aI _)
  ·show (none::ρ σ).length=N.length
   rw [cx]
   exact B.len σ I.len
 have j7:∀b o,s3.heap.get? b=some o→b≠s3.heap.objs.size:=below
 have fin:∀{σ':St} {H':Hp} {s':Shared},Inv (X.cQ N scope cl x s3 (upd H2 D (.lst [])) fp) [] σ' H' s'→D0.nx (σ.set i0 (some (.ref D))) H'→compPost (model X.prog X.w) X.A X.xe (some (assign (.Name y py) X.env)) (fun _ s'=>SP X pins D0 .next s') (.ref D) s3.heap.objs.size (.ok .next) s':=fun{σ' H' s'} J q=>by
  obtain ⟨m,hn,_⟩:=J.loc
  have hn:s'.heap.Ns s3.heap.objs.size m:=hn
  have JC:H' s3.heap.objs.size=none:=J.free
  have u1:Un (b7 X.stack) fp (upd H2 D (.lst [])) H' s3.heap s'.heap:=by
   refine ⟨fun b o e n hb hx=>J.base.keep b o e n hb hx,fun b o e n hb hx=>J.base.slot b o e n hb hx,J.base.free,fun b o e hx=>J.base.there b o e hx,J.base.d3,J.base.dS,J.base.d5⟩
  have IX:Inv X pins σ H' s':=I3.iJ (ch:=fp) (J.os) u1 J.au J.bare fun b hb=>by
   obtain ⟨g0,g1,g2,g3,g4,g5⟩:=f2 b hb
   exact ⟨g3,g1,g4,g5⟩
  have nl:X.env.locals≠s3.heap.objs.size:=by
   obtain ⟨m3,⟨o3,_,_,e3,_⟩,_⟩:=I3.loc
   exact j7 _ _ e3
  have nc:∀z c,X.env.cells.lookup z=some c→c≠s3.heap.objs.size:=fun z c e=>by
   obtain ⟨v3,o3,e3,_⟩:=I3.cell z c e
   exact j7 _ _ e3
  refine wU (xy (v:=.ref D) IX hN vm hy rfl (fun gG j8 j9=>?_) hf)
  obtain ⟨a,j9,ha⟩:=j9
  have na:s3.heap.objs.size≠a:=by
   rcases ha with rfl | e
   ·exact fun z=>nl z.symm
   ·exact fun z=>nc _ _ e z.symm
  refine ⟨m,hn.sameBut j9 na,fun h' cH=>⟨σ.set i0 (some (.ref D)),H',?_,q⟩⟩
  have u2:Un (b7 X.stack) [s3.heap.objs.size] H' H' gG.heap h':=by
   refine ⟨fun b o e n hb hx=>(cH.2 b (by simpa using hx)).trans e,fun b o e n hb hx=>⟨o.slots,(cH.2 b (by simpa using hx)).trans e⟩,fun b o e n hx=>n,fun b o e hx=>⟨o,(cH.2 b (by simpa using hx)).trans e⟩,fun b xs z=>z,fun b o u z=>z,fun b ps z=>⟨#[],by simpa using z⟩⟩
  have jY:bT X.prog X.w H' h':=fun b u e=>by
   refine (j8.au b u e).gB (fun c v hc z=>(cH.2 c fun y=>?_).trans z) (fun _ z=>z) fun _ _ z=>z
   have y':c=s3.heap.objs.size:=y
   rcases hc with hc | hc
   ·rw [←hc,y',JC] at e
    cases e
   ·rw [y',JC] at hc
    cases hc
  refine j8.iJ (s':={gG with heap:=h'}) (ch:=[s3.heap.objs.size]) rfl u2 jY j8.bare fun b hb=>?_
  have eb:b=s3.heap.objs.size:=by simpa using hb
  subst eb
  refine ⟨.inr I3.sz,fun z=>nl z.symm,fun z c e=>nc z c e,fun p hp=>?_⟩
  exact j7 _ _ (I3.pin p hp).1
 have dr:∀{H':Hp},(∀b∈fp,H' b=none)→∀b∈fp,jh (X.cQ N scope cl x s3 (upd H2 D (.lst [])) fp) [] H' b:=fun hn b hb=>by
  refine ⟨hn b hb,?_,?_,.inl hb,fun y c e z=>?sc,fun p hp=>nomatch hp⟩
  case sc=>
   rcases lk y c e with ⟨rfl,rfl⟩ | ⟨_,e⟩
   ·rw [←z] at hb
    exact absurd (vx _ hb) (mV.mpr (fP _))
   ·exact (f2 b hb).2.2.2.2.1 y c (bF y c e) z
  ·obtain ⟨o,e,_⟩:=dP b hb
   exact below b o (cL b o e)
  ·exact dF.jK b hb
 have loop:∀tk:Nat,codeAny (model X.prog X.w) X.A (.compLoop (.ListComp elt [⟨.Name x px,iter,ifs,0⟩] scope pos) 0 (.ref it) (.ref D) (compEnvC scope ((x,s3.heap.objs.size+1)::cl) s3.heap.objs.size X.env))
   (compPost (model X.prog X.w) X.A X.xe (some (assign (.Name y py) X.env)) (fun _ s'=>SP X pins D0 .next s') (.ref D) s3.heap.objs.size) {s3 with heap:=h₁,toks:=tk}:=fun tk=>by
  refine xc (fun n s'=>∃i ys o H',Inv (X.cQ N scope cl x s3 (upd H2 D (.lst [])) fp) [] (o::ρ σ) H' s'∧tn i s'.heap∧(∀b∈fp,H' b=none)∧W i n ys H') ?_ m0
   ⟨0,[],none,_,IB tk,T.keep _ _ _ dM fun b hb o e=>b5 _ _ (cL _ _ e),fun b hb=>by rw [aH (jW b hb)];exact (f2 b hb).1,w0⟩
  rintro n s4 ⟨i,ys,o,H4,I4,gh,gi,w4⟩
  obtain ⟨vg,jZ⟩:=turn i n ys H4 w4
  rcases jZ with ⟨stop,qn⟩ | ⟨go,step⟩
  ·refine a_ (T.done (X.cQ N scope cl x s3 (upd H2 D (.lst [])) fp) rfl rfl rfl hc i [] s4 _ H4 (fun _ _=>False) I4 (dr gi) gh stop) (fun r s5 ⟨hr,I5⟩=>?_) fun _ _ z=>z.elim
   subst hr
   exact fin I5 qn
  ·refine a_ (T.item (X.cQ N scope cl x s3 (upd H2 D (.lst [])) fp) rfl rfl rfl hc i [] s4 _ H4 (fun _ _=>False) I4 (dr gi) gh go) (fun r s5 ⟨u,hr,h5⟩=>?_) fun _ _ z=>z.elim
   subst hr
   have z:letOwnedTupleGo (.Name x px) (.ref it) u=pure ():=rfl
   rw [z] at h5
   show wpAny _ _ ((pure ():Sem Unit) >>= fun _=>assign (.Name x px) (compEnvC scope ((x,s3.heap.objs.size+1)::cl) s3.heap.objs.size X.env) u) _ _ s5
   refine bG (a_ h5 (fun _ s5 ⟨y,H5,I5,r5,y5,du,iL⟩=>?_) fun _ _ z=>z.elim)
   have iM:=I5.pinned (dr iL) (T.obj _ _ du)
   have pg:PG (X.cQ N scope cl x s3 (upd H2 D (.lst [])) fp) (.Name x px) (aS 0):=e7 (i:=0) B.nd B.n0 (.inr B.Hj) (.inl (by show (x == x)=true;simp))
   have again:∀{σ7:St} {H7:Hp} {s7:Shared},Inv (X.cQ N scope cl x s3 (upd H2 D (.lst [])) fp) ([]++gD fp s5.heap) σ7 H7 s7→Inv (X.cQ N scope cl x s3 (upd H2 D (.lst [])) fp) [] σ7 H7 s7∧tn (i+1) s7.heap∧∀b∈fp,H7 b=none:=fun{σ7 H7 s7} I7=>by
    refine ⟨I7.lX,T.keep _ _ _ du fun b hb o e=>(I7.pin (b,o) (cM _ (cM _ (ig hb e)))).1,fun b hb=>?_⟩
    obtain ⟨o,e,d⟩:=T.obj _ _ du b hb
    exact (I7.pin (b,o) (cM _ (cM _ (ig hb e)))).2.1
   refine a_ (pg _ s5 _ H5 y u (fun σ2 H6=>σ2=some y::ρ σ∧H6=H5) iM r5 ⟨rfl,rfl⟩) (fun _ s6 ⟨σ6,H6,I6,q6⟩=>?_) fun _ _ z=>z.elim
   obtain ⟨rfl,rfl⟩:=q6
   have j4:=step y _ y5
   have tests:∀{d8:TT},iq (X.cQ N scope cl x s3 (upd H2 D (.lst [])) fp) ifs d8→∀{R:Bool→Hp→Prop},d8 (some y::ρ σ) H6 R→wpAny (model X.prog X.w) X.A
     (forIn ifs true fun c r=>if r=true then do let ok ←isTrue c (compEnvC scope ((x,s3.heap.objs.size+1)::cl) s3.heap.objs.size X.env) (eval c (compEnvC scope ((x,s3.heap.objs.size+1)::cl) s3.heap.objs.size X.env));pure (ForInStep.yield ok) else pure (ForInStep.yield r))
     (fun ok s7=>∃H7,Inv (X.cQ N scope cl x s3 (upd H2 D (.lst [])) fp) ([]++gD fp s5.heap) (some y::ρ σ) H7 s7∧R ok H7) (fun _ _=>False) s6:=fun{d8} p {R} hR=>by
    cases p with
    | nil=>exact qU ⟨_,I6,hR⟩
    | one p=>exact qV (p _ s6 _ _ _ I6 hR)
   refine a_ (tests (ht s3 _ fp) j4) (fun ok s7 ⟨H7,I7,q7⟩=>?_) fun _ _ z=>z.elim
   cases ok with
   | false=>
    obtain ⟨m',d9,w7⟩:=q7
    obtain ⟨a1,a2,a3⟩:=again I7
    exact ⟨m',d9,i+1,ys,_,H7,a1,a2,a3,w7⟩
   | true=>
    refine a_ (he s3 _ fp _ s7 _ H7 _ I7 q7) (fun ev s8 ⟨z,H8,I8,r8,j6,hz,m',d9,w8⟩=>?_) fun _ _ z=>z.elim
    refine a_ (l8 (X:=X.cQ N scope cl x s3 (upd H2 D (.lst [])) fp) _ s8 _ H8 (.ref D) [z] (.ref D) [ev] (fun _ H9=>H9=upd H8 D (.lst (ys++[z]))) I8 rfl (.cons r8 .nil) ⟨D,ys,z,rfl,rfl,j6,hz,rfl⟩) (fun _ s9 ⟨_,H9,I9,_,q9⟩=>?_) fun _ _ z=>z.elim
    subst q9
    obtain ⟨a1,a2,a3⟩:=again I9
    exact ⟨m',d9,i+1,ys++[z],_,_,a1,a2,a3,w8⟩
 have start:=loop s3.toks
 have es:({s3 with heap:=h₁,toks:=s3.toks}:Shared)={s2 with heap:=h₁}:=by rw [←dy]
 rw [es] at start
 exact qW start (T.self _ 0 _ _ _ (T.keep _ _ _ dM fun b hb o e=>b5 _ _ (cL _ _ e)) start)
end
structure yt (J:It) (zs:List (V×V)) (H1:Hp):Prop where
 go:∀i Hc,af H1 Hc→i<zs.length→J.go i Hc
 d6:∀i Hc v H',af H1 Hc→J.d6 i Hc v H'→∃T x y,v=.ref T∧Hc T=none∧H'=upd Hc T (.tup [x,y])∧(i<zs.length→zs[i]?=some (x,y))
 stop:∀i Hc,af H1 Hc→zs.length≤i→J.stop i Hc
variable {ys:List V}
theorem pD{b:Addr}(h1:bh K H1 a xs)(h2:bh K H1 b ys):yt (rS K a b) (xs.zip ys) H1 where
 go:=fun i Hc s hi=>by
  have hi:i<min xs.length ys.length:=by simpa using hi
  exact ⟨xs,ys,xs[i],ys[i],s.seq h1,s.seq h2,by simp [show i<xs.length by lia],by simp [show i<ys.length by lia]⟩
 d6:=fun i Hc v H' s y=>by obtain ⟨T,x,y,nT,ev,eH,hx⟩:=y;obtain ⟨e1,e2⟩:=hx xs ys (s.seq h1) (s.seq h2);exact ⟨T,x,y,ev,nT,eH,fun _=>by rw [mX];exact ⟨e1,e2⟩⟩
 stop:=fun i Hc s hi=>by
  have hi:min xs.length ys.length≤i:=by simpa using hi
  exact ⟨xs,ys,s.seq h1,s.seq h2,by lia⟩
theorem Qp{zs:List (V×V)}(gk:∀R:It→Hp→Prop,(∀J H1,af H H1→yt J zs H1→R J H1)→wi σ H R)(hn:zs.length<sizeLine)
  (P:Nat→V→Prop)
  (step:∀i x y,zs[i]?=some (x,y)→∀(Hc:Hp) (R:VK),af H Hc→(∀v H3,af Hc H3→P i v→R v H3)→te (some x::some y::ρ σ) Hc R)
  (fin:∀D vs Hc,af H Hc→vs.length=zs.length→(∀(i:Nat) (v:V),vs[i]?=some v→P i v)→Hc D=some (.lst vs)→Q (.ref D) Hc):pC K wi ρ (fun _ H Q=>Q true H) te σ H Q:=by
 refine gk _ fun J H1 s1 js=>?_;intro D nD;refine ⟨fun i m vs Hc=>m=zs.length-i∧i≤zs.length∧Hc D=some (.lst vs)∧af H1 Hc∧vs.length=i∧∀(j:Nat) (v:V),vs[j]?=some v→P j v,⟨_,rfl,cT _,aB,d_ (af.refl H1) nD,rfl,fun j y e=>by simp at e⟩,?_⟩
 rintro i m vs Hc ⟨rfl,hi,eD,sH,el,hP⟩;refine ⟨eD,?_⟩;by_cases cb:i<zs.length
 ·refine .inr ⟨js.go i Hc sH cb,fun v H' hy=>?_⟩
  obtain ⟨T,x,y,ev,nT,eH,hx⟩:=js.d6 i Hc v H' sH hy;subst ev eH;refine ⟨T,x,y,rfl,.of aB,?_⟩;dsimp only;rw [aq rfl];have sT:af Hc (upd Hc T (.tup [x,y])):=fun b o e=>by rw [aH (fi e nT)];exact e
  refine step i x y (hx cb) _ _ (s1.trans (sH.trans sT)) fun w H3 s3 hp=>?_;have e3:=s3 _ _ (sT _ _ eD);refine ⟨e3,by lia,zs.length-(i+1),by lia,rfl,cb,aB,d_ (sH.trans (sT.trans s3)) nD,by simp [el],fun j v' e=>?_⟩
  by_cases hj:j<i;·exact hP j v' (by rw [eX (by lia)] at e;exact e)
  ·have hj:j=i:=by have:=(aW.mp e).1;simp at this;lia
   subst hj;have e':v'=w:=by rw [fE (by lia),el,jG] at e;simpa using e.symm
   subst e';exact hp
 ·have e:i=zs.length:=by lia
  subst e;exact .inl ⟨js.stop _ Hc sH (aI _),fin D vs Hc (s1.trans sH) el hP eD⟩
theorem e_(gk:∀R:It→Hp→Prop,(∀J H1,af H H1→mh J xs H1→R J H1)→wi σ H R)(hn:xs.length<sizeLine)
  (P:Addr→Nat→V→Hp→Prop) (mono:∀D i y H H' ys,P D i y H→H D=some (.lst ys)→(∀b o,b≠D→H b=some o→H' b=some o)→P D i y H')
  (step:∀D i x,xs[i]?=some x→∀(Hc:Hp) (R:VK),af H Hc→(∃ys,Hc D=some (.lst ys))→(∀y H3,af Hc H3→P D i y H3→R y H3)→te (some x::ρ σ) Hc R)
  (fin:∀D ys Hc,H D=none→af H Hc→ys.length=xs.length→(∀(i:Nat) (y:V),ys[i]?=some y→P D i y Hc)→Hc D=some (.lst ys)→Q (.ref D) Hc):iu wi ρ (fun _ H Q=>Q true H) te σ H Q:=by
 refine gk _ fun J H1 s1 js=>?_;intro D nD;have hD:H D=none:=by
  cases e:H D with
  | none=>rfl
  | some o=>rw [s1 _ _ e] at nD;cases nD
 exact G7 (ρσ:=ρ σ) (te:=te) (Q:=Q) js nD hn (P D) (mono D) (fun i x hx Hc R sc=>step D i x hx Hc R (s1.trans sc)) (fun ys Hc sc=>fin D ys Hc hD (s1.trans sc))
theorem Hm{tb:TS}(Pv:Nat→St→Hp→Prop)(h0:Pv 0 σ H)(hl:∀i σ H,Pv i σ H→bh K H l1 xs∧bh K H l2 ys)
  (hs:∀(i:Nat) (x y:V) σ H T,(xs.zip ys)[i]?=some (x,y)→Pv i σ H→H T=none→g (.ref T) σ (upd H T (.tup [x,y])) fun σ2 H2=>tb {D with nx:=Pv (i+1),ct:=Pv (i+1),bk:=D.nx} σ2 H2) (hd:∀σ H,Pv (xs.zip ys).length σ H→D.nx σ H) :
  ∃W:Nat→Nat→St→Hp→Prop,(∃m,W 0 m σ H)∧∀i m σ H,W i m σ H→
   ((rS K l1 l2).stop i H∧D.nx σ H)∨((rS K l1 l2).go i H∧∃N:St→Hp→Prop,(∀σ' H',N σ' H'→∃m',m'<m∧W (i+1) m' σ' H')∧∀x H',(rS K l1 l2).d6 i H x H'→g x σ H' fun σ2 H2=>tb {D with nx:=N,ct:=N,bk:=D.nx} σ2 H2):=by
 refine ⟨fun i m σ H=>m=(xs.zip ys).length-i∧i≤(xs.zip ys).length∧Pv i σ H,⟨(xs.zip ys).length,by simp,cT _,h0⟩,?_⟩
 rintro i m σ H ⟨rfl,hi,p⟩;obtain ⟨q1,q2⟩:=hl i σ H p;have js:=pD q1 q2;by_cases cb:i<(xs.zip ys).length
 ·refine .inr ⟨js.go i H (af.refl H) cb,Pv (i+1),fun σ' H' p'=>⟨(xs.zip ys).length-(i+1),by lia,rfl,cb,p'⟩,fun v H' hy=>?_⟩
  obtain ⟨T,x,y,rfl,nT,rfl,hx⟩:=js.d6 i H v H' (af.refl H) hy;exact hs i x y σ H T (hx cb) p nT
 ·have e:i=(xs.zip ys).length:=by lia
  subst e;exact .inl ⟨js.stop _ H (af.refl H) (aI _),hd σ H p⟩
section
variable {X:Cx} {K:aA}
theorem yu(hK:X.K=K:=by rfl):rH X (Gh K):=by subst hK;exact bC
theorem nX(hK:X.K=K:=by rfl):rH X (Gg K):=by subst hK;exact dc
def Qq(K:aA):List V→Hp→VK→Prop:=fun xs H Q=>∃p ys,xs=[.ref p]∧(bh K H p ys∨fG K H p ys)∧Q (.int (ys.length:Int)) H
theorem Qr(hK:X.K=K:=by rfl):gT X (.builtin "len") (Qq K):=by subst hK;exact df
theorem yw{tg l:Expr}{tl:TE}(hl:PE X l tl)(hK:X.K=K:=by rfl):PI X tg l (Bl K tl):=by subst hK;exact eL hl
def Hn(K:aA):List V→Hp→VK→Prop:=fun xs H Q=>∃p ys,xs=[.ref p]∧(bh K H p ys∨fG K H p ys)∧∀l,H l=none→Q (.ref l) (upd H l (.lst ys))
theorem Ho(hK:X.K=K:=by rfl):gT X (.type "list") (Hn K):=by subst hK;exact xV
end
end L2
namespace My
open PySem L2
variable {te:TE} {σ:St} {H:Hp} {Q:VK}
theorem r6{r:List V→Hp→VK→Prop}(h:te σ H fun x H1=>r [x] H1 Q):xT r (o8 te xS) σ H Q:=h
variable {D:Ends}
theorem kf(h:te σ H D.rt):Fu te D σ H:=h
theorem Hq{t:TA}(h:te σ H fun x H1=>t σ H1 fun xs H2=>(x::xs).length≤sizeLine∧∀p,H2 p=none→Q (.ref p) (upd H2 p (.tup (x::xs)))):F1 (o8 te t) σ H Q:=h
theorem yy{vs:List V}{ws:List Int}(hl:vs.length=ws.length)(h:∀(i:Nat) (v:V),vs[i]?=some v→∃w,ws[i]?=some w∧v=.int w):vs=ws.map V.int:=by
 refine List.ext_getElem? fun i=>?_;rw [bo];by_cases hi:i<vs.length
 ·obtain ⟨w,e1,e2⟩:=h i vs[i] (by simp [hi])
  rw [e1,show vs[i]?=some vs[i] by simp [hi],e2]
  rfl
 ·rw [uR (by lia),uR (by lia)]
  rfl
def Hr(H0 H:Hp)(v:V)(ts:List Int)(B:Int):Prop:=∃tp l:Addr,v=.ref tp∧H tp=some (.tup [.ref l,.int B])∧H l=some (.lst (ts.map V.int))∧H0 l=none
variable {b m:Int}
theorem Qs(hb:1≤b)(hm:1≤m):1≤b / (Int.gcd b m:Int)*m∧m∣b / (Int.gcd b m:Int)*m∧b∣b / (Int.gcd b m:Int)*m∧(b / (Int.gcd b m:Int)*m).natAbs≤b.natAbs*m.natAbs:=by
 have gp:=nK (a:=b) (b:=m) (by lia)
 obtain ⟨b',eb⟩:=oK (a:=b) (b:=m);obtain ⟨m',em⟩:=oM (a:=b) (b:=m);generalize Int.gcd b m=g at *;have g0:(g:Int)≠0:=by lia
 have gb:b / (g:Int)=b':=by rw [eb];exact jE _ g0
 rw [gb];have b0:0<b':=vj (u:=(g:Int)) (by lia) (by rw [←eb];lia)
 have mp:0<b'*m:=oN b0 (by lia)
 refine ⟨by lia,oO ..,⟨m',?_⟩,?_⟩
 ·rw [em,eb]
  simp only [iG,fg,xf]
 ·rw [je]
  refine xl _ ?_;rw [←gb];exact oP ..
variable {α:Type}
theorem pick{β:Type}{xs:List α}{R:Nat→α→β→Prop}(h:∀(i:Nat) (x:α),xs[i]?=some x→∃w,R i x w):∃ws:List β,ws.length=xs.length∧∀(i:Nat) (x:α) (w:β),xs[i]?=some x→ws[i]?=some w→R i x w:=by
 refine ⟨List.ofFn fun i:Fin xs.length=>Classical.choose (h i.1 xs[i.1] (by simp)),by simp,fun i x w hx hw=>?_⟩
 have hi:i<xs.length:=(aW.mp hx).1;have ex:xs[i]=x:=(aW.mp hx).2;rw [List.getElem?_ofFn,dif_pos hi] at hw;have hw:=Option.some.inj hw;rw [←hw];have z:=AQ (h i xs[i] (by simp [hi]))
 rw [←ex];exact z
variable {q:Int}
theorem mj{c:Int}(hq:bg q)(h1:¬q∣b)(h2:¬q∣c):¬q∣b*c:=fun h=>by
 rcases hq with rfl | ⟨q2,q3,q4⟩
 ·have z:=lI.mp h
  rcases xn.mp z with z | z;·exact h1 (by rw [z];exact oR 0)
  ·exact h2 (by rw [z];exact oR 0)
 ·have k1:=gy c (show q≠0 by lia)
  have k2:=gN c (show 0<q by lia)
  have k3:c % q≠0:=fun z=>h2 (AN z);have g:=G3 q2 q3 q4 (show 1≤c % q by lia) k2
  obtain ⟨w,ew⟩:=BZ c q;exact h1 (P7 q2 (P6 g ⟨-w,by rw [jF];lia⟩) h)
def Hs(H:Hp)(q:Int)(a:Addr)(tb:a8):Prop:=∃vs:List V,H a=some (.lst vs)∧vs.length=tb.length∧∀(i:Nat) (v:V) (p:Int×Int),vs[i]?=some v→tb[i]?=some p→gH H q v p.1 p.2
def a9(q:Int)(b:Int):Prop:=(q=0→1≤b)∧(q≠0→b=1)
variable {B:Nat} {v:V} {x:Int}
theorem dj.bot(h:dj B H q v x m)(hq:bg q):a9 q m:=by
 cases h with
 | cY e l bx bm=>exact ⟨fun _=>l.pos,fun z=>absurd rfl z⟩
 | rem h0 h1 h2=>exact ⟨fun _=>by lia,fun _=>rfl⟩
theorem Qt{c:TT}{t u:TS}(h:c σ H fun b H1=>if b=true then t D σ H1 else u D σ H1):Bd c t u D σ H:=h
theorem Qu{Q:Bool→Hp→Prop}(h:te σ H fun x H1=>∃c,x=.bl c∧Q c H1):tB te σ H Q:=h
theorem vC{vs:List V}{b:Bool}(h:∀(i:Nat) (v:V),vs[i]?=some v→v=.bl b):vs=(List.replicate vs.length b).map V.bl:=by
 refine List.ext_getElem? fun i=>?_;rw [bo];by_cases hi:i<vs.length
 ·rw [show vs[i]?=some vs[i] by simp [hi],h i vs[i] (by simp [hi])]
  simp [hi]
 ·rw [uR (by lia),uR (by simp;lia)]
  rfl
theorem Qv(n:Nat):(List.replicate n false).any id=false:=by simp
theorem yz(n:Nat):(List.replicate n true).all id=true:=by simp
theorem Qw{r:R2}{ta tb:TE}(h:ta σ H fun x H1=>tb σ H1 fun y H2=>r x y H2 Q):jP r ta tb σ H Q:=h
def Qx:Sp:=fun vs H Q _=>∃(q:Int) (a:Addr) (tb:a8) (n:Int),vs=[.int q,.ref a,.int n]∧Hs H q a tb∧(tb.length:Int)=n∧tb.length≤40∧(∀p∈tb,bE p.2)∧∀H',af H H'→Q (.bl true) H'
theorem Qy{t:Int}(h:gH H q v t b)(bb:bE b):Thing H v:=by
 cases h with
 | cY e l hb h=>exact Pr e (.int _) (.int _) (fun i e=>by have e:=V.int.inj e;rw [←e];exact eK (rQ l hb h).2 bb)
 | rem q2 h0 h1 g h=>exact Pq
variable {i:Nat}
theorem k7{n:Nat}(h:((List.range n).map fun i:Nat=>V.int (0+(i:Int)))[i]?=some v):i<n∧v=.int (i:Int):=by
 have bH:i<n:=by have:=(aW.mp h).1;simpa using this
 refine ⟨bH,?_⟩;rw [bo] at h;simp [bH] at h;exact h.symm
variable {H':Hp}
theorem none_of{b:Addr}(s:af H H')(h:H' b=none):H b=none:=by
 cases e:H b with
 | none=>rfl
 | some o=>rw [s _ _ e] at h;cases h
def o1:Int×Int:=(0,1)
theorem getD_at{α:Type}{xs:List α}{d:α}(hi:i<xs.length):xs.getD i d=xs[i]:=by
 rw [bq,show xs[i]?=some xs[i] by simp [hi]]
 rfl
def bM(q:Int)(p t:Int×Int):Prop:=q∣p.1*t.2-t.1*p.2
theorem bM.refl(p:Int×Int):bM q p p:=⟨0,by rw [qY,cy]⟩
variable {p:Int×Int}
theorem bM.symm{t:Int×Int}(h:bM q p t):bM q t p:=by obtain ⟨k,e⟩:=h;exact ⟨-k,by rw [jF];lia⟩
theorem bM.cancel(ok:a9 q b)(h:q∣b*x):q∣x:=by
 by_cases z:q=0
 ·subst z
  have h0:=lI.mp h;have b1:=ok.1 rfl;rcases xn.mp h0 with e | e;·lia
  ·rw [e];exact oR 0
 ·rw [ok.2 z,jH] at h
  exact h
theorem bM.trans{t s:Int×Int}(h1:bM q p t)(h2:bM q t s)(ok:a9 q t.2):bM q p s:=by obtain ⟨k1,e1⟩:=h1;obtain ⟨k2,e2⟩:=h2;refine bM.cancel ok ⟨k1*s.2+k2*p.2,?_⟩;grind
def ah:Nat→(Nat→Int)→Int
 | 0,_=>0
 | n+1,f=>f 0+ah n fun i=>f (i+1)
theorem cq:∀{n:Nat} {f g:Nat→Int},(∀i,i<n→f i=g i)→ah n f=ah n g
 | 0,f,g,_=>rfl
 | n+1,f,g,h=>by unfold ah;rw [h 0 (by lia),cq fun i hi=>h (i+1) (by lia)]
theorem kg:∀(n:Nat) (f g:Nat→Int),ah n (fun i=>f i+g i)=ah n f+ah n g
 | 0,f,g=>rfl
 | n+1,f,g=>by show f 0+g 0+ah n (fun i=>f (i+1)+g (i+1))=(f 0+ah n fun i=>f (i+1))+(g 0+ah n fun i=>g (i+1));rw [kg n];lia
theorem cB(c:Int):∀(n:Nat) (f:Nat→Int),c*ah n f=ah n fun i=>c*f i
 | 0,f=>by unfold ah;rw [cy]
 | n+1,f=>by unfold ah;rw [Int.mul_add,cB c n]
theorem gI:∀(n:Nat),ah n (fun _=>0)=0
 | 0=>rfl
 | n+1=>by unfold ah;rw [gI n];rfl
theorem vD:∀(n m:Nat) (F:aE),ah n (fun i=>ah m fun j=>F i j)=ah m fun j=>ah n fun i=>F i j
 | 0,m,F=>by show (0:Int)=_;rw [show (fun j=>ah 0 fun i=>F i j)=fun _=>(0:Int) from rfl,gI]
 | n+1,m,F=>by show (ah m fun j=>F 0 j)+ah n (fun i=>ah m fun j=>F (i+1) j)=ah m fun j=>F 0 j+ah n fun i=>F (i+1) j;rw [vD n m,←kg]
theorem nY:∀(n j:Nat) (f:Nat→Int),j<n→ah n (fun i=>if i=j then f i else 0)=f j
 | n+1,0,f,_=>by
  show (if (0:Nat)=0 then f 0 else 0)+ah n (fun i=>if i+1=0 then f (i+1) else 0)=f 0
  rw [aq rfl,show (fun i=>if i+1=0 then f (i+1) else 0)=fun _=>(0:Int) from funext fun i=>ar (by lia),gI]
  lia
 | n+1,j+1,f,h=>by
  show (if (0:Nat)=j+1 then f 0 else 0)+ah n (fun i=>if i+1=j+1 then f (i+1) else 0)=f (j+1)
  rw [ar (by lia),show (fun i=>if i+1=j+1 then f (i+1) else 0)=fun i=>if i=j then (fun i=>f (i+1)) i else 0 from funext fun i=>by by_cases z:i=j <;> simp [z],nY n j (fun i=>f (i+1)) (by lia)]
  lia
theorem B8{q:Int}:∀(xs:a8),(∀p∈xs,a9 q p.2)→(q=0∨q≠0)→∃D:Int,a9 q D∧∀p∈xs,p.2∣D
 | [],_,_=>⟨1,⟨fun _=>by decide,fun _=>rfl⟩,fun p hp=>by simp at hp⟩
 | x::xs,h,hq=>by
  obtain ⟨D,h1,h2⟩:=B8 xs (fun p hp=>h p (fO _ hp)) hq;have hx:=h x g9;refine ⟨x.2*D,⟨fun z=>?_,fun z=>?_⟩,fun p hp=>?_⟩
  ·have:=oN (show 0<x.2 by have:=hx.1 z;lia) (show 0<D by have:=h1.1 z;lia)
   lia
  ·rw [hx.2 z,h1.2 z];rfl
  ·rcases dq.mp hp with e | e
   ·rw [e];exact Int.dvd_mul_right ..
   ·exact iF (h2 p e) (oO ..)
def yA(D:Int)(p:Int×Int):Int:=p.1*(D / p.2)
theorem Ht{D:Int}(h:p.2∣D)(ok:a9 q p.2):bM q p (yA D p,D):=by
 obtain ⟨c,e⟩:=h;refine ⟨0,?_⟩;rw [cy];unfold yA;dsimp only;by_cases z:p.2=0
 ·rw [z,kD] at e
  rw [e,z];simp
 ·rw [e,jE _ z]
  grind
theorem Qz{t:Int}(h:gH H q v t b)(hq:bg q)(bt:t.natAbs≤B)(bb:b.natAbs≤B):∃xm:Int×Int,dj B H q v xm.1 xm.2∧bM q xm (t,b):=by
 cases h with
 | cY e l hb h=>
  rename_i p x m
  obtain ⟨c1,c2⟩:=rQ l hb h;exact ⟨(x,m),.cY e l (aN c1 bt) (aN c2 bb),⟨0,by dsimp only;rw [h];lia⟩⟩
 | rem q2 h0 h1 g h=>
  rename_i r
  obtain ⟨k,ek⟩:=h;have q3:q≤997:=by rcases hq with z | ⟨_,z,_⟩ <;> lia
  exact ⟨(r,1),.rem h0 h1 q3,⟨k,by dsimp only;rw [iC];exact ek⟩⟩
variable {a:Int}
theorem r9(hB:1≤B)(h:rP H q v a 1)(hq:bg q)(ha:a=0∨a=1):dj B H q v a 1:=by
 rcases h with ⟨rfl,r,rfl,e⟩ | ⟨q2,r,rfl,r0,r1,er⟩
 ·rw [(G4 a).1,(G4 a).2] at e
  exact .cY e ⟨by decide,Int.gcd_one_right ..⟩ (by rcases ha with rfl | rfl <;> simp [hB]) (by simpa using hB)
 ·have q3:q≤997:=by rcases hq with z | ⟨_,z,_⟩ <;> lia
  rw [jf (show (0:Int)≤1 by decide) (show (1:Int)<q by lia),iC,jf r0 r1] at er
  have ea:a % q=a:=jf (by lia) (by lia)
  rw [ea] at er;subst er;exact .rem r0 r1 q3
theorem B9(hq:bg q):¬kZ q 1:=fun h=>by
 unfold kZ at h;rcases hq with rfl | ⟨q2,q3,q4⟩;·rw [aq rfl] at h;lia
 ·rw [ar (by lia),jf (by lia) (by lia)] at h;lia
theorem a9.mul(h1:a9 q a)(h2:a9 q b):a9 q (a*b):=⟨fun z=>by
  have:=oN (show 0<a by have:=h1.1 z;lia) (show 0<b by have:=h2.1 z;lia)
  lia,fun z=>by rw [h1.2 z,h2.2 z];rfl⟩
theorem a9.one:a9 q 1:=⟨fun _=>by decide,fun _=>rfl⟩
variable {ps:a8}
theorem QA(hb:∀p∈ps,a9 q p.2):∃(D:Int) (A:Nat→Int),a9 q D∧∀j,j<ps.length→bM q (ps.getD j o1) (A j,D):=by obtain ⟨D,h1,h2⟩:=B8 ps hb (Classical.em _);refine ⟨D,fun j=>yA D (ps.getD j o1),h1,fun j hj=>?_⟩;dsimp only;rw [getD_at hj];exact Ht (h2 _ (a7 hj)) (hb _ (a7 hj))
theorem QB{ae:bu}{N M:Nat}(hb:∀ps∈ae,∀p∈ps,a9 q p.2)(hN:ae.length=N)(hM:∀ps∈ae,ps.length=M):∃(D:Int) (A:aE),a9 q D∧∀i j,i<N→j<M→bM q ((ae.getD i []).getD j o1) (A i j,D):=by
 obtain ⟨D,h1,h2⟩:=B8 ae.flatten (fun p hp=>by obtain ⟨ps,a,b⟩:=List.mem_flatten.mp hp;exact hb ps a p b) (Classical.em _)
 refine ⟨D,fun i j=>yA D ((ae.getD i []).getD j o1),h1,fun i j hi hj=>?_⟩;have bH:i<ae.length:=by lia
 dsimp only;rw [getD_at bH];have eP:j<ae[i].length:=by rw [hM _ (a7 bH)];exact hj
 rw [getD_at eP];exact Ht (h2 _ (List.mem_flatten.mpr ⟨_,a7 bH,a7 eP⟩)) (hb _ (a7 bH) _ (a7 eP))
theorem dj.both(h:dj B H q v x m)(b1:1000≤B):x.natAbs≤B∧m.natAbs≤B:=by
 cases h with
 | cY e l bx bm=>exact ⟨bx,bm⟩
 | rem h0 h1 h2=>exact ⟨by lia,by show Int.natAbs 1≤B;lia⟩
theorem B_(k m:Nat)(A:Nat→Int)(B:aE)(R:Nat→Int):(ah k fun j=>(ah m fun l=>A l*B l j)*R j)=ah m fun l=>A l*ah k fun j=>B l j*R j:=by
 have e1:(fun j=>(ah m fun l=>A l*B l j)*R j)=fun j=>ah m fun l=>A l*(B l j*R j):=funext fun j=>by rw [fg,cB];exact cq fun l _=>by rw [fg,iG]
 rw [e1,vD];exact cq fun l _=>(cB ..).symm
def b6(B:Nat)(H:Hp)(q:Int)(a:Addr)(ps:a8):Prop:=∃vs:List V,H a=some (.lst vs)∧vs.length=ps.length∧∀(i:Nat) (v:V) (p:Int×Int),vs[i]?=some v→ps[i]?=some p→dj B H q v p.1 p.2
theorem b6.mono{a:Addr}(h:b6 B H q a ps)(s:af H H'):b6 B H' q a ps:=by obtain ⟨vs,e,l,k⟩:=h;exact ⟨vs,s _ _ e,l,fun i v p h1 h2=>(k i v p h1 h2).mono s⟩
end My
namespace L2
open PySem PySem.Spec PyProof.Rows
end L2
namespace My
open PySem L2
theorem b6.cat{B:Nat}{H:Hp}{q:Int}{r:Addr}{vs us:List V}{ps rs:a8}(e:H r=some (.lst (vs++us)))(l1:vs.length=ps.length)(l2:us.length=rs.length)(f1:∀(i:Nat) (v:V) (p:Int×Int),vs[i]?=some v→ps[i]?=some p→dj B H q v p.1 p.2)(f2:∀(i:Nat) (v:V) (p:Int×Int),us[i]?=some v→rs[i]?=some p→dj B H q v p.1 p.2):b6 B H q r (ps++rs):=by
 refine ⟨vs++us,e,by simp [l1,l2],fun i v p h1 h2=>?_⟩
 by_cases hi:i<vs.length
 ·rw [eX hi] at h1
  rw [eX (by lia)] at h2
  exact f1 i v p h1 h2
 ·rw [fE (by lia)] at h1
  rw [fE (by lia),←l1] at h2
  exact f2 _ v p h1 h2
end My
namespace L2
open PySem PySem.Spec PyProof.Rows
theorem yB{K:aA}{wi:TI}{ρ:St→St}{te:TE}{σ:St}{H:Hp}{Q:VK}{Z:List (V×V)→Hp→Prop}(gk:∀R:It→Hp→Prop,(∀J H1 zs,af H H1→yt J zs H1→zs.length<sizeLine→Z zs H1→R J H1)→wi σ H R)
  (P:Addr→Nat→V→Hp→Prop) (mono:∀D i y H H' ys,P D i y H→H D=some (.lst ys)→(∀b o,b≠D→H b=some o→H' b=some o)→P D i y H')
  (step:∀zs H1,Z zs H1→af H H1→∀D i x y,zs[i]?=some (x,y)→∀(Hc:Hp) (R:VK),af H1 Hc→(∃ys,Hc D=some (.lst ys))→(∀v H3,af Hc H3→P D i v H3→R v H3)→te (some x::some y::ρ σ) Hc R)
  (fin:∀zs H1,Z zs H1→af H H1→∀D vs Hc,H D=none→af H1 Hc→vs.length=zs.length→(∀(i:Nat) (v:V),vs[i]?=some v→P D i v Hc)→Hc D=some (.lst vs)→Q (.ref D) Hc):pC K wi ρ (fun _ H Q=>Q true H) te σ H Q:=by
 refine gk _ fun J H1 zs s1 js hn hZ=>?_;intro D nD;have hD:H D=none:=by
  cases e:H D with
  | none=>rfl
  | some o=>rw [s1 _ _ e] at nD;cases nD
 refine ⟨fun i m vs Hc=>m=zs.length-i∧i≤zs.length∧Hc D=some (.lst vs)∧af H1 Hc∧vs.length=i∧∀(j:Nat) (v:V),vs[j]?=some v→P D j v Hc,⟨_,rfl,cT _,aB,d_ (af.refl H1) nD,rfl,fun j y e=>by simp at e⟩,?_⟩
 rintro i m vs Hc ⟨rfl,hi,eD,sH,el,hP⟩;refine ⟨eD,?_⟩;by_cases cb:i<zs.length
 ·refine .inr ⟨js.go i Hc sH cb,fun v H' hy=>?_⟩
  obtain ⟨T,x,y,ev,nT,eH,hx⟩:=js.d6 i Hc v H' sH hy;subst ev eH;refine ⟨T,x,y,rfl,.of aB,?_⟩;dsimp only;rw [aq rfl];have sT:af Hc (upd Hc T (.tup [x,y])):=fun b o e=>by rw [aH (fi e nT)];exact e
  refine step zs H1 hZ s1 D i x y (hx cb) _ _ (sH.trans sT) ⟨vs,sT _ _ eD⟩ fun w H3 s3 hp=>?_;have e3:=s3 _ _ (sT _ _ eD);have cP:∀b o,b≠D→H3 b=some o→upd H3 D (.lst (vs++[w])) b=some o:=fun b o nb e=>by rw [aH nb];exact e
  refine ⟨e3,by lia,zs.length-(i+1),by lia,rfl,cb,aB,d_ (sH.trans (sT.trans s3)) nD,by simp [el],fun j v' e=>?_⟩
  by_cases hj:j<i;·exact mono D j v' Hc _ vs (hP j v' (by rw [eX (by lia)] at e;exact e)) eD fun b o nb e=>cP b o nb (s3 _ _ (sT _ _ e))
  ·have hj:j=i:=by have:=(aW.mp e).1;simp at this;lia
   subst hj;have e':v'=w:=by rw [fE (by lia),el,jG] at e;simpa using e.symm
   subst e';exact mono D _ _ H3 _ vs hp e3 cP
 ·have e:i=zs.length:=by lia
  subst e;exact .inl ⟨js.stop _ Hc sH (aI _),fin zs H1 hZ s1 D vs Hc hD sH el hP eD⟩
end L2
namespace My
open PySem L2
end My
namespace L2
open PySem PySem.Spec PyProof.Rows
section
variable {X:Cx}
end
end L2
namespace My
open PySem L2
theorem k8:∀(n:Nat) (f:Nat→Int),ah (n+1) f=ah n f+f n
 | 0,f=>by show f 0+0=0+f 0;lia
 | n+1,f=>by show f 0+ah (n+1) (fun i=>f (i+1))=(f 0+ah n fun i=>f (i+1))+f (n+1);rw [k8 n];lia
def Canon(q:Int)(p:Int×Int):Prop:=(q=0→dG p.1 p.2)∧(q≠0→p.2=1∧0≤p.1∧p.1<q)
variable {q m:Int}
theorem dj.canon{B:Nat}{H:Hp}{v:V}{x:Int}(h:dj B H q v x m):Canon q (x,m):=by
 cases h with
 | cY e l bx bm=>exact ⟨fun _=>l,fun z=>absurd rfl z⟩
 | rem h0 h1 h2=>exact ⟨fun z=>by lia,fun _=>⟨rfl,h0,h1⟩⟩
variable {b:Int}
theorem a9.nz(hq:bg q)(h:a9 q b):¬q∣b:=fun hd=>by
 by_cases z:q=0
 ·subst z
  have:=h.1 rfl;have:=lI.mp hd;lia
 ·rw [h.2 z] at hd
  have q2:2≤q:=by rcases hq with h | h <;> lia
  have:=oS (by decide) hd
  lia
variable {D:Int}
theorem lcm_dvd(hb:1≤b)(hm:1≤m)(h1:b∣D)(h2:m∣D):b / (Int.gcd b m:Int)*m∣D:=by
 have gp:=nK (a:=b) (b:=m) (by lia)
 obtain ⟨b',eb⟩:=oK (a:=b) (b:=m)
 have g0:(Int.gcd b m:Int)≠0:=by lia
 have gb:b / (Int.gcd b m:Int)=b':=by
  conv=>lhs;lhs;rw [eb]
  exact jE _ g0
 have z:((Int.lcm b m:Nat):Int)∣D:=Int.coe_lcm_dvd h1 h2
 have e:((Int.lcm b m:Nat):Int)=b'*m:=by
  have h:=Int.gcd_mul_lcm b m
  have h2:((Int.gcd b m:Nat):Int)*((Int.lcm b m:Nat):Int)=((b*m).natAbs:Int):=by
   rw [←Int.natCast_mul,h,je]
  have bm:0<b*m:=oN (by lia) (by lia)
  have h3:((b*m).natAbs:Int)=b*m:=by lia
  rw [h3] at h2
  refine mY g0 ?_
  rw [h2,←iG,←eb]
 rw [gb,←e]
 exact z
structure Ca (q:Int) (ps:a8) (ts:List Int) (b D:Int) (B:Nat):Prop where
 len:ts.length=ps.length
 ok:a9 q b
 dvd:b∣D
 each:∀i,i<ps.length→ts.getD i 0*(ps.getD i o1).2=(ps.getD i o1).1*b∧(ts.getD i 0).natAbs≤B*D.natAbs
theorem Hv(h:b∣D)(hD:D≠0):b.natAbs≤D.natAbs:=Nat.le_of_dvd (kC.mpr hD) (AR.mpr h)
end My
namespace L2
open PySem PySem.Spec PyProof.Rows
section
variable {X:Cx} {tg:Expr}
end
theorem QC{X:Cx}{K:aA}{e:Expr}{f:Str}{pos:Pos}{ta:TE}(he:PE X e ta)(hb:attributeBase e f X.env (eval e X.env)=eval e X.env)(hK:X.K=K:=by rfl):PE X (.Attribute e f pos) (FX K ta f):=by subst hK;exact lZ he hb
end L2
namespace My
open PySem L2
def Cg(q a b:Int):Prop:=q∣a-b
variable {q:Int}
theorem Cg.refl(a:Int):Cg q a a:=⟨0,by lia⟩
variable {a b:Int}
theorem Cg.of_eq(h:a=b):Cg q a b:=h▸Cg.refl a
theorem Cg.symm(h:Cg q a b):Cg q b a:=by obtain ⟨k,e⟩:=h;exact ⟨-k,by rw [jF];lia⟩
theorem Cg.trans{c:Int}(h1:Cg q a b)(h2:Cg q b c):Cg q a c:=by obtain ⟨k,e⟩:=h1;obtain ⟨l,e'⟩:=h2;exact ⟨k+l,by rw [Int.mul_add];lia⟩
variable {d:Int}
theorem Cg.add{c:Int}(h1:Cg q a b)(h2:Cg q c d):Cg q (a+c) (b+d):=by obtain ⟨k,e⟩:=h1;obtain ⟨l,e'⟩:=h2;exact ⟨k+l,by rw [Int.mul_add];lia⟩
theorem Cg.sub{c:Int}(h1:Cg q a b)(h2:Cg q c d):Cg q (a-c) (b-d):=by obtain ⟨k,e⟩:=h1;obtain ⟨l,e'⟩:=h2;exact ⟨k-l,by rw [oT];lia⟩
theorem Cg.mulL(c:Int)(h:Cg q a b):Cg q (c*a) (c*b):=by obtain ⟨k,e⟩:=h;exact ⟨c*k,by rw [←oT,e];grind⟩
theorem Cg.mulR(c:Int)(h:Cg q a b):Cg q (a*c) (b*c):=by rw [fg a,fg b];exact h.mulL c
theorem pE(q a:Int):Cg q (a % q) a:=⟨-(a / q),by have:=Int.mul_ediv_add_emod a q;rw [jF];lia⟩
theorem Cg.nz(h:Cg q a b)(n:¬q∣b):¬q∣a:=fun d=>n (by
 have:b=a-(a-b):=by lia
 rw [this];exact Int.dvd_sub d h)
theorem ed{q:Int}:∀{n:Nat} {f g:Nat→Int},(∀i,i<n→Cg q (f i) (g i))→Cg q (ah n f) (ah n g)
 | 0,_,_,_=>Cg.refl _
 | n+1,f,g,h=>by unfold ah;exact (h 0 (by lia)).add (ed fun i hi=>h (i+1) (by lia))
theorem QD{α:Type}{xs:List α}{k:Nat}{d:α}(h:xs.length≤k):xs.getD k d=d:=by rw [bq,uR h];rfl
def bj(j:Nat)(v:aE):Nat→Nat→Int:=fun i=>if i<j then v i else v (i+1)
def sgn(j:Nat):Int:=if j % 2=0 then 1 else -1
theorem Cb(j:Nat):sgn (j+1)=-sgn j:=by
 unfold sgn;by_cases h:j % 2=0;·rw [aq h,ar (by lia)]
 ·rw [ar h,aq (by lia)];rfl
def aC:List Nat→(Nat→Nat→Int)→Int
 | [],_=>1
 | c::cs,v=>ah (cs.length+1) fun j=>sgn j*v j c*aC cs (bj j v)
theorem vE(c:Nat)(cs:List Nat)(v:aE):aC (c::cs) v=ah (cs.length+1) fun j=>sgn j*v j c*aC cs (bj j v):=rfl
variable {j:Nat}
theorem QE{l:Nat}(h:l≤j)(v:aE):bj l (bj (j+1) v)=bj j (bj l v):=by
 funext i
 unfold bj;by_cases h1:i<l;·rw [aq h1,aq (by lia),aq (by lia),aq h1]
 ·rw [ar h1]
  by_cases h2:i<j;·rw [aq h2,ar h1,aq (by lia)]
  ·rw [ar h2,ar (by lia),ar (by lia)]
theorem Hw(n:Nat)(f:Nat→Int):ah n (fun i=>-f i)=-ah n f:=by
 have:=cB (-1) n f;rw [show (fun i=>-f i)=fun i=>-1*f i from funext fun i=>by lia,←this]
 lia
theorem QF(n:Nat)(F:aE):(ah (n+1) fun j=>ah n fun l=>F j l)=(ah n fun j=>ah (j+1) fun l=>F (j+1) l)+ah n fun l=>ah (l+1) fun j=>F j l:=by
 induction n with
 | zero=>rfl
 | succ n ih=>
  rw [k8 (n+1) fun j=>ah (n+1) fun l=>F j l];have e1:(ah (n+1) fun j=>ah (n+1) fun l=>F j l)=(ah (n+1) fun j=>ah n fun l=>F j l)+ah (n+1) fun j=>F j n:=by rw [←kg];exact cq fun j _=>k8 n _
  rw [e1,ih,k8 n fun j=>ah (j+1) fun l=>F (j+1) l,k8 n fun l=>ah (l+1) fun j=>F j l];lia
theorem HA(a b:Nat)(cs:List Nat)(v:aE):aC (a::b::cs) v=-aC (b::a::cs) v:=by
 have ex:∀x y:Nat,aC (x::y::cs) v=(ah (cs.length+1) fun j=>ah (j+1) fun l=>sgn (j+1)*sgn l*(v (j+1) x*v l y)*aC cs (bj j (bj l v)))-ah (cs.length+1) fun j=>ah (j+1) fun l=>sgn (j+1)*sgn l*(v l x*v (j+1) y)*aC cs (bj j (bj l v)):=fun x y=>by
  have e0:aC (x::y::cs) v=ah (cs.length+2) fun j=>ah (cs.length+1) fun l=>sgn j*v j x*(sgn l*bj j v l y*aC cs (bj l (bj j v))):=by rw [vE,cx];refine cq fun j _=>?_;rw [vE,cB]
  rw [e0,QF (cs.length+1)];rw [Int.sub_eq_add_neg,←Hw]
  congr 1
  ·refine cq fun j _=>cq fun l hl=>?_
   rw [QE (by lia),show bj (j+1) v l y=v l y by unfold bj;rw [aq (by lia)]]
   grind
  ·refine cq fun l _=>?_
   rw [←Hw];refine cq fun j hj=>?_;rw [show bj j v l y=v (l+1) y by unfold bj;rw [ar (by lia)],Cb]
   grind
 rw [ex a b,ex b a];have f:∀x y:Nat,(ah (cs.length+1) fun j=>ah (j+1) fun l=>sgn (j+1)*sgn l*(v l x*v (j+1) y)*aC cs (bj j (bj l v)))=ah (cs.length+1) fun j=>ah (j+1) fun l=>sgn (j+1)*sgn l*(v (j+1) y*v l x)*aC cs (bj j (bj l v)):=fun x y=>cq fun j _=>cq fun l _=>by rw [fg (v l x)]
 rw [f a b,f b a];lia
theorem r_(c:Nat):∀(cs:List Nat) (v:aE),c∈cs→aC (c::cs) v=0
 | b::cs,v,h=>by
  by_cases e:c=b
  ·subst e
   have:=HA c c cs v;lia
  ·have h':c∈cs:=by
    rcases dq.mp h with z | z;·exact absurd z e
    ·exact z
   rw [HA,vE];rw [show (fun j=>sgn j*v j b*aC (c::cs) (bj j v))=fun _=>0 from funext fun j=>by rw [r_ c cs _ h',cy],gI]
   rfl
def aL(e:Nat→Int)(R:aE):Nat→Nat→Int
 | 0=>e
 | i+1=>R i
theorem HB(e:Nat→Int)(R:aE):bj 0 (aL e R)=R:=by
 funext i
 unfold bj;rw [ar (by lia)]
 rfl
theorem HC(i:Nat)(e:Nat→Int)(R:aE):bj (i+1) (aL e R)=aL e (bj i R):=by
 funext j
 unfold bj;cases j with
 | zero=>rw [aq (by lia)];rfl
 | succ j=>
  by_cases h:j<i
  ·rw [aq (by lia)]
   show R j=if j<i then R j else R (j+1)
   rw [aq h]
  ·rw [ar (by lia)]
   show R (j+1)=if j<i then R j else R (j+1)
   rw [ar h]
theorem nZ(k:Nat)(C:List Nat)(e:Nat→Int)(R:aE):aC (k::C) (aL e R)=aC C R*e k+ah C.length fun i=>R i k*(-(sgn i)*aC C (aL e (bj i R))):=by
 rw [vE,ah];have e0:sgn 0*aL e R 0 k*aC C (bj 0 (aL e R))=aC C R*e k:=by rw [HB];show 1*e k*aC C R=_;rw [jH,fg]
 rw [e0]
 congr 1
 refine cq fun i _=>?_;rw [HC,Cb];show -sgn i*R i k*_=_;grind
def n5(C:List Nat)(R:aE):Prop:=∀x:Nat→Int,(∀c∈C,(ah C.length fun i=>R i c*x i)=0)→∀k,(ah C.length fun i=>R i k*x i)=0
theorem QG(R:aE):n5 [] R:=fun _ _ _=>rfl
variable {C:List Nat} {R:aE} {h:Nat→Int} {c:Nat}
theorem QH(sp:n5 C R)(d0:aC C R≠0)(p0:aC (c::C) (aL h R)≠0):n5 (c::C) (aL h R):=by
 intro x hx k;have ex:∀k,(ah (c::C).length fun i=>aL h R i k*x i)=h k*x 0+ah C.length fun i=>R i k*x (i+1):=fun k=>rfl;have hz:∀k,aC C R*(h k*x 0+ah C.length fun i=>R i k*x (i+1))-x 0*aC (k::C) (aL h R)=ah C.length fun i=>R i k*(aC C R*x (i+1)-x 0*(-(sgn i)*aC C (aL h (bj i R)))):=fun k=>by
  rw [nZ,show (fun i=>R i k*(aC C R*x (i+1)-x 0*(-(sgn i)*aC C (aL h (bj i R)))))=fun i=>aC C R*(R i k*x (i+1)) + -(x 0)*(R i k*(-(sgn i)*aC C (aL h (bj i R)))) from funext fun i=>by grind,kg,←cB,←cB]
  grind
 have z:=sp _ fun c' dJ=>by rw [←hz c',←ex c',hx c' (fO _ dJ),r_ c' C _ dJ];simp
 have z1:∀k,aC C R*(h k*x 0+ah C.length fun i=>R i k*x (i+1))=x 0*aC (k::C) (aL h R):=fun k=>by have:=hz k;rw [z k] at this;omega
 have x0:x 0=0:=by
  have e:=z1 c;rw [←ex c,hx c g9,cy] at e;rcases xn.mp e.symm with h | h;·exact h
  ·exact absurd h p0
 have e:=z1 k;rw [x0,kD] at e;rw [ex k,x0];rcases xn.mp e with h | h;·exact absurd h d0
 ·exact h
theorem Cc(sp:n5 C R)(e h:Nat→Int)(c k:Nat) :
  aC C R*aC (k::c::C) (aL e (aL h R))=aC (c::C) (aL h R)*aC (k::C) (aL e R)-aC (c::C) (aL e R)*aC (k::C) (aL h R):=by
 have two:∀k,aC (k::c::C) (aL e (aL h R))=aC (c::C) (aL h R)*e k-aC (c::C) (aL e R)*h k+ah C.length fun i=>R i k*(sgn i*aC (c::C) (aL e (aL h (bj i R)))):=fun k=>by
  rw [nZ,cx,ah];have e0:aL h R 0 k*(-(sgn 0)*aC (c::C) (aL e (bj 0 (aL h R))))=-(aC (c::C) (aL e R)*h k):=by rw [HB];show h k*(-1*_)=_;grind
  rw [e0,show (fun i=>aL h R (i+1) k*(-(sgn (i+1))*aC (c::C) (aL e (bj (i+1) (aL h R)))))=fun i=>R i k*(sgn i*aC (c::C) (aL e (aL h (bj i R)))) from funext fun i=>by rw [HC,Cb,Int.neg_neg];rfl]
  lia
 have hz:∀k,aC C R*aC (k::c::C) (aL e (aL h R))-(aC (c::C) (aL h R)*aC (k::C) (aL e R)-aC (c::C) (aL e R)*aC (k::C) (aL h R))=ah C.length fun i=>R i k*(aC C R*(sgn i*aC (c::C) (aL e (aL h (bj i R))))-aC (c::C) (aL h R)*(-(sgn i)*aC C (aL e (bj i R)))+aC (c::C) (aL e R)*(-(sgn i)*aC C (aL h (bj i R)))):=fun k=>by
  rw [two k,nZ k C e R,nZ k C h R];rw [show (fun i=>R i k*(aC C R*(sgn i*aC (c::C) (aL e (aL h (bj i R))))-aC (c::C) (aL h R)*(-(sgn i)*aC C (aL e (bj i R)))+aC (c::C) (aL e R)*(-(sgn i)*aC C (aL h (bj i R)))))=fun i=>(aC C R*(R i k*(sgn i*aC (c::C) (aL e (aL h (bj i R))))) + -(aC (c::C) (aL h R))*(R i k*(-(sgn i)*aC C (aL e (bj i R)))))+aC (c::C) (aL e R)*(R i k*(-(sgn i)*aC C (aL h (bj i R)))) from funext fun i=>by grind,kg,kg,←cB,←cB,←cB]
  grind
 have z:=sp _ fun c' dJ=>by rw [←hz c',r_ c' (c::C) _ (fO _ dJ),r_ c' C _ dJ,r_ c' C _ dJ];simp
 have:=hz k;rw [z k] at this;omega
def fX(c:Nat):Nat→Int:=fun k=>if k=c then -1 else 0
def gJ(C:List Nat)(R:aE)(f:Nat→Int):Nat→Int:=fun k=>aC (k::C) (aL f R)
def iY(C:List Nat)(R:aE)(c:Nat):Nat→Int:=fun k=>aC (k::C) (aL (fX c) R)-aC C R*fX c k
theorem QI(R:aE)(f:Nat→Int)(k:Nat):gJ [] R f k=f k:=by show aC [k] (aL f R)=f k;rw [nZ];show 1*f k+0=f k;lia
theorem QJ(R:aE)(c':Nat)(h:c∈C):iY C R c' c=if c=c' then aC C R else 0:=by
 unfold iY;rw [r_ c C _ h];unfold fX
 split <;> lia
theorem HD{e:Nat→Int}:∀{C:List Nat} (S:aE),C≠[]→(∀x∈C,e x=0)→aC C (aL e S)=0
 | x::C,S,_,h=>by
  rw [nZ,h x g9,cy,Int.zero_add];cases C with
  | nil=>rfl
  | cons y C=>rw [show (fun i=>S i x*(-(sgn i)*aC (y::C) (aL e (bj i S))))=fun _=>0 from funext fun i=>by rw [HD (bj i S) (by simp) fun z hz=>h z (fO _ hz)];simp,gI]
theorem QK(R:aE)(h:c∉C)(k:Nat):gJ C R (fX c) k=aC C R*fX c k:=by
 unfold gJ;rw [nZ];have z:(ah C.length fun i=>R i k*(-(sgn i)*aC C (aL (fX c) (bj i R))))=0:=by
  cases C with
  | nil=>rfl
  | cons y C=>
   rw [show (fun i=>R i k*(-(sgn i)*aC (y::C) (aL (fX c) (bj i R))))=fun _=>0 from funext fun i=>by
    rw [HD (e:=fX c) (C:=y::C) (bj i R) (by simp) fun z hz=>ar fun(e:z=c)=>h (by rw [←e];exact hz)]
    simp,gI]
 rw [z,Int.add_zero]
theorem HE(sp:n5 C R)(f h:Nat→Int)(c k:Nat):gJ C R h c*gJ C R f k-gJ C R f c*gJ C R h k=aC C R*gJ (c::C) (aL h R) f k:=(Cc sp f h c k).symm
theorem HF(sp:n5 C R)(h:Nat→Int){c':Nat}(ne:c≠c')(k:Nat):gJ C R h c*iY C R c' k-iY C R c' c*gJ C R h k=aC C R*iY (c::C) (aL h R) c' k:=by have e:=Cc sp (fX c') h c k;have z:fX c' c=0:=ar ne;unfold iY gJ;rw [z,cy,Int.sub_zero,oT (aC C R),e];grind
theorem QL(sp:n5 C R)(d0:aC C R≠0)(h:Nat→Int)(nc:c∉C)(k:Nat):iY (c::C) (aL h R) c k=gJ C R h k:=by
 have e:=Cc sp (fX c) h c k;have u:=QK R nc;unfold gJ at u;rw [u k,u c,show fX c c=-1 from aq rfl] at e;unfold iY gJ;have:aC C R*(aC (k::c::C) (aL (fX c) (aL h R))-aC (c::C) (aL h R)*fX c k)=aC C R*aC (k::C) (aL h R):=by rw [oT,e];grind
 exact mY d0 this
def bO:Nat→Nat
 | 0=>1
 | n+1=>(n+1)*bO n
theorem Cd{M:Nat}:∀(n:Nat) (f:Nat→Int),(∀i,i<n→(f i).natAbs≤M)→(ah n f).natAbs≤n*M
 | 0,_,_=>by show (0:Int).natAbs≤_;simp
 | n+1,f,h=>by rw [k8,Nat.succ_mul];exact aN (Int.natAbs_add_le ..) (Nat.add_le_add (Cd n f fun i hi=>h i (by lia)) (h n (by lia)))
def ck:Nat→(Nat→Nat)→Nat
 | 0,_=>1
 | n+1,g=>ck n g*g n
def jr(j:Nat)(g:Nat→Nat):Nat→Nat:=fun i=>if i<j then g i else g (i+1)
def vF(x:Nat)(g:Nat→Nat):Nat→Nat
 | 0=>x
 | i+1=>g i
theorem vG:∀{n:Nat} {f g:Nat→Nat},(∀i,i<n→f i=g i)→ck n f=ck n g
 | 0,_,_,_=>rfl
 | n+1,f,g,h=>by show ck n f*f n=ck n g*g n;rw [vG fun i hi=>h i (by lia),h n (by lia)]
theorem Ce:∀(n j:Nat) (g:Nat→Nat),j≤n→ck n (jr j g)*g j=ck (n+1) g
 | 0,j,g,h=>by
  have:j=0:=by lia
  subst this;rfl
 | n+1,j,g,h=>by
  by_cases e:j=n+1
  ·subst e
   show ck (n+1) (jr (n+1) g)*g (n+1)=ck (n+1) g*g (n+1);rw [vG fun i hi=>by unfold jr;rw [aq hi]]
  ·have ih:=Ce n j g (by lia)
   show ck n (jr j g)*jr j g n*g j=ck (n+1) g*g (n+1);have:jr j g n=g (n+1):=by unfold jr;rw [ar (by lia)]
   rw [this,Nat.mul_right_comm,ih]
theorem vH:∀(n x:Nat) (g:Nat→Nat),ck (n+1) (vF x g)=x*ck n g
 | 0,x,g=>by show 1*x=x*1;lia
 | n+1,x,g=>by show ck (n+1) (vF x g)*g n=x*(ck n g*g n);rw [vH n x g,uS]
theorem HG(j:Nat):(sgn j).natAbs=1:=by unfold sgn;split <;> rfl
theorem yC:∀(C:List Nat) (v:aE) (g:Nat→Nat),(∀i c,(v i c).natAbs≤g i)→(aC C v).natAbs≤bO C.length*ck C.length g
 | [],_,_,_=>by show (1:Int).natAbs≤1*1;decide
 | c::C,v,g,h=>by
  rw [vE];refine aN (Cd (M:=bO C.length*ck (C.length+1) g) _ _ fun j hj=>?_) (qQ ?_)
  ·rw [je,je,HG,Nat.one_mul]
   have d:=yC C (bj j v) (jr j g) fun i c'=>by
    unfold bj jr
    split
    ·exact h _ _
    ·exact h _ _
   refine aN (kF (h j c) d) (qQ ?_);rw [←Ce C.length j g (by lia),Nat.mul_left_comm,Nat.mul_comm (g j)]
  ·rw [cx,bO,uS]
variable {g:Nat→Nat}
theorem QM(h:∀i c,(R i c).natAbs≤g i)(c k:Nat):(iY C R c k).natAbs≤C.length*(bO C.length*ck C.length g):=by
 have e:iY C R c k=ah C.length fun i=>R i k*(-(sgn i)*aC C (aL (fX c) (bj i R))):=by unfold iY;rw [nZ];lia
 rw [e];refine Cd _ _ fun i hi=>?_;rw [je,je,oQ,HG,Nat.one_mul];have d:=yC C (aL (fX c) (bj i R)) (vF 1 (jr i g)) fun j c'=>by
  cases j with
  | zero=>
   show (fX c c').natAbs≤1;unfold fX
   split <;> decide
  | succ j=>
   show (bj i R j c').natAbs≤jr i g j;unfold bj jr
   split
   ·exact h _ _
   ·exact h _ _
 refine aN (kF (h i k) d) (qQ ?_);obtain ⟨m,em⟩:∃m,C.length=m+1:=⟨C.length-1,by lia⟩
 rw [em,vH,Nat.one_mul,←Ce m i g (by lia),Nat.mul_left_comm,Nat.mul_comm (g i)]
theorem Cf:∀{n:Nat} {g:Nat→Nat},(∀i,1≤g i)→1≤ck n g
 | 0,_,_=>aI _
 | n+1,g,h=>kF (Cf h) (h n)
theorem HH:∀n,1≤bO n
 | 0=>aI _
 | n+1=>kF (by lia:1≤n+1) (HH n)
theorem yE:∀{m n:Nat},m≤n→bO m≤bO n
 | m,n,h=>by
  by_cases e:m=n;·rw [e];exact aI _
  ·obtain ⟨n',rfl⟩:∃n',n=n'+1:=⟨n-1,by lia⟩
   exact aN (yE (by lia)) (qZ _ (by lia))
def setG(g:Nat→Nat)(r x:Nat):Nat→Nat:=fun i=>if i=r then x else g i
theorem se:∀(n r:Nat) (g:Nat→Nat),r<n→ck n (setG g r 1)*g r=ck n g
 | 0,_,_,h=>by lia
 | n+1,r,g,h=>by
  show ck n (setG g r 1)*setG g r 1 n*g r=ck n g*g n;by_cases e:r=n
  ·subst e
   rw [show setG g r 1 r=1 from aq rfl,Nat.mul_one,show ck r (setG g r 1)=ck r g from vG fun i hi=>ar (by lia)]
  ·rw [show setG g r 1 n=g n from ar (fun z=>e z.symm),Nat.mul_right_comm,se n r g (by lia)]
def iZ(r n:Nat)(g:Nat→Nat):Nat:=ck (n-r) fun i=>g (r+i)
variable {r n:Nat}
theorem QN(h:r<n)(g:Nat→Nat):iZ r n g=g r*iZ (r+1) n g:=by
 unfold iZ;obtain ⟨m,e⟩:∃m,n-r=m+1:=⟨n-r-1,by lia⟩
 rw [e,show n-(r+1)=m by lia,←vH]
 refine vG fun i _=>?_;cases i with
 | zero=>rfl
 | succ i=>show g (r+(i+1))=g (r+1+i);congr 1;lia
def iz(g:Nat→Nat)(r s:Nat):Nat→Nat:=fun i=>if i=s then g r else if i=r then g s else g i
variable {s:Nat}
theorem QO(hr:r<n)(hs:r≤s)(sn:s<n)(g:Nat→Nat):iZ r n (iz g r s)=iZ r n g:=by
 by_cases e:s=r
 ·subst e
  have:iz g s s=g:=funext fun i=>by unfold iz;split <;> simp_all
  rw [this]
 ·unfold iZ
  have h1:=se (n-r) 0 (fun i=>g (r+i)) (by lia)
  have h2:=se (n-r) (s-r) (setG (fun i=>g (r+i)) 0 1) (by lia)
  have k1:=se (n-r) 0 (fun i=>iz g r s (r+i)) (by lia)
  have k2:=se (n-r) (s-r) (setG (fun i=>iz g r s (r+i)) 0 1) (by lia)
  have a1:setG (fun i=>g (r+i)) 0 1 (s-r)=g s:=by
   show (if s-r=0 then 1 else g (r+(s-r)))=g s
   rw [ar (by lia),show r+(s-r)=s by lia]
  have b1:setG (fun i=>iz g r s (r+i)) 0 1 (s-r)=g r:=by
   show (if s-r=0 then 1 else iz g r s (r+(s-r)))=g r
   rw [ar (by lia),show r+(s-r)=s by lia]
   exact aq rfl
  have b2:iz g r s (r+0)=g s:=by unfold iz;rw [ar (by lia),aq (by lia)]
  have c:setG (setG (fun i=>iz g r s (r+i)) 0 1) (s-r) 1=setG (setG (fun i=>g (r+i)) 0 1) (s-r) 1:=funext fun i=>by
   unfold setG iz;by_cases z1:i=s-r;·rw [aq z1,aq z1]
   ·rw [ar z1,ar z1]
    by_cases z2:i=0;·rw [aq z2,aq z2]
    ·rw [ar z2,ar z2]
     dsimp only;rw [ar (by lia),ar (by lia)]
  rw [←h1,←k1,←h2,←k2,c,a1,b1];rw [b2,show r+0=r from rfl,Nat.mul_right_comm]
def Made(q:Int)(n:Nat)(A:aE)(f:Nat→Int):Prop:=∃(e:Int) (x:Nat→Int),¬q∣e∧∀k,Cg q (e*f k) (ah n fun t=>x t*A t k)
theorem vI(hq:bg q):¬q∣1:=fun h=>by
 rcases hq with rfl | ⟨h2,_⟩
 ·have:=lI.mp h
  lia
 ·have:=oS (by decide) h
  lia
theorem QP{t:Nat}(ht:t<n)(f:Nat→Int):(ah n fun i=>(if i=t then 1 else 0)*f i)=f t:=by
 have e:(fun i=>(if i=t then (1:Int) else 0)*f i)=fun i=>if i=t then f i else 0:=funext fun i=>by
  by_cases h:i=t;·rw [aq h,aq h,jH]
  ·rw [ar h,ar h,kD]
 rw [e,nY n t f ht]
theorem sf(hq:bg q){t:Nat}(ht:t<n)(A:aE):Made q n A (A t):=
 ⟨1,fun i=>if i=t then 1 else 0,vI hq,fun k=>Cg.of_eq (by rw [QP ht fun i=>A i k];lia)⟩
variable {A:aE} {f:Nat→Int} {u:Int}
theorem yF(hq:bg q){g:Nat→Int}(nu:¬q∣u)(hf:Made q n A f)(hg:Made q n A g)(e:∀k,Cg q (u*h k) (a*f k-b*g k)):Made q n A h:=by
 obtain ⟨e1,x,n1,h1⟩:=hf;obtain ⟨e2,y,n2,h2⟩:=hg;refine ⟨e1*e2*u,fun t=>a*e2*x t-b*e1*y t,mj hq (mj hq n1 n2) nu,fun k=>?_⟩;have z1:=(e k).mulL (e1*e2);have z2:=(h1 k).mulL (a*e2);have z3:=(h2 k).mulL (b*e1);have z4:=z2.sub z3;rw [show (fun t=>(a*e2*x t-b*e1*y t)*A t k)=fun t=>a*e2*(x t*A t k) + -(b*e1)*(y t*A t k) from funext fun t=>by grind,kg,←cB,←cB]
 refine (Cg.of_eq (by grind)).trans (z1.trans ((Cg.of_eq ?_).trans (z4.trans (Cg.of_eq ?_))))
 ·grind
 ·grind
structure eE (q:Int) (n:Nat) (A M:aE) (L:List Nat) (cur:Nat):Prop where
 len:L.length≤n
 lt:∀c∈L,c<cur
 up:L.Pairwise (· < ·)
 lead:∀j,j<L.length→¬q∣M j (L.getD j 0)
 off:∀i j,i<n→j<L.length→i≠j→Cg q (M i (L.getD j 0)) 0
 low:∀i k,i<n→L.length≤i→k<cur→Cg q (M i k) 0
 sg:∀j k,j<L.length→k<L.getD j 0→Cg q (M j k) 0
 pF:∀i,i<n→Made q n A (M i)
 ofM:∀t,t<n→Made q n M (A t)
theorem eE.start(hq:bg q)(n:Nat)(A:aE):eE q n A A [] 0:=
 ⟨cT _,fun _ h=>by simp at h,.nil,fun _ h=>by simp at h,fun _ _ _ h=>by simp at h,fun _ _ _ _ h=>by lia,fun _ _ h=>by simp at h,fun i hi=>sf hq hi A,fun i hi=>sf hq hi A⟩
variable {M:aE} {L:List Nat} {cur:Nat}
theorem eE.skip(h:eE q n A M L cur)(z:∀i,i<n→L.length≤i→Cg q (M i cur) 0):eE q n A M L (cur+1):=
 ⟨h.len,fun c hc=>Nat.lt_succ_of_lt (h.lt c hc),h.up,h.lead,h.off,fun i k hi hl hk=>by
  by_cases e:k=cur;·rw [e];exact z i hi hl
  ·exact h.low i k hi hl (by lia),h.sg,h.pF,h.ofM⟩
theorem HI(hq:bg q)(n:Nat)(A:aE):Made q n A fun _=>0:=
 ⟨1,fun _=>0,vI hq,fun k=>Cg.of_eq (by rw [show (fun t=>(0:Int)*A t k)=fun _=>0 from funext fun t=>kD _,gI];rfl)⟩
theorem HJ{q:Int}(hq:bg q){n:Nat}{A:aE}(y:Nat→Int)(g:aE):∀m,(∀i,i<m→Made q n A (g i))→Made q n A fun k=>ah m fun i=>y i*g i k
 | 0,_=>HI hq n A
 | m+1,h=>yF hq (u:=1) (a:=1) (b:=-(y m)) (vI hq) (HJ hq y g m fun i hi=>h i (by lia)) (h m (by lia)) fun k=>Cg.of_eq (by rw [k8];grind)
theorem HK(hq:bg q){m:Nat}{B:aE}(h:∀i,i<m→Made q n A (B i))(hf:Made q m B f):Made q n A f:=by obtain ⟨e,y,ne,hy⟩:=hf;exact yF hq (u:=e) (a:=1) (b:=0) ne (HJ hq y B m h) (HI hq n A) fun k=>(hy k).trans (Cg.of_eq (by grind))
theorem jt{x:Int}(hq:bg q)(nu:¬q∣u)(h:Cg q (u*x) 0):Cg q x 0:=by unfold Cg at h ⊢;rw [Int.sub_zero] at h ⊢;exact AS fun nx=>mj hq nu nx h
variable {M':aE}
theorem eE.swap(hq:bg q)(h:eE q n A M L cur)(hs:L.length≤s)(sn:s<n)(e1:M' L.length=M s)(e2:M' s=M L.length)(e3:∀i,i≠L.length→i≠s→M' i=M i):eE q n A M' L cur:=by
 have rn:L.length<n:=by lia
 have up:∀i,i<n→∃i',i'<n∧M' i=M i'∧(i<L.length→i'=i)∧(L.length≤i→L.length≤i'):=fun i hi=>by
  by_cases z1:i=L.length;·exact ⟨s,sn,by rw [z1,e1],fun _=>by lia,fun _=>hs⟩
  ·by_cases z2:i=s
   ·exact ⟨L.length,rn,by rw [z2,e2],fun _=>by lia,fun _=>aI _⟩
   ·exact ⟨i,hi,e3 i z1 z2,fun _=>rfl,fun z=>z⟩
 have dn:∀i,i<n→∃i',i'<n∧M i=M' i':=fun i hi=>by
  by_cases z1:i=L.length;·exact ⟨s,sn,by rw [z1,e2]⟩
  ·by_cases z2:i=s
   ·exact ⟨L.length,rn,by rw [z2,e1]⟩
   ·exact ⟨i,hi,(e3 i z1 z2).symm⟩
 refine ⟨h.len,h.lt,h.up,fun j hj=>?_,fun i j hi hj ne=>?_,fun i k hi hl hk=>?_,fun j k hj hk=>?_,fun i hi=>?_,fun t ht=>?_⟩
 ·rw [e3 j (by lia) (by lia)]
  exact h.lead j hj
 ·obtain ⟨i',h1,h2,h3,h4⟩:=up i hi
  rw [h2];refine h.off i' j h1 hj fun z=>?_;by_cases y:i<L.length;·have:=h3 y;lia
  ·have:=h4 (by lia);lia
 ·obtain ⟨i',h1,h2,h3,h4⟩:=up i hi
  rw [h2];exact h.low i' k h1 (h4 hl) hk
 ·rw [e3 j (by lia) (by lia)]
  exact h.sg j k hj hk
 ·obtain ⟨i',h1,h2,_⟩:=up i hi
  rw [h2];exact h.pF i' h1
 ·refine HK hq (fun i hi=>?_) (h.ofM t ht)
  obtain ⟨i',h1,h2⟩:=dn i hi;rw [h2];exact sf hq h1 M'
theorem eE.step(hq:bg q)(h:eE q n A M L c)(rn:L.length<n)(nu:¬q∣u)(np:¬q∣M L.length c)(eh:M' L.length=M L.length)
  (e:∀i k,i<n→i≠L.length→Cg q (u*M' i k) (M L.length c*M i k-M i c*M L.length k)):eE q n A M' (L++[c]) (c+1):=by
 have g1:∀j,j<L.length→(L++[c]).getD j 0=L.getD j 0:=fun j hj=>by rw [bq,eX hj,←bq]
 have g2:(L++[c]).getD L.length 0=c:=by rw [bq,fE (aI _),jG];rfl
 have HL:∀i,i<n→i≠L.length→Cg q (M' i c) 0:=fun i hi ne=>jt hq nu ((e i c hi ne).trans (Cg.of_eq (by grind)))
 have QQ:(L++[c]).length=L.length+1:=by simp
 refine ⟨by lia,fun c' dJ=>?_,?_,fun j hj=>?_,fun i j hi hj ne=>?_,fun i k hi hl hk=>?_,fun j k hj hk=>?_,fun i hi=>?_,fun t ht=>?_⟩
 ·rcases lC.mp dJ with z | z
  ·exact Nat.lt_succ_of_lt (h.lt c' z)
  ·rw [g_.mp z];lia
 ·rw [List.pairwise_append]
  exact ⟨h.up,List.pairwise_singleton ..,fun a ha b hb=>by rw [g_.mp hb];exact h.lt a ha⟩
 ·by_cases z:j=L.length
  ·rw [z,g2,eh];exact np
  ·rw [g1 j (by lia)]
   intro d;have w:=e j (L.getD j 0) (by lia) z
   have o:=(h.off L.length j rn (by lia) (Ne.symm z)).mulL (M j c)
   have w2:=w.trans ((Cg.refl (M L.length c*M j (L.getD j 0))).sub o);rw [cy,Int.sub_zero] at w2;exact w2.nz (mj hq np (h.lead j (by lia))) (iF d (oO ..))
 ·by_cases z:j=L.length
  ·rw [z,g2]
   exact HL i hi (by lia)
  ·rw [g1 j (by lia)]
   by_cases y:i=L.length
   ·rw [y,eh]
    exact h.off L.length j rn (by lia) (Ne.symm z)
   ·have w:=e i (L.getD j 0) hi y
    have vJ:=(h.off i j hi (by lia) ne).mulL (M L.length c)
    have o2:=(h.off L.length j rn (by lia) (Ne.symm z)).mulL (M i c)
    exact jt hq nu (w.trans ((vJ.sub o2).trans (Cg.of_eq (by simp))))
 ·rw [QQ] at hl
  by_cases z:k=c;·rw [z];exact HL i hi (by lia)
  ·have w:=e i k hi (by lia)
   have vJ:=(h.low i k hi (by lia) (by lia)).mulL (M L.length c)
   have o2:=(h.low L.length k rn (aI _) (by lia)).mulL (M i c)
   exact jt hq nu (w.trans ((vJ.sub o2).trans (Cg.of_eq (by simp))))
 ·by_cases z:j=L.length
  ·rw [z,g2] at hk
   rw [z,eh];exact h.low L.length k rn (aI _) hk
  ·rw [g1 j (by lia)] at hk
   have eP:j<L.length:=by lia
   have hc:L.getD j 0<c:=h.lt _ (by rw [getD_at eP];exact a7 _)
   have w:=e j k (by lia) z
   have vJ:=(h.sg j k eP hk).mulL (M L.length c);have o2:=(h.low L.length k rn (aI _) (by lia)).mulL (M j c)
   exact jt hq nu (w.trans ((vJ.sub o2).trans (Cg.of_eq (by simp))))
 ·by_cases z:i=L.length
  ·rw [z,eh];exact h.pF _ rn
  ·exact yF hq nu (h.pF i hi) (h.pF _ rn) fun k=>e i k hi z
 ·refine HK hq (fun i hi=>?_) (h.ofM t ht)
  by_cases z:i=L.length;·rw [z,←eh];exact sf hq rn M'
  ·refine yF hq (u:=M L.length c) (a:=u) (b:=-(M i c)) np (sf hq hi M') (sf hq rn M') fun k=>?_
   have w:=e i k hi z;have w2:=(Cg.refl (M i c*M L.length k)).add w.symm;rw [eh];exact (Cg.of_eq (by grind)).trans (w2.trans (Cg.of_eq (by grind)))
theorem Ci{q:Int}{f:Nat→Int}{m:Nat}:∀{n:Nat},m≤n→(∀i,m≤i→i<n→Cg q (f i) 0)→Cg q (ah n f) (ah m f)
 | n,h,z=>by
  by_cases e:n=m;·rw [e];exact Cg.refl _
  ·obtain ⟨n',rfl⟩:∃n',n=n'+1:=⟨n-1,by lia⟩
   rw [k8];have a:=(Ci (n:=n') (by lia) fun i h1 h2=>z i h1 (by lia)).add (z n' (by lia) (by lia))
   rw [Int.add_zero] at a;exact a
theorem eE.done{W:Nat}(h:eE q n A M L W){t:Nat}(ht:t<n) :
  ∃(e:Int) (y:Nat→Int),¬q∣e∧(∀k,k<W→Cg q (e*A t k) (ah L.length fun j=>y j*M j k))∧∀j,j<L.length→Cg q (e*A t (L.getD j 0)) (y j*M j (L.getD j 0)):=by
 obtain ⟨e,y,ne,hy⟩:=h.ofM t ht;have sm:∀k,k<W→Cg q (e*A t k) (ah L.length fun j=>y j*M j k):=fun k hk=>(hy k).trans (Ci h.len fun i h1 h2=>by have:=(h.low i k h2 h1 hk).mulL (y i);rw [cy] at this;exact this)
 refine ⟨e,y,ne,sm,fun j hj=>?_⟩;have hc:L.getD j 0<W:=h.lt _ (by rw [getD_at hj];exact a7 _)
 refine (sm _ hc).trans ?_;have z:Cg q (ah L.length fun i=>y i*M i (L.getD j 0)) (ah L.length fun i=>if i=j then y i*M i (L.getD j 0) else 0):=ed fun i hi=>by
  by_cases e:i=j;·rw [aq e];exact Cg.refl _
  ·rw [ar e]
   have:=(h.off i j (cw hi h.len) hj e).mulL (y i);rw [cy] at this;exact this
 rw [nY L.length j (fun i=>y i*M i (L.getD j 0)) hj] at z;exact z
structure fN (P n:Nat) (M:aE) (C:List Nat) (R:aE) (g G:Nat→Nat):Prop where
 sp:n5 C R
 d0:aC C R≠0
 vK:∀j,j<C.length→M j=iY C R (C.reverse.getD j 0)
 aO:∀i,C.length≤i→i<n→∃f,(∀k,(f k).natAbs≤G i)∧M i=gJ C R f
 len:C.length≤n
 bR:∀i k,(R i k).natAbs≤g i
 pos:∀i,1≤G i
 vL:ck C.length g*iZ C.length n G≤P
variable {P:Nat} {G:Nat→Nat}
theorem fN.start(A:aE)(hb:∀i k,(A i k).natAbs≤G i)(pos:∀i,1≤G i)(hP:ck n G≤P):fN P n A [] (fun _ _=>0) (fun _=>1) G:=
 ⟨QG _,by show (1:Int)≠0;decide,fun j hj=>by simp at hj,fun i _ _=>⟨A i,hb i,funext fun k=>(QI _ (A i) k).symm⟩,cT _,fun _ _=>by simp,pos,by show 1*iZ 0 n G≤P;unfold iZ;rw [Nat.one_mul];refine aN (qQ (vG fun i _=>?_)) hP;rw [Nat.zero_add]⟩
theorem fN.swap(h:fN P n M C R g G)(hs:C.length≤s)(sn:s<n)(e1:M' C.length=M s)(e2:M' s=M C.length)(e3:∀i,i≠C.length→i≠s→M' i=M i):fN P n M' C R g (iz G C.length s):=by
 refine ⟨h.sp,h.d0,fun j hj=>?_,fun i hi hn=>?_,h.len,h.bR,fun i=>?_,?_⟩;·rw [e3 j (by lia) (by lia)];exact h.vK j hj
 ·unfold iz
  by_cases z1:i=s;·rw [aq z1,z1,e2];exact h.aO _ (aI _) (by lia)
  ·rw [ar z1]
   by_cases z2:i=C.length;·rw [aq z2,z2,e1];exact h.aO s hs sn
   ·rw [ar z2,e3 i z2 z1];exact h.aO i hi hn
 ·unfold iz
  split
  ·exact h.pos _
  ·split
   ·exact h.pos _
   ·exact h.pos _
 ·rw [QO (by lia) hs sn]
  exact h.vL
variable {i:Nat}
theorem fN.QR(h:fN P n M C R g G)(rn:C.length<n)(nc:c∉C)(hi:i<n)(ne:i≠C.length) :
  ∃g:Nat→Int,∀k,M C.length c*M i k-M i c*M C.length k=aC C R*g k:=by
 obtain ⟨f,_,ef⟩:=h.aO _ (aI _) rn;by_cases z:i<C.length
 ·have e:=h.vK i z
  have ne':c≠C.reverse.getD i 0:=fun e=>nc (by
   rw [e];have hl:i<C.reverse.length:=by simpa using z
   rw [getD_at hl];exact xo.mp (a7 hl))
  refine ⟨iY (c::C) (aL f R) (C.reverse.getD i 0),fun k=>?_⟩;rw [e,ef];exact HF h.sp f ne' k
 ·obtain ⟨f',_,Cj⟩:=h.aO i (by lia) hi
  refine ⟨gJ (c::C) (aL f R) f',fun k=>?_⟩;rw [Cj,ef];exact HE h.sp f' f c k
theorem fN.step(h:fN P n M C R g G)(rn:C.length<n)(nc:c∉C)(np:M C.length c≠0)(eh:M' C.length=M C.length)
  (e:∀i k,i<n→i≠C.length→aC C R*M' i k=M C.length c*M i k-M i c*M C.length k):∃R' g',fN P n M' (c::C) R' g' G∧aC (c::C) R'=M C.length c:=by
 obtain ⟨f,bf,ef⟩:=h.aO _ (aI _) rn;have ep:aC (c::C) (aL f R)=M C.length c:=by rw [ef];rfl
 have hp:aC (c::C) (aL f R)≠0:=by rw [ep];exact np
 refine ⟨aL f R,vF (G C.length) g,⟨QH h.sp h.d0 hp,hp,fun j hj=>?_,fun i hi hn=>?_,rn,fun i k=>?_,h.pos,?_⟩,ep⟩
 ·rw [List.reverse_cons]
  by_cases z:j=C.length
  ·have g:(C.reverse++[c]).getD j 0=c:=by
    rw [z,bq,fE (by simp)]
    simp
   rw [g,z,eh,ef];exact funext fun k=>(QL h.sp h.d0 f nc k).symm
  ·have eP:j<C.length:=by simp at hj;lia
   have hl:j<C.reverse.length:=by simpa using eP
   have g:(C.reverse++[c]).getD j 0=C.reverse.getD j 0:=by rw [bq,eX hl,←bq]
   rw [g];have ne':c≠C.reverse.getD j 0:=fun e=>nc (by rw [e,getD_at hl];exact xo.mp (a7 hl))
   funext k
   have w:=e j k (by lia) z
   rw [h.vK j eP,ef,HF h.sp f ne' k] at w;exact mY h.d0 w
 ·have ne:i≠C.length:=by simp at hi;lia
  obtain ⟨f',QS,Cj⟩:=h.aO i (by simp at hi;lia) hn
  refine ⟨f',QS,funext fun k=>?_⟩;have w:=e i k hn ne;rw [Cj,ef,HE h.sp f' f c k] at w;exact mY h.d0 w
 ·cases i with
  | zero=>exact bf k
  | succ i=>exact h.bR i k
 ·rw [cx,vH,uS,Nat.mul_left_comm,←QN rn]
  exact h.vL
theorem HM(h:∀i,1≤g i):1≤iZ r n g:=Cf fun i=>h (r+i)
theorem HN(h:∀i,1≤g i)(hi:r≤i)(hn:i<n):g i≤iZ r n g:=by
 unfold iZ;rw [←se (n-r) (i-r) (fun j=>g (r+j)) (by lia)]
 rw [show r+(i-r)=i by lia]
 exact qZ _ (Cf fun j=>by
  unfold setG
  split
  ·exact aI _
  ·exact h _)
theorem fN.bd(h:fN P n M C R g G)(hi:i<n)(k:Nat):(M i k).natAbs≤n*(bO n*P):=by
 by_cases z:i<C.length
 ·rw [h.vK i z]
  refine aN (QM h.bR _ k) (kF h.len (kF (yE h.len) ?_));exact aN (AU _ (HM h.pos)) h.vL
 ·obtain ⟨f,bf,ef⟩:=h.aO i (by lia) hi
  rw [ef];have d:=yC (k::C) (aL f R) (vF (G i) g) fun j c=>by
   cases j with
   | zero=>exact bf c
   | succ j=>exact h.bR j c
  rw [cx,vH] at d;refine aN d (aN (kF (yE (show C.length+1≤n by lia)) ?_) (qZ _ (by lia)))
  rw [Nat.mul_comm];exact aN (Nat.mul_le_mul_left _ (HN h.pos (by lia) hi)) h.vL
theorem fN.HP(h:fN P n M C R g G)(n0:1≤n):(aC C R).natAbs≤n*(bO n*P):=by refine aN (yC C R g h.bR) (aN (kF (yE h.len) ?_) (qZ _ n0));exact aN (AU _ (HM h.pos)) h.vL
theorem fN.lead(h:fN P n M C R g G)(hj:j<C.length):M j (C.reverse.getD j 0)=aC C R:=by
 have hl:j<C.reverse.length:=by simpa using hj
 rw [h.vK j hj,QJ _ _ (by rw [getD_at hl];exact xo.mp (a7 hl)),aq rfl]
end My
namespace L2
open PySem PySem.Spec PyProof.Rows
theorem HQ{xs ys:List Int}(h:xs.length=ys.length):((List.range xs.length).all fun j=>fI (.int (xs.getD j 0)) (.int (ys.getD j 0)))=decide (xs=ys):=by
 by_cases e:xs=ys
 ·subst e
  rw [cN rfl,oH];intro j _;exact yq rfl
 ·rw [dI e]
  cases z:((List.range xs.length).all fun j=>fI (.int (xs.getD j 0)) (.int (ys.getD j 0))) with
  | false=>rfl
  | true=>refine absurd (kG h fun j h1 h2=>?_) e;have:=oH.mp z j (gM.mpr h1);have this:(xs.getD j 0 == ys.getD j 0)=true:=this;rw [kA,bq,bq] at this;simpa [h1,h2] using this
end L2
namespace My
open PySem L2
def HR(H:Hp)(a:Addr)(n W:Nat)(M:aE):Prop:=∃vs:List V,H a=some (.lst vs)∧vs.length=n∧∀(i:Nat) (v:V),vs[i]?=some v→∃x:Addr,v=.ref x∧H x=some (.lst (((List.range W).map (M i)).map V.int))
def i5(H:Hp)(a l:Addr)(n W:Nat)(M:aE):Prop:=∃vs:List V,H a=some (.lst vs)∧vs.length=n∧a≠l∧∀(i:Nat) (v:V),vs[i]?=some v→∃x:Addr,v=.ref x∧x≠a∧x≠l∧H x=some (.lst (((List.range W).map (M i)).map V.int))
variable {H H':Hp} {a l:Addr} {n W:Nat} {M:aE}
theorem i5.mono(h:i5 H a l n W M)(s:af H H'):i5 H' a l n W M:=by obtain ⟨vs,e,l,ne,k⟩:=h;exact ⟨vs,s _ _ e,l,ne,fun i v hv=>by obtain ⟨x,e1,n1,n2,e2⟩:=k i v hv;exact ⟨x,e1,n1,n2,s _ _ e2⟩⟩
theorem i5.rows(h:i5 H a l n W M):HR H a n W M:=by obtain ⟨vs,e,l,ne,k⟩:=h;exact ⟨vs,e,l,fun i v hv=>by obtain ⟨x,e1,n1,n2,e2⟩:=k i v hv;exact ⟨x,e1,e2⟩⟩
theorem i5.off(h:i5 H a l n W M)(o:HO):i5 (upd H l o) a l n W M:=by obtain ⟨vs,e,l,ne,k⟩:=h;exact ⟨vs,by rw [aH ne];exact e,l,ne,fun i v hv=>by obtain ⟨x,e1,n1,n2,e2⟩:=k i v hv;exact ⟨x,e1,n1,n2,by rw [aH n2];exact e2⟩⟩
variable {c:Nat}
theorem vM(hc:c<W)(f:Nat→Int):eO (((List.range W).map f).map V.int) (c:Int)=some (.int (f c)):=e8 (by simp [hc])
def dQ(M:aE)(r s:Nat):Nat→Nat→Int:=fun i=>if i=s then M r else if i=r then M s else M i
def QT:Sp:=fun vs H Q _=>∃(a:Addr) (n W r c:Nat) (M:aE),vs=[.ref a,.int (r:Int),.int (c:Int)]∧HR H a n W M∧r≤n∧n≤100∧c<W∧(∀s,r≤s→s<n→M s c≠0→Q (.int (s:Int)) H)∧((∀s,r≤s→s<n→M s c=0)→Q .aO H)
def QU:Sp:=fun vs H Q _=>∃(a l:Addr) (n W r s:Nat) (M:aE),vs=[.ref a,.int (r:Int),.int (s:Int)]∧i5 H a l n W M∧(∃o,H l=some o)∧r<n∧s<n∧∀(b:Addr) (H':Hp),af H H'→H b=none→i5 H' b l n W (dQ M r s)→Q (.ref b) H'
def QV(C:Addr):Sp:=fun vs H Q _=>∃(z a b:Addr) (q last:Int) (W c:Nat) (f g e:Nat→Int),vs=[.ref z,.ref a,.ref b,.int (c:Int),.int last]∧fV C H z q∧bg q∧H a=some (.lst (((List.range W).map f).map V.int))∧H b=some (.lst (((List.range W).map g).map V.int))∧c<W∧W≤100∧(∀k,k<W→bE (f k)∧bE (g k))∧bE last∧last≠0 ∧
 (q=0→∀k,k<W→g c*f k-f c*g k=last*e k)∧(q≠0→∀k,k<W→e k=(g c*f k-f c*g k) % q)∧∀(r:Addr) (H':Hp),af H H'→H r=none→H' r=some (.lst (((List.range W).map e).map V.int))→Q (.ref r) H'
theorem HS(W:Nat)(f g:Nat→Int)(h:Int→Int→Int):((((List.range W).map f).zip ((List.range W).map g)).map fun ab=>h ab.1 ab.2)=(List.range W).map fun k=>h (f k) (g k):=by rw [List.zip_map',oU];rfl
theorem HU{K:aA}{wi:TI}{ρ:St→St}{te:TE}{σ:St}{Q:VK}{xs ys:List Int}(g:Int→Int→Int)(hn:xs.length≤500)
  (gk:∀R:It→Hp→Prop,(∀J H1,af H H1→yt J ((xs.map V.int).zip (ys.map V.int)) H1→R J H1)→wi σ H R)
  (step:∀x y,(x,y)∈xs.zip ys→∀(Hc:Hp) (R:VK),af H Hc→(∀H3,af Hc H3→R (.int (g x y)) H3)→te (some (.int x)::some (.int y)::ρ σ) Hc R)
  (fin:∀D Hc,H D=none→af H Hc→Hc D=some (.lst (((xs.zip ys).map fun ab=>g ab.1 ab.2).map V.int))→Q (.ref D) Hc):pC K wi ρ (fun _ H Q=>Q true H) te σ H Q:=by
 have lz:((xs.map V.int).zip (ys.map V.int)).length=(xs.zip ys).length:=by simp [jI]
 have at':∀(i:Nat) (v u:V),((xs.map V.int).zip (ys.map V.int))[i]?=some (v,u)→∃x y,(xs.zip ys)[i]?=some (x,y)∧v=.int x∧u=.int y:=fun i v u e=>by
  obtain ⟨h1,h2⟩:=mX.mp e;rw [bo] at h1 h2;cases e1:xs[i]? with
  | none=>rw [e1] at h1;cases h1
  | some x=>
   cases e2:ys[i]? with
   | none=>rw [e2] at h2;cases h2
   | some y=>rw [e1] at h1;rw [e2] at h2;cases h1;cases h2;exact ⟨x,y,mX.mpr ⟨e1,e2⟩,rfl,rfl⟩
 refine yB (Z:=fun zs _=>zs=(xs.map V.int).zip (ys.map V.int)) (fun R h=>gk R fun J H1 s1 js=>h J H1 _ s1 js (by rw [lz,jI];exact b_ (by lia)) rfl) (fun _ i v _=>∃x y,(xs.zip ys)[i]?=some (x,y)∧v=.int (g x y)) (fun _ _ _ _ _ _ h _ _=>h) ?_ ?_
 ·rintro zs H1 rfl s1 D i v u hi Hc R sc _ kc
  obtain ⟨x,y,e,rfl,rfl⟩:=at' i v u hi;exact step x y (mS e) Hc R (s1.trans sc) fun H3 s3=>kc _ H3 s3 ⟨x,y,e,rfl⟩
 ·rintro zs H1 rfl s1 D vs Hc nD sc Ck hP eD
  have ey:vs=((xs.zip ys).map fun ab=>g ab.1 ab.2).map V.int:=yy (by rw [Ck,lz,aD]) fun i v e=>by obtain ⟨x,y,e1,e2⟩:=hP i v e;exact ⟨g x y,by rw [bo,e1];rfl,e2⟩
  rw [ey] at eD;exact fin D Hc nD (s1.trans sc) eD
def QW(C:Addr):Sp:=fun vs H Q _=>∃(z a:Addr) (q:Int) (W c:Nat) (f:Nat→Int) (B:Nat),vs=[.ref z,.ref a,.int (c:Int)]∧fV C H z q∧bg q∧H a=some (.lst (((List.range W).map f).map V.int))∧c<W∧W≤100∧¬q∣f c∧bE (f c)∧(∀k,k<W→(f k).natAbs≤B) ∧
 ∀(r:Addr) (ps:a8) (H':Hp),af H H'→H r=none→b6 B H' q r ps→ps.length=W→(∀i,i<W→bM q (ps.getD i o1) (f i,f c))→Q (.ref r) H'
def cn(B:Nat)(H:Hp)(q:Int)(a:Addr)(ae:bu):Prop:=∃vs:List V,H a=some (.lst vs)∧vs.length=ae.length∧∀(i:Nat) (v:V) (ps:a8),vs[i]?=some v→ae[i]?=some ps→∃r:Addr,v=.ref r∧b6 B H q r ps
variable {B:Nat} {q:Int} {ae:bu}
theorem cn.mono(h:cn B H q a ae)(s:af H H'):cn B H' q a ae:=by obtain ⟨vs,e,l,k⟩:=h;exact ⟨vs,s _ _ e,l,fun i v ps h1 h2=>by obtain ⟨r,e1,e2⟩:=k i v ps h1 h2;exact ⟨r,e1,e2.mono s⟩⟩
def QX(N:Addr):Sp:=fun vs H Q E=>∃(a:Addr) (q:Int) (B:Nat) (ae:bu) (m:Nat),vs=[.ref a]∧cn B H q a ae∧1≤ae.length∧ae.length≤40∧(∀ps∈ae,ps.length=m)∧∀H',af H H'→Q (.int (m:Int)) H'
def QY:Sp:=fun vs H Q _=>∃(a b:Addr) (q:Int) (B:Nat) (ae aw:bu) (m u:Nat),vs=[.ref a,.ref b]∧cn B H q a ae∧cn B H q b aw∧ae.length=aw.length∧ae.length≤40∧(∀ps∈ae,ps.length=m)∧(∀ps∈aw,ps.length=u)∧m≤40∧u≤40∧∀(r:Addr) (H':Hp),af H H'→H r=none→cn B H' q r (List.zipWith (·++·) ae aw)→Q (.ref r) H'
def ju(q:Int)(E:Nat)(ps:a8):Prop:=∃(D:Int) (x:Nat→Int),a9 q D∧D.natAbs≤E∧(∀p∈ps,p.2∣D)∧∀i,i<ps.length→(ps.getD i o1).1*D=x i*(ps.getD i o1).2∧(x i).natAbs≤E
variable {b D x:Int} {E:Nat}
theorem QZ{t u m:Int}(e1:t*m=u*b)(e2:u*D=x*m)(hb:b∣D)(m0:m≠0)(b0:b≠0)(D0:D≠0)(hx:x.natAbs≤E):t.natAbs≤E:=by
 obtain ⟨e,rfl⟩:=hb;have e0:e≠0:=fun z=>D0 (by rw [z,cy])
 have h:m*(b*(t*e))=m*(b*x):=by
  have:t*m*(b*e)=u*b*(b*e):=by rw [e1]
  have:b*(u*(b*e))=b*(x*m):=by rw [e2]
  grind
 have h:=mY b0 (mY m0 h);refine aN ?_ hx;rw [←h,je];exact AU _ (kC.mpr e0)
def jv(q:Int)(N M:Nat)(f:Nat→Nat→Int×Int)(A:aE)(D:Int):Prop:=a9 q D∧∀i j,i<N→j<M→bM q (f i j) (A i j,D)
def atT(ae:bu)(i j:Nat):Int×Int:=(ae.getD i []).getD j o1
theorem Q0{N M:Nat}(hb:∀ps∈ae,∀p∈ps,a9 q p.2)(hN:ae.length=N)(hM:∀ps∈ae,ps.length=M):∃(A:aE) (D:Int),jv q N M (atT ae) A D:=by obtain ⟨D,A,h1,h2⟩:=QB hb hN hM;exact ⟨A,D,h1,h2⟩
def kh(q:Int)(M:Nat)(g:Nat→Int×Int)(A:Nat→Int)(D:Int):Prop:=a9 q D∧∀j,j<M→bM q (g j) (A j,D)
variable {ps:a8}
theorem Q1(hb:∀p∈ps,a9 q p.2){M:Nat}(l:ps.length=M):∃(A:Nat→Int) (D:Int),kh q M (fun j=>ps.getD j o1) A D:=by obtain ⟨D,A,h1,h2⟩:=QA hb;exact ⟨A,D,h1,fun j hj=>h2 j (by lia)⟩
structure fY (q:Int) (P n W:Nat) (A M:aE) (L:List Nat) (last:Int) (cur:Nat):Prop where
 rd:eE q n A M L cur
 bar:q=0→∃R g G,fN P n M L.reverse R g G∧last=aC L.reverse R
 rem:q≠0→∀i k,i<n→k<W→0≤M i k∧M i k<q
 lq:q≠0→0<last∧last<q
 iA:1000≤n*(bO n*P)
 mid:n*(bO n*P)<2 ^ 2048
 n1:1≤n
variable {P cur:Nat} {A:aE} {L:List Nat}
theorem fY.bd{last:Int}(h:fY q P n W A M L last cur)(hq:bg q){i k:Nat}(hi:i<n)(hk:k<W):(M i k).natAbs≤n*(bO n*P):=by
 by_cases z:q=0
 ·obtain ⟨R,g,G,b,_⟩:=h.bar z
  exact b.bd hi k
 ·have:=h.rem z i k hi hk
  have:=h.iA;have:q≤997:=by rcases hq with h | h <;> lia
  lia
theorem fY.last{last:Int}(h:fY q P n W A M L last cur)(hq:bg q):bE last∧last≠0:=by
 by_cases z:q=0
 ·obtain ⟨R,g,G,b,e⟩:=h.bar z
  exact ⟨by rw [e];exact eK (b.HP h.n1) h.mid,by rw [e];exact b.d0⟩
 ·have:=h.lq z
  have:q≤997:=by rcases hq with h | h <;> lia
  exact ⟨bE.of_lt (by lia) (by lia),by lia⟩
theorem fY.start(hq:bg q){G:Nat→Nat}(hb:∀i k,(A i k).natAbs≤G i)(pos:∀i,1000≤G i)(hP:ck n G≤P)(hm:n*(bO n*P)<2 ^ 2048)(n1:1≤n)(hr:q≠0→∀i k,i<n→k<W→0≤A i k∧A i k<q):fY q P n W A A [] 1 0:=
 ⟨eE.start hq n A,fun _=>⟨_,_,_,fN.start A hb (fun i=>aN (by decide) (pos i)) hP,rfl⟩,hr,fun z=>by
  rcases hq with h | h;·exact absurd h z
  ·lia,by
  have p1:1000≤ck n G:=by
   have:=HN (r:=0) (n:=n) (i:=0) (g:=G) (fun i=>aN (by decide) (pos i)) (aI _) (by lia)
   unfold iZ at this;rw [Nat.sub_zero,show (fun i=>G (0+i))=G from funext fun i=>by rw [Nat.zero_add]] at this
   exact aN (pos 0) this
  exact aN (aN p1 hP) (aN (qZ _ (HH n)) (qZ _ n1)),hm,n1⟩
theorem fY.skip{last:Int}(h:fY q P n W A M L last cur)(z:∀s,L.length≤s→s<n→M s cur=0):fY q P n W A M L last (cur+1):=
 ⟨h.rd.skip fun i hi hl=>Cg.of_eq (z i hl hi),h.bar,h.rem,h.lq,h.iA,h.mid,h.n1⟩
theorem Q2(hq:bg q)(h:q≠0→0≤x∧x<q)(n:x≠0):¬q∣x:=fun d=>by
 rcases hq with rfl | ⟨h2,_⟩;·exact n (lI.mp d)
 ·have:=h (by lia)
  have:=oS (by lia) d
  lia
theorem fY.next(hq:bg q){last:Int}{s:Nat}(h:fY q P n W A M L last c)(cW:c<W)(hs:L.length≤s)(sn:s<n)(ns:M s c≠0) :
  ∃Ef:Nat→Nat→Int,(∀i,i<n→(q=0→∀k,dQ M L.length s L.length c*dQ M L.length s i k-dQ M L.length s i c*dQ M L.length s L.length k=last*Ef i k)∧(q≠0→∀k,Ef i k=(dQ M L.length s L.length c*dQ M L.length s i k-dQ M L.length s i c*dQ M L.length s L.length k) % q)) ∧
   fY q P n W A (fun i=>if i=L.length then dQ M L.length s L.length else Ef i) (L++[c]) (dQ M L.length s L.length c) (c+1):=by
 have e1:dQ M L.length s L.length=M s:=by
  unfold dQ;by_cases z:L.length=s;·rw [aq z,z]
  ·rw [ar z,aq rfl]
 have e2:dQ M L.length s s=M L.length:=aq rfl;have e3:∀i,i≠L.length→i≠s→dQ M L.length s i=M i:=fun i z1 z2=>by unfold dQ;rw [ar z2,ar z1]
 have rd:=h.rd.swap hq hs sn e1 e2 e3;have yG:q≠0→∀i k,i<n→k<W→0≤dQ M L.length s i k∧dQ M L.length s i k<q:=fun z i k hi hk=>by
  unfold dQ
  split
  ·exact h.rem z _ k (by lia) hk
  ·split
   ·exact h.rem z _ k sn hk
   ·exact h.rem z _ k hi hk
 have rn:L.length<n:=by lia
 have lr:L.reverse.length=L.length:=by simp
 have nc:c∉L.reverse:=fun z=>by have:=h.rd.lt c (xo.mp z);lia
 have Cm:q=0→∃R g G,fN P n (dQ M L.length s) L.reverse R g G∧last=aC L.reverse R:=fun z=>by obtain ⟨R,g,G,b,e⟩:=h.bar z;exact ⟨R,g,_,b.swap (s:=s) (by rw [lr];exact hs) sn (by rw [lr];exact e1) (by rw [lr];exact e2) (by rw [lr];exact e3),e⟩
 rw [←e1] at ns;generalize dQ M L.length s=M1 at e1 rd yG Cm ns ⊢;have ex:∀i,∃g:Nat→Int,i<n→(q=0→∀k,M1 L.length c*M1 i k-M1 i c*M1 L.length k=last*g k)∧(q≠0→∀k,g k=(M1 L.length c*M1 i k-M1 i c*M1 L.length k) % q):=fun i=>by
  by_cases z:q=0
  ·by_cases hi:i<n
   ·by_cases ne:i=L.length
    ·exact ⟨fun _=>0,fun _=>⟨fun _ k=>by rw [ne,cy];lia,fun y=>absurd z y⟩⟩
    ·obtain ⟨R,g,G,b,e⟩:=Cm z
     obtain ⟨f,hf⟩:=b.QR (by rw [lr];exact rn) nc hi (by rw [lr];exact ne)
     rw [lr] at hf;exact ⟨f,fun _=>⟨fun _ k=>by rw [e];exact hf k,fun y=>absurd z y⟩⟩
   ·exact ⟨fun _=>0,fun y=>absurd y hi⟩
  ·exact ⟨fun k=>(M1 L.length c*M1 i k-M1 i c*M1 L.length k) % q,fun _=>⟨fun y=>absurd y z,fun _ _=>rfl⟩⟩
 obtain ⟨Ef,sp⟩:∃Ef:Nat→Nat→Int,∀i,i<n→(q=0→∀k,M1 L.length c*M1 i k-M1 i c*M1 L.length k=last*Ef i k)∧(q≠0→∀k,Ef i k=(M1 L.length c*M1 i k-M1 i c*M1 L.length k) % q):=⟨fun i=>Classical.choose (ex i),fun i hi=>AQ (ex i) hi⟩;refine ⟨Ef,sp,?_⟩;have np:¬q∣M1 L.length c:=Q2 hq (fun z=>yG z _ c rn cW) ns;have eh:(fun i=>if i=L.length then M1 L.length else Ef i) L.length=M1 L.length:=aq rfl
 have en:∀i,i≠L.length→(fun i=>if i=L.length then M1 L.length else Ef i) i=Ef i:=fun i z=>ar z
 generalize (fun i=>if i=L.length then M1 L.length else Ef i)=M2 at eh en ⊢
 have ll:=h.last hq;refine ⟨?_,fun z=>?_,fun z i k hi hk=>?_,fun z=>?_,h.iA,h.mid,h.n1⟩
 ·by_cases z:q=0
  ·refine rd.step hq (u:=last) rn (by rw [z];exact fun d=>ll.2 (lI.mp d)) np eh fun i k hi ne=>?_
   rw [en i ne];exact Cg.of_eq ((sp i hi).1 z k).symm
  ·refine rd.step hq (u:=1) rn (vI hq) np eh fun i k hi ne=>?_
   rw [en i ne,jH,(sp i hi).2 z k];exact pE q _
 ·obtain ⟨R,g,G,b,e⟩:=Cm z
  obtain ⟨R',g',b',e'⟩:=b.step (M':=M2) (c:=c) (by rw [lr];exact rn) nc (by rw [lr];exact ns) (by rw [lr];exact eh) (fun i k hi ne=>by rw [lr] at ne ⊢;rw [en i ne,←e];exact ((sp i hi).1 z k).symm)
  rw [lr] at e';refine ⟨R',g',G,?_,?_⟩
  ·rw [List.reverse_append]
   exact b'
  ·rw [List.reverse_append]
   exact e'.symm
 ·by_cases ne:i=L.length
  ·rw [ne,eh]
   exact yG z _ k rn hk
  ·rw [en i ne,(sp i hi).2 z k]
   have q2:0<q:=by rcases hq with h | h <;> lia
   exact ⟨gy _ z,gN _ q2⟩
 ·have:=yG z _ c rn cW
  lia
theorem fY.Q3{last:Int}(h:fY q P n W A M L last cur)(z:q=0){j:Nat}(hj:j<L.length):M j (L.getD j 0)=last:=by
 obtain ⟨R,g,G,b,e⟩:=h.bar z;have:=b.lead (j:=j) (by simpa using hj)
 rw [List.reverse_reverse] at this;rw [this,e]
structure fq (q:Int) (P W:Nat) (ae:bu) (A M:aE) (c:Nat→Int) (L:List Nat) (last:Int) (aw:bu):Prop where
 red:fY q P ae.length W A M L last W
 bot:∀i,i<ae.length→a9 q (c i)
 row:∀i k,i<ae.length→k<W→A i k*(atT ae i k).2=(atT ae i k).1*c i
 len:aw.length=L.length
 mm:∀ps∈aw,ps.length=W
 val:∀j k,j<L.length→k<W→bM q (atT aw j k) (M j k,M j (L.getD j 0))
def cf(L:List Nat):List V:=(L.map fun j:Nat=>(j:Int)).map V.int
theorem Q4(ts:List Int)(h:ts.length=W):(List.range W).map (fun k=>ts.getD k 0)=ts:=by
 subst h;refine kG (by simp) fun j h1 h2=>?_
 simp [bq,h2]
theorem vN{α:Type}[Inhabited α]{R:Nat→α→Prop}(h:∀i,i<n→∃x,R i x):∃f:Nat→α,∀i,i<n→R i (f i):=by
 refine ⟨fun i=>if hi:i<n then Classical.choose (h i hi) else default,fun i hi=>?_⟩
 dsimp only;rw [dif_pos hi];exact AQ (h i hi)
theorem Cn(h:a9 q b):b≠0:=by
 by_cases z:q=0;·have:=h.1 z;lia
 ·have:=h.2 z;lia
structure Co (q:Int) (E W:Nat) (ps:a8) (ts:List Int) (b:Int):Prop where
 len:ts.length=W
 ok:a9 q b
 eq:∀k,k<W→ts.getD k 0*(ps.getD k o1).2=(ps.getD k o1).1*b
 bd:∀k,(ts.getD k 0).natAbs≤E
 rem:q≠0→∀k,k<W→0≤ts.getD k 0∧ts.getD k 0<q
theorem Q5{ts:List Int}{B':Nat}{x:Nat→Int}{r:Addr}(hq:bg q)(wd:Ca q ps ts b D B')(hW:ps.length=W)(hr:b6 B H q r ps)(mq:a9 q D)(hx:∀i,i<ps.length→(ps.getD i o1).1*D=x i*(ps.getD i o1).2∧(x i).natAbs≤E):Co q E W ps ts b:=by
 have HV:∀k,k<W→Canon q (ps.getD k o1)∧a9 q (ps.getD k o1).2:=fun k hk=>by
  obtain ⟨vs,e,l,f⟩:=hr;have k1:k<vs.length:=by lia
  have k2:k<ps.length:=by lia
  have z:=f k vs[k] ps[k] (by simp [k1]) (by simp [k2])
  rw [getD_at k2];exact ⟨z.canon,z.bot hq⟩
 refine ⟨by rw [wd.len,hW],wd.ok,fun k hk=>(wd.each k (by lia)).1,fun k=>?_,fun z k hk=>?_⟩
 ·by_cases hk:k<W
  ·obtain ⟨h1,h2⟩:=hx k (by lia)
   exact QZ (wd.each k (by lia)).1 h1 wd.dvd (Cn (HV k hk).2) (Cn wd.ok) (Cn mq) h2
  ·rw [QD (by rw [wd.len];lia)]
   exact cT _
 ·obtain ⟨c1,c2⟩:=HV k hk
  obtain ⟨m1,m2,m3⟩:=c1.2 z;have e:=(wd.each k (by lia)).1
  rw [m1,wd.ok.2 z,iC,iC] at e;rw [e];exact ⟨m2,m3⟩
end My
namespace L2
open PySem PySem.Spec PyProof.Rows
end L2
namespace My
open PySem L2
variable {q u x:Int}
theorem vO{y:Int}(hq:bg q)(nu:¬q∣u)(h:Cg q (u*x) (u*y)):Cg q x y:=by
 have z:Cg q (u*(x-y)) 0:=by have:=h.sub (Cg.refl (u*y));rw [qY] at this;exact (Cg.of_eq (by rw [oT])).trans this
 have z:=jt hq nu z;have:=z.add (Cg.refl y);exact (Cg.of_eq (by lia)).trans (this.trans (Cg.of_eq (by lia)))
theorem Cp(n:Nat)(f g:Nat→Int):ah n (fun i=>f i-g i)=ah n f-ah n g:=by
 rw [show (fun i=>f i-g i)=fun i=>f i + -1*g i from funext fun i=>by lia,kg,←cB]
 lia
variable {i:Nat}
theorem Cq{L:List Nat}(h:L.Pairwise (· < ·)){j:Nat}(Bj:i<j)(hj:j<L.length):L.getD i 0<L.getD j 0:=by
 rw [getD_at (by lia),getD_at hj]
 exact List.pairwise_iff_getElem.mp h i j (by lia) hj Bj
theorem Q6(n m:Nat)(hm:m<n)(f x:Nat→Int)(p v:Int)(x0:x m=0):(ah n fun k=>f k*(if k=m then v else p*x k))=p*(ah n fun k=>f k*x k)+f m*v:=by
 have e:(fun k=>f k*(if k=m then v else p*x k))=fun k=>p*(f k*x k)+(if k=m then f k*v else 0):=funext fun k=>by
  by_cases z:k=m;·rw [aq z,aq z,z,x0];grind
  ·rw [ar z,ar z];grind
 rw [e,kg,←cB,nY n m (fun k=>f k*v) hm]
variable {a:Int} {p:Int×Int}
theorem Cr{c t D:Int}(hq:bg q)(e:a*p.2=p.1*c)(w:bM q p (t,D))(ok:a9 q p.2):Cg q (t*c) (a*D):=by
 refine vO hq (ok.nz hq) ?_;obtain ⟨k,ek⟩:=w;dsimp only at ek;refine ⟨-(c*k),?_⟩;have:p.2*(a*D)=p.1*c*D:=by rw [←e];grind
 grind
variable {m:Int}
theorem HW{f E:Int}(hq:bg q)(v:bM q p (m,u))(w:bM q p (f,E))(ok:a9 q p.2):Cg q (f*u) (m*E):=by refine vO hq (ok.nz hq) ?_;obtain ⟨k,ek⟩:=w;obtain ⟨k2,Q7⟩:=v;dsimp only at ek Q7;exact ⟨E*k2-u*k,by grind⟩
variable {B:Nat} {H:Hp} {r:Addr} {aw:bu}
theorem cn.each(h:cn B H q r aw):∀ps∈aw,∃x,b6 B H q x ps:=fun ps hp=>by
 obtain ⟨vs,e,l,f⟩:=h;obtain ⟨i,hi,e2⟩:=gO.mp hp;have h1:i<vs.length:=by lia
 obtain ⟨x,_,e3⟩:=f i vs[i] ps (by simp [h1]) (by simp [hi,e2])
 exact ⟨x,e3⟩
theorem b6.nums{a:Addr}{ps:a8}(h:b6 B H q a ps)(hq:bg q):∀p∈ps,Canon q p∧a9 q p.2∧∃v,dj B H q v p.1 p.2:=fun p hp=>by
 obtain ⟨vs,e,l,f⟩:=h;obtain ⟨i,hi,e2⟩:=gO.mp hp;have h1:i<vs.length:=by lia
 have z:=f i vs[i] p (by simp [h1]) (by simp [hi,e2])
 exact ⟨z.canon,z.bot hq,_,z⟩
theorem cn.nums(h:cn B H q r aw)(hq:bg q):∀ps∈aw,∀p∈ps,Canon q p∧a9 q p.2∧∃v,dj B H q v p.1 p.2:=fun ps hp=>by obtain ⟨x,hx⟩:=h.each ps hp;exact hx.nums hq
theorem vP{ae:bu}{n m k:Nat}(h:ae.length=n)(hm:∀ps∈ae,ps.length=m)(hi:i<n)(hk:k<m):∃ps∈ae,atT ae i k∈ps:=by
 have h1:i<ae.length:=by lia
 have l:=hm _ (a7 h1);refine ⟨ae[i],a7 h1,?_⟩;unfold atT;rw [getD_at h1,getD_at (by lia)]
 exact a7 _
theorem Q8{b:Int}(l:dG x m)(e:x*b=a*m):m∣b:=by
 have h:m∣x*b:=⟨a,by rw [e,fg]⟩
 have g:Int.gcd m x=1:=by rw [Int.gcd_comm];exact l.me
 have h2:m.natAbs∣x.natAbs*b.natAbs:=by rw [←je];exact AR.mpr h
 exact AR.mp (Nat.Coprime.dvd_of_dvd_mul_left g h2)
end My
namespace L2
open PySem PySem.Spec PyProof.Rows
def Wide(i:Int):Prop:=i.natAbs<2 ^ 8192
variable {i:Int}
theorem Wide.log(h:Wide i):i.natAbs.log2<8192:=by
 by_cases z:i.natAbs=0;·rw [z];decide
 ·exact (Nat.log2_lt z).mpr h
theorem bE.wide(h:bE i):Wide i:=cw h (oJ (by decide) (by decide))
def yH(i j:Int):Prop:=j≠0∧Wide j
section
variable {X:Cx}
theorem HX:b8 X (binaryOp .FloorDiv) (rI yH fun i j=>.int (i.fdiv j)):=nF fun _ _ _ _ _ _ _ hc q=>floordiv_int hc.1 q (.inl (AK (cw hc.2.log (by decide))))
end
end L2
namespace My
open PySem L2
theorem Q9{a b:Int}(h:b≠0)(m:Wide b):yH 0 (lowG a b):=by
 have h1:=nK (a:=a) h;have h2:Int.gcd a b<2 ^ 8192:=eK (Nat.gcd_le_right _ (kC.mpr h)) m;unfold lowG;refine ⟨by split <;> lia,?_⟩
 unfold Wide
 split
 ·rw [show (0-(Int.gcd a b:Int)).natAbs=Int.gcd a b by lia];exact h2
 ·rw [uN];exact h2
def Q_:Sp:=fun vs H Q _=>∃a b:Int,vs=[.int a,.int b]∧b≠0∧Wide b∧∀(q:Addr) (H':Hp),af H H'→H' q=some (.tup [.int (a.fdiv (lowG a b)),.int (b.fdiv (lowG a b))])→Q (.ref q) H'
end My
namespace L2
open PySem PySem.Spec PyProof.Rows
end L2
namespace My
open PySem L2
variable {H:Hp} {n:Nat}
theorem Cs{wi:TI}{ρ:St→St}{te:TE}{σ:St}{Q:VK}{xs:List V}(hl:xs.length=n)(gk:∀R:It→Hp→Prop,(∀J H1,af H H1→mh J xs H1→R J H1)→wi σ H R)(hn:n<sizeLine)
  (P:Addr→Nat→Addr→Hp→Prop) (mono:∀D i y H H' ys,P D i y H→y≠D→H D=some (.lst ys)→(∀b o,b≠D→H b=some o→H' b=some o)→P D i y H')
  (step:∀D (i:Nat) (x:V),xs[i]?=some x→∀(Hc:Hp) (R:VK),af H Hc→(∃ys,Hc D=some (.lst ys))→(∀y H3,af Hc H3→Hc y=none→(∃o,H3 y=some o)→P D i y H3→R (.ref y) H3)→te (some x::ρ σ) Hc R)
  (fin:∀D (A:Nat→Addr) Hc,H D=none→af H Hc→(∀i j,i<n→j<n→A i=A j→i=j)→(∀i,i<n→P D i (A i) Hc∧A i≠D)→Hc D=some (.lst ((List.range n).map fun i=>V.ref (A i)))→Q (.ref D) Hc):iu wi ρ (fun _ H Q=>Q true H) te σ H Q:=by
 refine gk _ fun J H1 s1 js=>?_;intro D nD;have hD:H D=none:=by
  cases e:H D with
  | none=>rfl
  | some o=>rw [s1 _ _ e] at nD;cases nD
 refine ⟨fun i m ys Hc=>m=n-i∧i≤n∧Hc D=some (.lst ys)∧af H1 Hc∧∃A:Nat→Addr,ys=(List.range i).map (fun j=>V.ref (A j))∧(∀a b,a<i→b<i→A a=A b→a=b)∧∀j,j<i→P D j (A j) Hc∧A j≠D∧∃o,Hc (A j)=some o,⟨_,rfl,cT _,aB,d_ (af.refl H1) nD,fun _=>D,rfl,(fun a b h=>by lia),fun j h=>by lia⟩,?_⟩
 rintro i m ys Hc ⟨rfl,hi,eD,sH,A,rfl,inj,hA⟩;refine ⟨eD,?_⟩;by_cases cb:i<n
 ·refine .inr ⟨js.go i Hc sH (by lia),fun x H' hy=>?_⟩
  obtain ⟨rfl,hx⟩:=js.d6 i Hc x H' sH hy;rw [aq rfl];refine step D i x (hx (by lia)) _ _ (s1.trans sH) ⟨_,eD⟩ fun y H3 s3 ny ⟨o,ho⟩ hp=>?_
  have e3:=s3 _ _ eD;have yD:y≠D:=fun e=>by rw [e,eD] at ny;cases ny
  have cP:∀b o,b≠D→H3 b=some o→upd H3 D (.lst ((List.range i).map (fun j=>V.ref (A j))++[.ref y])) b=some o:=fun b o nb e=>by rw [aH nb];exact e
  have nA:∀j,j<i→A j≠y:=fun j hj e=>by obtain ⟨_,_,o',h'⟩:=hA j hj;rw [e,ny] at h';cases h'
  refine ⟨e3,by simp;lia,n-(i+1),by lia,rfl,cb,aB,d_ (sH.trans s3) nD,fun j=>if j=i then y else A j,?_,fun a b ha hb e=>?_,fun j hj=>?_⟩
  ·rw [xp,oV]
   congr 1
   ·refine q5 fun j hj=>?_
    dsimp only;rw [ar (by have:=gM.mp hj;lia)]
   ·simp
  ·dsimp only at e
   by_cases z1:a=i
   ·by_cases z2:b=i
    ·lia
    ·rw [aq z1,ar z2] at e
     exact absurd e.symm (nA b (by lia))
   ·by_cases z2:b=i
    ·rw [ar z1,aq z2] at e
     exact absurd e (nA a (by lia))
    ·rw [ar z1,ar z2] at e
     exact inj a b (by lia) (by lia) e
  ·dsimp only
   by_cases z:j=i
   ·rw [aq z,z]
    exact ⟨mono D i y H3 _ _ hp yD e3 cP,yD,o,cP _ _ yD ho⟩
   ·rw [ar z]
    obtain ⟨h1,h2,o',h3⟩:=hA j (by lia)
    exact ⟨mono D j (A j) H' _ _ h1 h2 eD (fun b o nb e=>cP b o nb (s3 _ _ e)),h2,o',cP _ _ h2 (s3 _ _ h3)⟩
 ·have e:i=n:=by lia
  subst e;exact .inl ⟨js.stop _ Hc sH (by lia),fin D A Hc hD (s1.trans sH) inj (fun j hj=>⟨(hA j hj).1,(hA j hj).2.1⟩) eD⟩
theorem yI{D:Addr}{o:HO}:∀b o',b≠D→H b=some o'→upd H D o b=some o':=fun b o' nb e=>by rw [aH nb];exact e
theorem Ct(b:Nat):∀n,ck n (fun _=>b)=b ^ n
 | 0=>rfl
 | n+1=>by show ck n (fun _=>b)*b=b ^ (n+1);rw [Ct b n,Nat.pow_succ]
variable {q:Int}
theorem Ra{x:Int}(h:Cg q x 0):q∣x:=by unfold Cg at h;rw [Int.sub_zero] at h;exact h
theorem Rb{E E':Nat}{ps:a8}(h:ju q E ps)(h1:E≤E'):ju q E' ps:=by obtain ⟨D,x,a,b,c,d⟩:=h;exact ⟨D,x,a,aN b h1,c,fun i hi=>⟨(d i hi).1,aN (d i hi).2 h1⟩⟩
theorem cn.rep{B:Nat}(hq:bg q){r:Addr}{ae:bu}{m:Nat}(h:cn B H q r ae)(hN:ae.length=n)(hM:∀ps∈ae,ps.length=m):∃T D,jv q n m (atT ae) T D:=Q0 (fun ps h1 p h2=>(h.nums hq ps h1 p h2).2.1) hN hM
end My
namespace L2
open PySem PySem.Spec PyProof.Rows
end L2
namespace My
open PySem L2
section
variable {q:Int} {P n W:Nat} {ae dH aw:bu} {A M:aE} {c:Nat→Int} {L:List Nat} {last:Int}
theorem fq.common(h:fq 0 P W dH A M c L last aw):∃D:Int,1≤D∧D.natAbs≤dH.length*(bO dH.length*P)∧∀j k,j<L.length→k<W→∃x:Int,(atT aw j k).1*D=x*(atT aw j k).2∧x.natAbs≤dH.length*(bO dH.length*P):=by
 have l0:=(h.red.last (.inl rfl)).2;obtain ⟨R,g,G,b,el⟩:=h.red.bar rfl;have bl:last.natAbs≤dH.length*(bO dH.length*P):=by rw [el];exact b.HP h.red.n1
 refine ⟨(last.natAbs:Int),by lia,by rw [uN];exact bl,fun j k hj hk=>?_⟩
 have jn:j<dH.length:=cw hj h.red.rd.len;have v:=h.val j k hj hk;rw [h.red.Q3 rfl hj] at v;have e:=lI.mp v;dsimp only at e;have bm:=h.red.bd (.inl rfl) jn hk;by_cases y:0<last;·exact ⟨M j k,by rw [show (last.natAbs:Int)=last by lia];lia,bm⟩
 ·refine ⟨-(M j k),?_,by rw [oQ];exact bm⟩
  rw [show (last.natAbs:Int)=-last by lia,jF,Int.neg_mul]
  lia
end
def Rc:Sp:=fun vs H Q _=>∃(a:Addr) (q:Int) (B j:Nat) (ae:bu) (m:Nat),vs=[.ref a,.int (j:Int)]∧cn B H q a ae∧ae.length≤40∧(∀ps∈ae,ps.length=m)∧j<m∧∀(b:Addr) (H':Hp),af H H'→H b=none→b6 B H' q b (ae.map fun ps=>ps.getD j (0,1))→Q (.ref b) H'
def jw(m:Nat)(ae:bu):List (List (Int×Int)):=(List.range m).map fun j=>ae.map fun ps=>ps.getD j (0,1)
def Rf(N:Addr):Sp:=fun vs H Q E=>∃(a:Addr) (q:Int) (B:Nat) (ae:bu) (m:Nat),vs=[.ref a]∧cn B H q a ae∧1≤ae.length∧ae.length≤40∧(∀ps∈ae,ps.length=m)∧m≤40∧∀(b:Addr) (H':Hp),af H H'→H b=none→cn B H' q b (jw m ae)→Q (.ref b) H'
variable {q:Int} {ps:a8}
theorem Cu(hq:bg q)(z:q≠0)(hc:∀p∈ps,Canon q p):ju q 1000 ps:=by
 have q9:q≤997:=by rcases hq with h | h <;> lia
 refine ⟨1,fun j=>(ps.getD j o1).1,⟨fun y=>absurd y z,fun _=>rfl⟩,by decide,fun p hp=>?_,fun j hj=>?_⟩
 ·rw [((hc p hp).2 z).1];exact oR 1
 ·obtain ⟨c1,c2,c3⟩:=(hc _ (by rw [getD_at hj];exact a7 _:ps.getD j o1∈ps)).2 z
  rw [c1];exact ⟨rfl,by dsimp only;lia⟩
variable {ae k9:bu}
theorem Cv(h:k9.length=ae.length):(List.zipWith (·++·) ae k9).length=ae.length:=by rw [List.length_zipWith,h,Nat.min_self]
variable {i:Nat}
theorem Cw(h:k9.length=ae.length)(hi:i<ae.length):(List.zipWith (·++·) ae k9).getD i []=ae.getD i []++k9.getD i []:=by
 have h2:i<k9.length:=by lia
 rw [bq,AV,getD_at hi,getD_at h2];simp [hi,h2]
variable {k m:Nat}
theorem Rg(h:k9.length=ae.length)(hm:∀ps∈ae,ps.length=m)(hi:i<ae.length)(hk:k<m):atT (List.zipWith (·++·) ae k9) i k=atT ae i k:=by
 unfold atT;rw [Cw h hi];have l:(ae.getD i []).length=m:=by rw [getD_at hi];exact hm _ (a7 _)
 rw [bq,eX (by lia),←bq]
theorem pG(m:Nat)(ae:bu):(jw m ae).length=m:=by unfold jw;simp
variable {n W c:Nat} {A M:aE} {L:List Nat}
theorem eE.sol(hq:bg q){X:Nat→Int}{E:Int}(h:eE q n A M L W)(mW:m≤W)(cW:c<W)(hL:∀l∈L,l<m)(hX:∀j,j<L.length→Cg q (X (L.getD j 0)*M j (L.getD j 0)) (M j c*E))(h0:∀k,k<m→k∉L→Cg q (X k) 0){t:Nat}(ht:t<n):Cg q (ah m fun k=>A t k*X k) (A t c*E):=by
 obtain ⟨e,y,ne,h1,_⟩:=h.done ht;refine vO hq ne ?_;have row:∀j,j<L.length→Cg q (ah m fun k=>M j k*X k) (M j c*E):=fun j hj=>by
  have lm:L.getD j 0<m:=hL _ (by rw [getD_at hj];exact a7 _)
  have s:Cg q (ah m fun k=>M j k*X k) (ah m fun k=>if k=L.getD j 0 then M j k*X k else 0):=ed fun k hk=>by
   by_cases z:k=L.getD j 0;·rw [aq z];exact Cg.refl _
   ·rw [ar z]
    by_cases w:k∈L
    ·obtain ⟨i,hi,ei⟩:=gO.mp w
     have ij:j≠i:=fun e=>z (by subst e;rw [getD_at hi];exact ei.symm)
     have o:=h.off j i (cw hj h.len) hi ij;rw [getD_at hi,ei] at o;have:=o.mulR (X k);rw [kD] at this;exact this
    ·have:=(h0 k hk w).mulL (M j k)
     rw [cy] at this;exact this
  rw [nY m _ (fun k=>M j k*X k) lm] at s;exact s.trans ((Cg.of_eq (fg ..)).trans (hX j hj))
 have s1:Cg q (e*ah m fun k=>A t k*X k) (ah m fun k=>(ah L.length fun j=>y j*M j k)*X k):=by rw [cB];exact ed fun k hk=>(Cg.of_eq (by grind)).trans ((h1 k (by lia)).mulR (X k))
 refine s1.trans ?_;rw [B_ m L.length (fun j=>y j) (fun j k=>M j k) X];have s2:Cg q (ah L.length fun l=>y l*ah m fun j=>M l j*X j) (ah L.length fun l=>y l*M l c*E):=ed fun l hl=>((row l hl).mulL (y l)).trans (Cg.of_eq (by grind))
 refine s2.trans ?_;have s3:(ah L.length fun l=>y l*M l c*E)=E*ah L.length fun l=>y l*M l c:=by rw [cB];exact cq fun i _=>by grind
 rw [s3];exact ((h1 c cW).symm.mulL E).trans (Cg.of_eq (by grind))
theorem eE.out(hq:bg q)(h:eE q n A M L W)(hc:c∈L):∃y:Nat→Int,(∀k,k<c→Cg q (ah n fun t=>y t*A t k) 0)∧¬q∣ah n fun t=>y t*A t c:=by
 obtain ⟨j,hj,e⟩:=gO.mp hc;have gj:L.getD j 0=c:=by rw [getD_at hj];exact e
 obtain ⟨u,x,nu,hx⟩:=h.pF j (cw hj h.len);refine ⟨x,fun k hk=>?_,?_⟩
 ·have b:=(h.sg j k hj (by lia)).mulL u
  rw [cy] at b;exact (hx k).symm.trans b
 ·have l:=h.lead j hj
  rw [gj] at l;exact (hx c).symm.nz (mj hq nu l)
theorem eE.Rh(hq:bg q)(h:eE q n A M L W){x:Nat→Int}(hx:∀t,t<n→Cg q (ah m fun k=>A t k*x k) 0)(hi:i<n):Cg q (ah m fun k=>M i k*x k) 0:=by
 obtain ⟨e,y,ne,hy⟩:=h.pF i hi;refine jt hq ne ?_;have s1:Cg q (e*ah m fun k=>M i k*x k) (ah m fun k=>(ah n fun t=>y t*A t k)*x k):=by rw [cB];exact ed fun k _=>(Cg.of_eq (by grind)).trans ((hy k).mulR (x k))
 refine s1.trans ?_;rw [B_ m n (fun i=>y i) (fun i k=>A i k) x];have:=ed (q:=q) (n:=n) (f:=fun l=>y l*ah m fun j=>A l j*x j) (g:=fun _=>0) fun l hl=>by have:=(hx l hl).mulL (y l);rw [cy] at this;exact this
 rw [gI] at this;exact this
theorem eE.Ri(hq:bg q)(h:eE q n A M L W)(hc:c<W):c∈L↔∀x:Nat→Int,(∀k,c<k→x k=0)→(∀t,t<n→Cg q (ah W fun k=>A t k*x k) 0)→Cg q (x c) 0:=by
 constructor
 ·intro hL x x0 hx
  obtain ⟨j,hj,e⟩:=gO.mp hL;have gj:L.getD j 0=c:=by rw [getD_at hj];exact e
  have l:=h.lead j hj;rw [gj] at l;refine jt hq l ?_;have k0:=h.Rh hq hx (cw hj h.len);have s:Cg q (ah W fun k=>M j k*x k) (ah W fun k=>if k=c then M j k*x k else 0):=ed fun k hk=>by
   by_cases z:k=c;·rw [aq z];exact Cg.refl _
   ·rw [ar z]
    by_cases y:k<c
    ·have:=(h.sg j k hj (by lia)).mulR (x k)
     rw [kD] at this;exact this
    ·rw [x0 k (by lia),cy]
     exact Cg.refl _
  rw [nY W c (fun k=>M j k*x k) hc] at s;exact s.symm.trans k0
 ·intro hx
  refine AS fun nL=>?_;have main:∀m,m≤L.length→∃x:Nat→Int,¬q∣x c∧(∀k,c<k→x k=0)∧(∀k,k≠c→(∀j,j<m→k≠L.getD j 0)→x k=0)∧∀j,j<m→Cg q (ah W fun k=>M j k*x k) 0:=fun m=>by
   induction m with
   | zero=>exact fun _=>⟨fun k=>if k=c then 1 else 0,by dsimp only;rw [aq rfl];exact vI hq,fun k hk=>ar (by lia),fun k hk _=>ar hk,fun j hj=>by lia⟩
   | succ m ih=>
    intro hm;obtain ⟨x,h1,h2,h3,h4⟩:=ih (by lia)
    have Rj:L.getD m 0∈L:=by rw [getD_at (by lia)];exact a7 _
    by_cases lm:L.getD m 0<c
    ·have x0:x (L.getD m 0)=0:=h3 _ (by lia) fun j hj e=>by
      have:=Cq h.up hj (by lia)
      lia
     refine ⟨fun k=>if k=L.getD m 0 then -(ah W fun k=>M m k*x k) else M m (L.getD m 0)*x k,?_,fun k hk=>?_,fun k hk hj=>?_,fun j hj=>?_⟩
     ·dsimp only
      rw [ar (by lia)]
      exact mj hq (h.lead m (by lia)) h1
     ·dsimp only
      rw [ar (by lia),h2 k hk,cy]
     ·dsimp only
      rw [ar (hj m (by lia)),h3 k hk fun j eP=>hj j (by lia),cy]
     ·rw [Q6 W _ (by lia) (M j) x _ _ x0]
      by_cases e:j=m
      ·subst e
       exact Cg.of_eq (by grind)
      ·have a:=(h4 j (by lia)).mulL (M m (L.getD m 0))
       have b:=(h.off j m (by have:=h.len;lia) (by lia) e).mulR (-(ah W fun k=>M m k*x k))
       exact (a.add b).trans (Cg.of_eq (by simp))
    ·have ne:L.getD m 0≠c:=fun e=>nL (e▸Rj)
     refine ⟨x,h1,h2,fun k hk hj=>h3 k hk fun j eP=>hj j (by lia),fun j hj=>?_⟩
     by_cases e:j=m
     ·subst e
      have:=ed (q:=q) (n:=W) (f:=fun k=>M j k*x k) (g:=fun _=>0) fun k hk=>by
       by_cases y:k<L.getD j 0
       ·have:=(h.sg j k (by lia) y).mulR (x k)
        rw [kD] at this;exact this
       ·rw [h2 k (by lia),cy]
        exact Cg.refl _
      rw [gI] at this;exact this
     ·exact h4 j (by lia)
  obtain ⟨x,h1,h2,_,h4⟩:=main L.length (aI _);have all:∀i,i<n→Cg q (ah W fun k=>M i k*x k) 0:=fun i hi=>by
   by_cases z:i<L.length;·exact h4 i z
   ·have:=ed (q:=q) (n:=W) (f:=fun k=>M i k*x k) (g:=fun _=>0) fun k hk=>by
     have:=(h.low i k hi (by lia) hk).mulR (x k)
     rw [kD] at this;exact this
    rw [gI] at this;exact this
  refine h1 (Ra (hx x h2 fun t ht=>?_));obtain ⟨e,y,ne',hy⟩:=h.ofM t ht;refine jt hq ne' ?_;have s1:Cg q (e*ah W fun k=>A t k*x k) (ah W fun k=>(ah n fun i=>y i*M i k)*x k):=by rw [cB];exact ed fun k _=>(Cg.of_eq (by grind)).trans ((hy k).mulR (x k))
  refine s1.trans ?_;rw [B_ W n (fun i=>y i) (fun i k=>M i k) x];have:=ed (q:=q) (n:=n) (f:=fun l=>y l*ah W fun j=>M l j*x j) (g:=fun _=>0) fun l hl=>by have:=(all l hl).mulL (y l);rw [cy] at this;exact this
  rw [gI] at this;exact this
theorem HY:∀{L L':List Nat},L.Pairwise (· < ·)→L'.Pairwise (· < ·)→(∀c,c∈L↔c∈L')→L=L'
 | [],[],_,_,_=>rfl
 | [],b::L',_,_,h=>by have:=(h b).mpr g9;simp at this
 | a::L,[],_,_,h=>by have:=(h a).mp g9;simp at this
 | a::L,b::L',h1,h2,h=>by
  obtain ⟨p1,q1⟩:=List.pairwise_cons.mp h1;obtain ⟨p2,q2⟩:=List.pairwise_cons.mp h2;have ab:a=b:=by
   rcases dq.mp ((h a).mp g9) with e | e;·exact e
   ·rcases dq.mp ((h b).mpr g9) with e' | e'
    ·exact e'.symm
    ·have:=p2 a e
     have:=p1 b e';lia
  subst ab;rw [HY q1 q2 fun c=>?_];constructor
  ·intro hc
   rcases dq.mp ((h c).mp (fO _ hc)) with e | e
   ·subst e
    have:=p1 c hc;lia
   ·exact e
  ·intro hc
   rcases dq.mp ((h c).mpr (fO _ hc)) with e | e
   ·subst e
    have:=p2 c hc;lia
   ·exact e
variable {H:Hp} {xs:List V}
theorem Rk{wi:TI}{ρ:St→St}{tt:TT}{te:TE}{σ:St}{Q:VK}(hl:xs.length=n)(f:Nat→Bool)(gk:∀R:It→Hp→Prop,(∀J H1,af H H1→mh J xs H1→R J H1)→wi σ H R)(hn:n<sizeLine)
  (P:Addr→Nat→V→Hp→Prop) (mono:∀D i y H H' ys,P D i y H→H D=some (.lst ys)→(∀b o,b≠D→H b=some o→H' b=some o)→P D i y H')
  (test:∀(i:Nat) (x:V),xs[i]?=some x→∀(Hc:Hp) (R:Bool→Hp→Prop),af H Hc→R (f i) Hc→tt (some x::ρ σ) Hc R)
  (step:∀D (i:Nat) (x:V),xs[i]?=some x→f i=true→∀(Hc:Hp) (R:VK),af H Hc→(∃ys,Hc D=some (.lst ys))→(∀y H3,af Hc H3→P D i y H3→R y H3)→te (some x::ρ σ) Hc R)
  (fin:∀D ys Hc,H D=none→af H Hc→ys.length=((List.range n).filter f).length→(∀(a:Nat) (y:V) (i:Nat),ys[a]?=some y→((List.range n).filter f)[a]?=some i→P D i y Hc)→Hc D=some (.lst ys)→Q (.ref D) Hc):iu wi ρ tt te σ H Q:=by
 refine gk _ fun J H1 s1 js=>?_;intro D nD;have hD:H D=none:=by
  cases e:H D with
  | none=>rfl
  | some o=>rw [s1 _ _ e] at nD;cases nD
 refine ⟨fun i m ys Hc=>m=n-i∧i≤n∧Hc D=some (.lst ys)∧af H1 Hc∧ys.length=((List.range i).filter f).length∧(∀(a:Nat) (y:V) (j:Nat),ys[a]?=some y→((List.range i).filter f)[a]?=some j→P D j y Hc),⟨_,rfl,cT _,aB,d_ (af.refl H1) nD,rfl,fun a y j e=>by simp at e⟩,?_⟩
 rintro i m ys Hc ⟨rfl,hi,eD,sH,el,hP⟩;refine ⟨eD,?_⟩;by_cases cb:i<n
 ·refine .inr ⟨js.go i Hc sH (by lia),fun x H' hy=>?_⟩
  obtain ⟨rfl,hx⟩:=js.d6 i Hc x H' sH hy;refine test i x (hx (by lia)) _ _ (s1.trans sH) ?_
  have le:ys.length≤i:=by rw [el];refine aN (List.length_filter_le ..) ?_;simp
  cases ef:f i with
  | true=>
   rw [aq rfl];have er:(List.range (i+1)).filter f=(List.range i).filter f++[i]:=by rw [xp,q8];simp [ef]
   refine step D i x (hx (by lia)) ef _ _ (s1.trans sH) ⟨_,eD⟩ fun y H3 s3 hp=>?_
   have e3:=s3 _ _ eD;have cP:∀b o,b≠D→H3 b=some o→upd H3 D (.lst (ys++[y])) b=some o:=fun b o nb e=>by rw [aH nb];exact e
   refine ⟨e3,by lia,n-(i+1),by lia,rfl,cb,aB,d_ (sH.trans s3) nD,by rw [er,fe,fe,el];rfl,fun a y' j h1 h2=>?_⟩
   rw [er] at h2;by_cases z:a<ys.length
   ·rw [eX z] at h1
    rw [eX (by lia)] at h2
    exact mono D j y' H' _ ys (hP a y' j h1 h2) eD fun b o nb e=>cP b o nb (s3 _ _ e)
   ·rw [fE (by lia)] at h1 h2
    have ea:a-ys.length=0:=by have:=(aW.mp h1).1;simp at this;lia
    rw [ea] at h1;rw [show a-((List.range i).filter f).length=0 by lia] at h2
    cases h1;cases h2;exact mono D i _ H3 _ ys hp e3 cP
  | false=>
   rw [ar cJ];have er:(List.range (i+1)).filter f=(List.range i).filter f:=by rw [xp,q8];simp [ef]
   exact ⟨n-(i+1),by lia,rfl,cb,eD,sH,by rw [er];exact el,fun a y j h1 h2=>hP a y j h1 (by rw [er] at h2;exact h2)⟩
 ·have e:i=n:=by lia
  subst e;exact .inl ⟨js.stop _ Hc sH (by lia),fin D ys Hc hD (s1.trans sH) el hP eD⟩
def Rl(C:Addr):Sp:=fun vs H Q _=>∃(z ra la:Addr) (q:Int) (B W wide:Nat) (aw:bu) (L:List Nat),vs=[.ref z,.ref ra,.ref la,.int (wide:Int)]∧fV C H z q∧bg q∧cn B H q ra aw∧1000≤B∧(∀ps∈aw,ps.length=W)∧H la=some (.lst (cf L))∧aw.length=L.length∧L.length≤40∧L.Pairwise (· < ·)∧(∀l∈L,l<wide)∧wide≤40∧wide<W ∧
 ∀(r:Addr) (ps:a8) (H':Hp),af H H'→H r=none→b6 B H' q r ps→ps.length=wide→(∀j,j<L.length→ps.getD (L.getD j 0) o1=atT aw j wide)→(∀k,k<wide→k∉L→ps.getD k o1=(0,1))→Q (.ref r) H'
def Rm(C:Addr):Sp:=fun vs H Q _=>∃(z ra la:Addr) (q:Int) (B W wide free:Nat) (aw:bu) (L:List Nat),vs=[.ref z,.ref ra,.ref la,.int (wide:Int),.int (free:Int)]∧fV C H z q∧bg q∧cn B H q ra aw∧1000≤B∧B≤10 ^ 290∧(∀ps∈aw,ps.length=W)∧H la=some (.lst (cf L))∧aw.length=L.length∧L.length≤40∧L.Pairwise (· < ·)∧(∀l∈L,l<wide)∧wide≤40∧wide≤W∧free<wide∧free∉L ∧
 ∀(r:Addr) (ps:a8) (H':Hp),af H H'→H r=none→b6 B H' q r ps→ps.length=wide→ps.getD free o1=(1,1)→(∀j,j<L.length→bM q (ps.getD (L.getD j 0) o1) (-(atT aw j free).1,(atT aw j free).2))→(∀k,k<wide→k∉L→k≠free→ps.getD k o1=(0,1))→Q (.ref r) H'
variable {p:Int×Int}
theorem Cy(h:k<ps.length):(ps.set k p).getD k o1=p:=by rw [bq,ku h];rfl
variable {j:Nat}
theorem sh(h:j≠k):(ps.set k p).getD j o1=ps.getD j o1:=by rw [bq,kz (fun e=>h e.symm),←bq]
theorem Cz(h:L.Pairwise (· < ·))(hi:i<L.length)(hj:j<L.length)(e:L.getD i 0=L.getD j 0):i=j:=by
 rcases Nat.lt_trichotomy i j with z | z | z
 ·have:=Cq h z hj
  lia
 ·exact z
 ·have:=Cq h z hi
  lia
def Rn:Sp:=fun vs H Q _=>∃(a:Addr) (ps:a8) (B:Nat) (D:Int),vs=[.ref a]∧b6 B H 0 a ps∧ps.length≤100∧a9 0 D∧(∀p∈ps,p.2∣D)∧B<2 ^ 2048∧D.natAbs<2 ^ 2048∧∀(v:V) (H':Hp) (ts:List Int) (b:Int),af H H'→Hr H H' v ts b→Ca 0 ps ts b D B→Q v H'
def Ro(C:Addr):Sp:=fun vs H Q _=>∃(z a:Addr) (q:Int) (ps:a8) (B:Nat) (D:Int),vs=[.ref z,.ref a]∧fV C H z q∧bg q∧b6 B H q a ps∧ps.length≤100∧a9 q D∧(∀p∈ps,p.2∣D)∧B<2 ^ 2048∧1000≤B∧D.natAbs<2 ^ 2048∧∀(v:V) (H':Hp) (ts:List Int) (b:Int),af H H'→Hr H H' v ts b→Ca q ps ts b D B→Q v H'
def Rp(C N:Addr):Sp:=fun vs H Q E=>∃(z a:Addr) (q:Int) (B P W:Nat) (ae:bu) (G:Nat→Nat),vs=[.ref z,.ref a]∧fV C H z q∧bg q∧cn B H q a ae∧1000≤B∧B<2 ^ 2048∧1≤ae.length∧ae.length≤40∧(∀ps∈ae,ps.length=W)∧W≤100∧(∀i,i<ae.length→ju q (G i) (ae.getD i []))∧(∀i,1000≤G i∧G i<2 ^ 2048)∧ck ae.length G≤P∧ae.length*(bO ae.length*P)<2 ^ 2048 ∧
 ∀(p r l:Addr) (H':Hp) (A M:aE) (c:Nat→Int) (L:List Nat) (last:Int) (aw:bu),af H H'→H' p=some (.tup [.ref r,.ref l])→H' l=some (.lst (cf L))→cn (ae.length*(bO ae.length*P)) H' q r aw→fq q P W ae A M c L last aw→Q (.ref p) H'
def vQ(q:Int)(n m:Nat)(ae:bu)(as xs:a8):Prop:=∀T D a F X E,jv q n m (atT ae) T D→kh q n (fun j=>as.getD j o1) a F→kh q m (fun j=>xs.getD j o1) X E→∀t,t<n→Cg q (F*ah m fun k=>T t k*X k) (a t*D*E)
def HZ(q:Int)(n m:Nat)(ae:bu)(vs:a8):Prop:=∀T D V E,jv q n m (atT ae) T D→kh q m (fun j=>vs.getD j o1) V E→∀t,t<n→Cg q (ah m fun k=>T t k*V k) 0
def CA(q:Int)(n m:Nat)(ae:bu)(as ys:a8):Prop:=∀T D a F Y E,jv q n m (atT ae) T D→kh q n (fun j=>as.getD j o1) a F→kh q n (fun j=>ys.getD j o1) Y E→(∀k,k<m→Cg q (ah n fun t=>Y t*T t k) 0)∧Cg q (ah n fun t=>Y t*a t) (E*F)
def si(q:Int)(n m:Nat)(ae:bu)(L:List Nat):Prop:=L.Pairwise (· < ·)∧(∀l∈L,l<m)∧∀T D,jv q n m (atT ae) T D→∀c,c<m→(c∈L↔∀x:Nat→Int,(∀k,c<k→x k=0)→(∀t,t<n→Cg q (ah m fun k=>T t k*x k) 0)→Cg q (x c) 0)
def gY(as:a8):List (List (Int×Int)):=as.map fun p=>[p]
def eQ(ae:bu)(as:a8):List (List (Int×Int)):=List.zipWith (·++·) ae (gY as)
theorem mr(as:a8):(gY as).length=as.length:=by unfold gY;simp
theorem H_(as:a8):∀ps∈gY as,ps.length=1:=fun ps hp=>by unfold gY at hp;obtain ⟨p,_,e⟩:=da.mp hp;rw [←e];rfl
section
variable {q:Int} {n m:Nat} {ae:bu} {as:a8}
theorem yJ(hn:ae.length=n)(la:as.length=n)(hm:∀ps∈ae,ps.length=m)(hi:i<n)(hk:k<m):atT (eQ ae as) i k=atT ae i k:=Rg (by rw [mr];lia) hm (by lia) hk
theorem Ia(hn:ae.length=n)(la:as.length=n)(hm:∀ps∈ae,ps.length=m)(hi:i<n):atT (eQ ae as) i m=as.getD i o1:=by
 unfold atT eQ;rw [Cw (by rw [mr];lia) (by lia)]
 have l:(ae.getD i []).length=m:=by
  rw [getD_at (by lia)]
  exact hm _ (a7 _)
 have g:(gY as).getD i []=[as.getD i o1]:=by unfold gY;rw [getD_at (by simpa using (by lia:i<as.length)),gP,getD_at (by lia)]
 rw [g,bq,fE (by lia),l,jG]
 rfl
variable {P W:Nat} {aw dH:bu} {A M:aE} {c:Nat→Int} {L:List Nat} {last:Int}
variable {T:aE} {D:Int}
theorem fq.yK(hq:bg q)(h:fq q P W dH A M c L last aw)(hn:ae.length=n)(kL:dH.length=n)(hm:∀ps∈ae,ps.length=m)(hl:∀i k,i<n→k<m→atT dH i k=atT ae i k)(mW:m≤W)(hb:∀ps∈ae,∀p∈ps,a9 q p.2)(r:jv q n m (atT ae) T D)(hi:i<n)(hk:k<m):Cg q (T i k*c i) (A i k*D):=by
 have e:=h.row i k (by lia) (by lia)
 rw [hl i k hi hk] at e;obtain ⟨ps,h1,h2⟩:=vP hn hm hi hk;exact Cr hq e (r.2 i k hi hk) (hb ps h1 _ h2)
theorem CB(hq:bg q){x:Nat→Int}{t:Nat}(h:∀k,k<m→Cg q (T t k*c t) (A t k*D)):Cg q (c t*ah m fun k=>T t k*x k) (D*ah m fun k=>A t k*x k):=by rw [cB,cB];exact ed fun k hk=>(Cg.of_eq (by grind)).trans (((h k hk).mulR (x k)).trans (Cg.of_eq (by grind)))
theorem fq.sol(hq:bg q)(h:fq q P (m+1) (eQ ae as) A M c L last aw)(hn:ae.length=n)(la:as.length=n)(hm:∀ps∈ae,ps.length=m)(hb:∀ps∈ae,∀p∈ps,a9 q p.2)(iB:∀p∈as,a9 q p.2)(pH:∀ps∈aw,∀p∈ps,a9 q p.2)(hL:∀l∈L,l<m){xs:a8}(h1:∀j,j<L.length→xs.getD (L.getD j 0) o1=atT aw j m)(h0:∀k,k<m→k∉L→xs.getD k o1=(0,1)):vQ q n m ae as xs:=fun T D a F X E rT ra rX t ht=>by
 have lq:(eQ ae as).length=n:=by unfold eQ;rw [Cv (by rw [mr];lia)];exact hn
 have rd:=h.red.rd;rw [lq] at rd;have ct:=h.bot t (by lia)
 have cg:=fun k hk=>h.yK hq hn lq hm (fun i k hi hk=>yJ hn la hm hi hk) (fP m) hb rT (i:=t) (k:=k) ht hk;have ca:Cg q (a t*c t) (A t m*F):=by
  have e:=h.row t m (by lia) (by lia)
  rw [Ia hn la hm ht] at e;exact Cr hq e (ra.2 t ht) (iB _ (by rw [getD_at (by lia)];exact a7 _))
 have s:=rd.sol hq (m:=m) (c:=m) (X:=X) (E:=E) (fP m) (qR m) hL (fun j hj=>by
  have lm:L.getD j 0<m:=hL _ (by rw [getD_at hj];exact a7 _)
  have w:bM q (xs.getD (L.getD j 0) o1) (X (L.getD j 0),E):=rX.2 _ lm;rw [h1 j hj] at w;have v:=h.val j m hj (qR m);obtain ⟨ps,p1,p2⟩:=vP h.len h.mm hj (qR m);exact HW hq v w (pH ps p1 _ p2)) (fun k hk nk=>by
  have w:bM q (xs.getD k o1) (X k,E):=rX.2 k hk;rw [h0 k hk nk] at w;obtain ⟨k',e⟩:=w;dsimp only at e;exact ⟨-k',by rw [jF];lia⟩) ht
 refine vO hq (ct.nz hq) ?_;have t1:=(CB hq (x:=X) cg).mulL F;have t2:=s.mulL (F*D);have t3:=ca.symm.mulL (D*E);exact (Cg.of_eq (by grind)).trans (t1.trans ((Cg.of_eq (by grind)).trans (t2.trans ((Cg.of_eq (by grind)).trans (t3.trans (Cg.of_eq (by grind)))))))
theorem fq.CD(hq:bg q)(h:fq q P W dH A M c L last aw)(hn:ae.length=n)(kL:dH.length=n)(hm:∀ps∈ae,ps.length=m)(hl:∀i k,i<n→k<m→atT dH i k=atT ae i k)(mW:m≤W)(hb:∀ps∈ae,∀p∈ps,a9 q p.2)(pH:∀ps∈aw,∀p∈ps,a9 q p.2)(hL:∀l∈L,l<m){f:Nat}(fm:f<m)(nf:f∉L){vs:a8}(bv:∀k,k<m→a9 q (vs.getD k o1).2)(hf:vs.getD f o1=(1,1))(h1:∀j,j<L.length→bM q (vs.getD (L.getD j 0) o1) (-(atT aw j f).1,(atT aw j f).2))(h0:∀k,k<m→k∉L→k≠f→vs.getD k o1=(0,1)):HZ q n m ae vs:=fun T D V E rT rV t ht=>by
 have rd:=h.red.rd;rw [kL] at rd;have ct:=h.bot t (by lia)
 have cg:=fun k hk=>h.yK hq hn kL hm hl mW hb rT (i:=t) (k:=k) ht hk;have vf:Cg q (V f) E:=by have w:bM q (vs.getD f o1) (V f,E):=rV.2 f fm;rw [hf] at w;obtain ⟨k',e⟩:=w;dsimp only at e;exact ⟨-k',by rw [jF];lia⟩
 have s:=rd.sol hq (m:=m) (c:=f) (X:=fun k=>if k=f then 0 else -(V k)) (E:=E) mW (by lia) hL (fun j hj=>by
  have lm:L.getD j 0<m:=hL _ (by rw [getD_at hj];exact a7 _)
  have ne:L.getD j 0≠f:=fun e=>nf (by rw [←e,getD_at hj];exact a7 _)
  rw [ar ne];obtain ⟨ps,p1,p2⟩:=vP h.len h.mm hj (show f<W by lia)
  have bp:=pH ps p1 _ p2;have v:=h.val j f hj (by lia)
  have w:=(h1 j hj).symm.trans (rV.2 _ lm) (bv _ lm);have w2:bM q (atT aw j f) (-(V (L.getD j 0)),E):=by obtain ⟨k',e⟩:=w;dsimp only at e;exact ⟨-k',by dsimp only;rw [jF];grind⟩
  exact HW hq v w2 bp) (fun k hk nk=>by
  by_cases y:k=f;·rw [aq y];exact Cg.refl _
  ·rw [ar y]
   have w:bM q (vs.getD k o1) (V k,E):=rV.2 k hk;rw [h0 k hk nk y] at w;obtain ⟨k',e⟩:=w;dsimp only at e;exact ⟨k',by lia⟩) ht
 refine jt hq (ct.nz hq) ?_;refine (CB hq (x:=V) cg).trans ?_;have e1:(ah m fun k=>A t k*V k)=(ah m fun k=>if k=f then A t k*V k else 0)-ah m fun k=>A t k*(if k=f then 0 else -(V k)):=by
  rw [←Cp];exact cq fun k _=>by
   by_cases y:k=f;·rw [aq y,aq y];lia
   ·rw [ar y,ar y];grind
 rw [e1,nY m f (fun k=>A t k*V k) fm];have z:=(vf.mulL (A t f)).sub s;rw [qY] at z;have:=z.mulL D;rw [cy] at this;exact this
theorem fq.Ib(hq:bg q)(h:fq q P (m+1) (eQ ae as) A M c L last aw)(hn:ae.length=n)(la:as.length=n)(hm:∀ps∈ae,ps.length=m)(hb:∀ps∈ae,∀p∈ps,a9 q p.2)(iB:∀p∈as,a9 q p.2)(hc:m∈L){a:Nat→Int}{F:Int}(rT:jv q n m (atT ae) T D)(ra:kh q n (fun j=>as.getD j o1) a F):∃y:Nat→Int,(∀k,k<m→Cg q (ah n fun t=>y t*T t k) 0)∧¬q∣ah n fun t=>y t*a t:=by
 have lq:(eQ ae as).length=n:=by unfold eQ;rw [Cv (by rw [mr];lia)];exact hn
 have rd:=h.red.rd;rw [lq] at rd;obtain ⟨y,h1,h2⟩:=rd.out hq hc;refine ⟨fun t=>y t*c t,fun k hk=>?_,fun dv=>?_⟩
 ·have s:Cg q (ah n fun t=>y t*c t*T t k) (D*ah n fun t=>y t*A t k):=by rw [cB];exact ed fun t ht=>(Cg.of_eq (by grind)).trans (((h.yK hq hn lq hm (fun i k hi hk=>yJ hn la hm hi hk) (fP m) hb rT ht hk).mulL (y t)).trans (Cg.of_eq (by grind)))
  refine s.trans ?_;have:=(h1 k hk).mulL D;rw [cy] at this;exact this
 ·have s:Cg q (ah n fun t=>y t*c t*a t) (F*ah n fun t=>y t*A t m):=by
   rw [cB];refine ed fun t ht=>?_;have e:=h.row t m (by lia) (by lia)
   rw [Ia hn la hm ht] at e;have ca:=Cr hq e (ra.2 t ht) (iB _ (by rw [getD_at (by lia)];exact a7 _))
   exact (Cg.of_eq (by grind)).trans ((ca.mulL (y t)).trans (Cg.of_eq (by grind)))
  exact s.nz (mj hq (ra.1.nz hq) h2) dv
theorem fq.Rq(hq:bg q)(h:fq q P W dH A M c L last aw)(hn:ae.length=n)(kL:dH.length=n)(hm:∀ps∈ae,ps.length=m)(hl:∀i k,i<n→k<m→atT dH i k=atT ae i k)(mW:m≤W)(hb:∀ps∈ae,∀p∈ps,a9 q p.2)(hL:∀l∈L,l<m):si q n m ae L:=by
 have rd:=h.red.rd
 rw [kL] at rd
 refine ⟨rd.up,hL,fun T D rT c0 hc=>(rd.Ri hq (show c0<W by lia)).trans ?_⟩
 have conv:∀x:Nat→Int,(∀k,c0<k→x k=0)→∀t,t<n→(Cg q (ah W fun k=>A t k*x k) 0↔Cg q (ah m fun k=>T t k*x k) 0):=fun x x0 t ht=>by
  have cut:Cg q (ah W fun k=>A t k*x k) (ah m fun k=>A t k*x k):=Ci mW fun i h1 _=>by
   rw [x0 i (by lia),cy]
   exact Cg.refl _
  have ct:=h.bot t (by lia)
  have s:=CB (m:=m) hq (x:=x) (T:=T) (A:=A) (c:=c) (D:=D) (t:=t) fun k hk=>h.yK hq hn kL hm hl mW hb rT ht hk
  constructor
  ·intro z
   refine jt hq (ct.nz hq) (s.trans ?_)
   have:=(cut.symm.trans z).mulL D
   rw [cy] at this
   exact this
  ·intro z
   refine cut.trans (jt hq (rT.1.nz hq) (s.symm.trans ?_))
   have:=z.mulL (c t)
   rw [cy] at this
   exact this
 exact ⟨fun g x x0 hx=>g x x0 fun t ht=>(conv x x0 t ht).mpr (hx t ht),fun g x x0 hx=>g x x0 fun t ht=>(conv x x0 t ht).mp (hx t ht)⟩
end
def eS(m:Nat)(ae:bu)(as:a8):List (List (Int×Int)):=jw m ae++[as]
def gq(m:Nat):List (Int×Int):=List.replicate m ((0:Int),(1:Int))++[((1:Int),(1:Int))]
section
variable {q:Int} {n m:Nat} {ae:bu} {as:a8}
theorem mw:(eS m ae as).length=m+1:=by unfold eS;simp [pG]
theorem sj:(gq m).length=m+1:=by unfold gq;simp
theorem Ic{t:Nat}(ht:t<m):(jw m ae).getD t []=ae.map fun ps=>ps.getD t (0,1):=by
 rw [getD_at (by rw [pG];exact ht)]
 unfold jw;simp
theorem Ie{t:Nat}(ht:t<m):(eS m ae as).getD t []=ae.map fun ps=>ps.getD t (0,1):=by unfold eS;rw [bq,eX (by rw [pG];exact ht),←bq,Ic ht]
theorem Ig:(eS m ae as).getD m []=as:=by
 unfold eS;rw [bq,fE (by rw [pG];exact aI _),pG,jG]
 rfl
theorem Ih(hn:ae.length=n)(la:as.length=n):∀ps∈eS m ae as,ps.length=n:=fun ps hp=>by
 unfold eS jw at hp;rcases lC.mp hp with h | h
 ·obtain ⟨j,_,e⟩:=da.mp h
  rw [←e,aD];exact hn
 ·rw [g_.mp h]
  exact la
theorem Rr(hn:ae.length=n){t:Nat}(ht:t<m)(hk:k<n):atT (eS m ae as) t k=atT ae k t:=by
 unfold atT;rw [Ie ht,getD_at (by simpa using (by lia:k<ae.length)),gP,getD_at (show k<ae.length by lia)]
 rfl
theorem Rt:atT (eS m ae as) m k=as.getD k o1:=by unfold atT;rw [Ig]
theorem Ii{t:Nat}(ht:t<m):(gq m).getD t o1=(0,1):=by
 unfold gq;rw [bq,eX (by simpa using ht)]
 simp [ht]
theorem Ij:(gq m).getD m o1=(1,1):=by
 unfold gq;rw [bq,fE (by simp)]
 simp
theorem Ik:∀p∈gq m,a9 q p.2:=fun p hp=>by
 unfold gq at hp;rcases lC.mp hp with h | h
 ·rw [(List.mem_replicate.mp h).2]
  exact a9.one
 ·rw [g_.mp h]
  exact a9.one
theorem Il(hm:∀ps∈ae,ps.length=m)(h:ps∈jw m ae)(hp:p∈ps):∃rs∈ae,p∈rs:=by
 unfold jw at h;obtain ⟨j,hj,e⟩:=da.mp h;rw [←e] at hp;obtain ⟨rs,h1,h2⟩:=da.mp hp;have jm:j<rs.length:=by rw [hm rs h1];exact gM.mp hj
 exact ⟨rs,h1,by rw [←h2,getD_at jm];exact a7 _⟩
theorem Im(hm:∀ps∈ae,ps.length=m)(hb:∀ps∈ae,∀p∈ps,a9 q p.2)(iB:∀p∈as,a9 q p.2):∀ps∈eS m ae as,∀p∈ps,a9 q p.2:=fun ps h p hp=>by
 unfold eS at h;rcases lC.mp h with h | h
 ·obtain ⟨rs,h1,h2⟩:=Il hm h hp
  exact hb rs h1 p h2
 ·rw [g_.mp h] at hp
  exact iB p hp
variable {T:aE} {a:Nat→Int} {D F:Int}
def pI(m:Nat)(T:aE)(a:Nat→Int)(D F:Int):Nat→Nat→Int:=fun t k=>if t<m then T k t*F else a k*D
def pJ(m:Nat):Nat→Int:=fun t=>if t<m then 0 else 1
theorem Io(hn:ae.length=n)(rT:jv q n m (atT ae) T D)(ra:kh q n (fun j=>as.getD j o1) a F):jv q (m+1) n (atT (eS m ae as)) (pI m T a D F) (D*F):=by
 refine ⟨rT.1.mul ra.1,fun t k ht hk=>?_⟩;unfold pI;by_cases y:t<m
 ·rw [Rr hn y hk,aq y]
  obtain ⟨c,e⟩:=rT.2 k t hk y;dsimp only at e;exact ⟨c*F,by dsimp only;grind⟩
 ·have e:t=m:=by lia
  subst e;rw [Rt,ar y];obtain ⟨c,e⟩:=ra.2 k hk;dsimp only at e;exact ⟨c*D,by dsimp only;grind⟩
theorem Ip:kh q (m+1) (fun j=>(gq m).getD j o1) (pJ m) 1:=by
 refine ⟨a9.one,fun t ht=>?_⟩;unfold pJ;dsimp only;by_cases y:t<m
 ·rw [Ii y,aq y]
  exact bM.refl _
 ·have e:t=m:=by lia
  subst e;rw [Ij,ar y];exact bM.refl _
theorem Ru(hq:bg q)(hn:ae.length=n){xs:a8}(h:vQ q (m+1) n (eS m ae as) (gq m) xs):CA q n m ae as xs:=fun T D a F Y E rT ra rY=>by
 have s:=h _ _ _ _ Y E (Io hn rT ra) Ip rY;refine ⟨fun k hk=>?_,?_⟩
 ·have e:=s k (by lia)
  unfold pI pJ at e;rw [aq hk,kD,kD,jH] at e;refine jt hq (ra.1.nz hq) ?_;rw [cB];refine (Cg.of_eq (cq fun t _=>?_)).trans e;rw [aq hk];grind
 ·have e:=s m (by lia)
  unfold pI pJ at e;rw [ar (by lia),jH,jH] at e
  refine vO hq (rT.1.nz hq) ?_;rw [cB];refine (Cg.of_eq (cq fun t _=>?_)).trans (e.trans (Cg.of_eq (by grind)))
  rw [ar (by lia)]
  grind
theorem Rv(hq:bg q){y y':Nat→Int}(h1:∀k,k<m→Cg q (ah n fun t=>y t*T t k) 0)(h2:¬q∣ah n fun t=>y t*a t)(nD:¬q∣D)(h3:∀k,k<n→Cg q (ah (m+1) fun t=>y' t*pI m T a D F t k) 0)(h4:¬q∣ah (m+1) fun t=>y' t*pJ m t):False:=by
 have e4:(ah (m+1) fun t=>y' t*pJ m t)=y' m:=by
  rw [k8];unfold pJ;rw [ar (by lia),iC,cq (g:=fun _=>0) fun t ht=>by rw [aq ht,cy],gI]
  lia
 rw [e4] at h4;have e3:∀k,(ah (m+1) fun t=>y' t*pI m T a D F t k)=(F*ah m fun t=>y' t*T k t)+y' m*(a k*D):=fun k=>by rw [k8,cB];unfold pI;rw [ar (by lia),cq (g:=fun t=>F*(y' t*T k t)) fun t ht=>by rw [aq ht];grind]
 have s:Cg q (ah n fun k=>y k*((F*ah m fun t=>y' t*T k t)+y' m*(a k*D))) 0:=by
  have:=ed (q:=q) (n:=n) (f:=fun k=>y k*((F*ah m fun t=>y' t*T k t)+y' m*(a k*D))) (g:=fun _=>0) fun k hk=>by have z:=(h3 k hk).mulL (y k);rw [e3 k,cy] at z;exact z
  rw [gI] at this;exact this
 have sp:(ah n fun k=>y k*((F*ah m fun t=>y' t*T k t)+y' m*(a k*D)))=(F*ah m fun t=>y' t*ah n fun k=>y k*T k t)+y' m*D*ah n fun k=>y k*a k:=by
  have e1:(ah m fun t=>y' t*ah n fun k=>y k*T k t)=ah n fun k=>y k*ah m fun t=>y' t*T k t:=by rw [cq (g:=fun t=>ah n fun k=>y' t*(y k*T k t)) fun t _=>cB _ _ _,vD];refine cq fun k _=>?_;rw [cB];exact cq fun t _=>by grind
  rw [e1,cB,cB,←kg];exact cq fun k _=>by grind
 rw [sp] at s;have z:Cg q (F*ah m fun t=>y' t*ah n fun k=>y k*T k t) 0:=by
  have:=ed (q:=q) (n:=m) (f:=fun t=>y' t*ah n fun k=>y k*T k t) (g:=fun _=>0) fun t ht=>by have z:=(h1 t ht).mulL (y' t);rw [cy] at z;exact z
  rw [gI] at this;have:=this.mulL F;rw [cy] at this;exact this
 have w:=s.sub z;rw [qY] at w;have w2:Cg q (y' m*D*ah n fun k=>y k*a k) 0:=(Cg.of_eq (by lia)).trans w
 obtain ⟨c,e⟩:=w2;exact mj hq (mj hq h4 nD) h2 ⟨c,by lia⟩
variable {P:Nat} {aw:bu}
theorem fq.Rw(hq:bg q){P':Nat}{A' M':aE}{c c':Nat→Int}{L':List Nat}{last Rx:Int}{Ry:bu}(h:fq q P (m+1) (eQ ae as) A M c L last aw)(h':fq q P' (n+1) (eQ (eS m ae as) (gq m)) A' M' c' L' Rx Ry)(hn:ae.length=n)(la:as.length=n)(hm:∀ps∈ae,ps.length=m)(hb:∀ps∈ae,∀p∈ps,a9 q p.2)(iB:∀p∈as,a9 q p.2)(rT:jv q n m (atT ae) T D)(ra:kh q n (fun j=>as.getD j o1) a F)(hc:m∈L):∀l∈L',l<n:=fun l hl=>by
 have ln:l<n+1:=h'.red.rd.lt l hl;by_cases y:l=n
 ·subst y
  obtain ⟨y,h1,h2⟩:=h.Ib hq hn la hm hb iB hc rT ra;obtain ⟨y',h3,h4⟩:=h'.Ib hq mw sj (Ih hn la) (Im hm hb iB) Ik hl (Io hn rT ra) Ip;exact (Rv hq h1 h2 (rT.1.nz hq) h3 h4).elim
 ·lia
theorem fq.Iq(hq:bg q){dH:bu}{c:Nat→Int}{last:Int}(h:fq q P W dH A M c L last aw){wide f:Nat}{xs:a8}(lx:xs.length=wide)(hc:∀p∈xs,Canon q p)(fW:f<W)(h1:∀k,k<wide→(∃j,j<L.length∧(bM q (xs.getD k o1) (atT aw j f)∨bM q (xs.getD k o1) (-(atT aw j f).1,(atT aw j f).2))∧(atT aw j f).2≠0)∨xs.getD k o1=(0,1)∨xs.getD k o1=(1,1))(hB:1000≤dH.length*(bO dH.length*P)):ju q (dH.length*(bO dH.length*P)) xs:=by
 by_cases z:q=0
 ·subst z
  obtain ⟨D,d1,dX,hD⟩:=h.common;obtain ⟨y,hy⟩:=vN (n:=wide) (α:=Int) (R:=fun k x=>(xs.getD k o1).1*D=x*(xs.getD k o1).2∧x.natAbs≤dH.length*(bO dH.length*P)) fun k hk=>by
   rcases h1 k hk with ⟨j,hj,w,nz⟩ | e | e
   ·obtain ⟨x,e1,e2⟩:=hD j f hj fW
    rcases w with w | w
    ·have e:=lI.mp w
     refine ⟨x,mY nz ?_,e2⟩;generalize atT aw j f=p at *;generalize xs.getD k o1=r at *;grind
    ·have e:=lI.mp w
     dsimp only at e;refine ⟨-x,mY nz ?_,by rw [oQ];exact e2⟩
     generalize atT aw j f=p at *;generalize xs.getD k o1=r at *;grind
   ·exact ⟨0,by rw [e];simp,by simp⟩
   ·exact ⟨D,by rw [e];simp,dX⟩
  refine ⟨D,y,⟨fun _=>d1,fun z=>absurd rfl z⟩,dX,fun p hp=>?_,fun k hk=>hy k (by lia)⟩
  obtain ⟨k,hk,e⟩:=gO.mp hp;have w:=(hy k (by lia)).1
  rw [getD_at hk,e] at w;exact Q8 ((hc p hp).1 rfl) w
 ·exact Rb (Cu hq z hc) hB
end
variable {B:Nat} {a:Addr}
theorem cn.cat{ys:List V}{aw:bu}(e:H a=some (.lst (xs++ys)))(l1:xs.length=ae.length)(l2:ys.length=aw.length)(h1:∀(i:Nat) (v:V) (ps:a8),xs[i]?=some v→ae[i]?=some ps→∃r:Addr,v=.ref r∧b6 B H q r ps)(h2:∀(i:Nat) (v:V) (ps:a8),ys[i]?=some v→aw[i]?=some ps→∃r:Addr,v=.ref r∧b6 B H q r ps):cn B H q a (ae++aw):=by
 refine ⟨_,e,by rw [fe,fe];lia,fun i v ps hv hp=>?_⟩
 by_cases y:i<xs.length
 ·rw [eX y] at hv
  rw [eX (by lia)] at hp
  exact h1 i v ps hv hp
 ·rw [fE (by lia)] at hv hp
  rw [l1] at hv;exact h2 _ v ps hv hp
theorem CF{v:V}(e:H a=some (.lst [v]))(h:dj B H q v p.1 p.2):b6 B H q a [p]:=by
 refine ⟨_,e,rfl,fun i v' p' h1 h2=>?_⟩;cases i with
 | zero=>cases h1;cases h2;exact h
 | succ i=>simp at h1
theorem Rz{E:Nat}(h:ju q E ps)(hp:p=(0,1)∨p=(1,1)):ju q E (ps++[p]):=by
 obtain ⟨D,x,ok,bD,dv,hx⟩:=h;refine ⟨D,fun k=>if k<ps.length then x k else p.1*D,ok,bD,fun r hr=>?_,fun k hk=>?_⟩
 ·rcases lC.mp hr with z | z
  ·exact dv r z
  ·rw [g_.mp z]
   rcases hp with e | e <;> rw [e] <;> exact Int.one_dvd _
 ·dsimp only
  by_cases z:k<ps.length
  ·rw [aq z,show (ps++[p]).getD k o1=ps.getD k o1 by rw [bq,eX z,←bq]]
   exact hx k z
  ·have e:k=ps.length:=by simp at hk;lia
   rw [ar z,e,show (ps++[p]).getD ps.length o1=p by rw [bq,fE (aI _)];simp]
   rcases hp with e | e;·rw [e];exact ⟨by simp,by simp⟩
   ·rw [e];exact ⟨by simp,by simpa using bD⟩
variable {as:a8}
theorem CG(la:as.length=ae.length)(hi:i<ae.length):(eQ ae as).getD i []=ae.getD i []++[as.getD i o1]:=by
 unfold eQ;rw [Cw (by rw [mr];exact la) hi]
 have g:(gY as).getD i []=[as.getD i o1]:=by unfold gY;rw [getD_at (by simpa using (by lia:i<as.length)),gP,getD_at (by lia)]
 rw [g]
theorem CH(la:as.length=ae.length):(eQ ae as).length=ae.length:=by unfold eQ;rw [Cv (by rw [mr];exact la)]
theorem Ir(la:as.length=ae.length)(hm:∀ps∈ae,ps.length=m):∀ps∈eQ ae as,ps.length=m+1:=fun ps hp=>by
 obtain ⟨i,hi,e⟩:=gO.mp hp;have bH:i<ae.length:=by rw [CH la] at hi;exact hi
 have g:=CG la bH;rw [getD_at hi,getD_at bH,e] at g;rw [g,fe,hm _ (a7 bH)];rfl
def RA(C:Addr):Sp:=fun vs H Q _=>∃(z a b:Addr) (q:Int) (B P m:Nat) (ae:bu) (as:a8) (G:Nat→Nat),vs=[.ref z,.ref a,.ref b]∧fV C H z q∧bg q∧cn B H q a ae∧b6 B H q b as∧1000≤B∧B<2 ^ 2048∧1≤ae.length∧ae.length≤30∧(∀ps∈ae,ps.length=m)∧m≤30∧as.length=ae.length∧(∀i,i<m+1→ju q (G i) ((eS m ae as).getD i []))∧(∀i,1000≤G i∧G i<2 ^ 2048)∧ck (m+1) G≤P∧(m+1)*(bO (m+1)*P)<2 ^ 2048 ∧
 (∃(P0:Nat) (A M:aE) (c:Nat→Int) (L:List Nat) (last:Int) (aw:bu),fq q P0 (m+1) (eQ ae as) A M c L last aw∧m∈L) ∧
 ∀(r:Addr) (ys:a8) (H':Hp),af H H'→H r=none→b6 ((m+1)*(bO (m+1)*P)) H' q r ys→ys.length=ae.length→CA q ae.length m ae as ys→ju q ((m+1)*(bO (m+1)*P)) ys→Q (.ref r) H'
theorem CI:xU (.int (i:Int)) (cf L)=decide (i∈L):=by
 unfold cf
 induction L with
 | nil=>rfl
 | cons a L ih=>
  show (fI (.int (a:Int)) (.int (i:Int)) || xU (.int (i:Int)) ((L.map fun j:Nat=>(j:Int)).map V.int))=_;rw [ih];by_cases e:i=a
  ·subst e
   rw [yq rfl,Bool.true_or,cN g9]
  ·have h:fI (.int (a:Int)) (.int (i:Int))=false:=by show ((a:Int) == (i:Int))=false;simp;lia
   rw [h,uJ];simp [e]
theorem Iu:(cf L).all gf=true:=by unfold cf;rw [oH];intro v hv;obtain ⟨i,_,e⟩:=da.mp hv;rw [←e];rfl
theorem RB:(cf L).length=L.length:=by simp [cf]
def cu(m:Nat)(L:List Nat):List Nat:=(List.range m).filter fun i=>!decide (i∈L)
theorem vR:i∈cu m L↔i<m∧i∉L:=by unfold cu;rw [qM,gM];simp
theorem Iv{α:Type}(p:α→Bool):∀l:List α,(l.filter fun i=>!p i).length+(l.filter p).length=l.length
 | []=>rfl
 | a::l=>by have ih:=Iv p l;rw [q_,q_,cx];cases p a <;> simp <;> lia
theorem Iw(up:L.Pairwise (· < ·))(lt:∀l∈L,l<m):(cu m L).length+L.length=m:=by
 have e:(List.range m).filter (fun i=>decide (i∈L))=L:=by refine HY (List.Pairwise.filter _ AW) up fun c=>?_;rw [qM,gM];simp;exact fun h=>lt c h
 have h:=Iv (fun i=>decide (i∈L)) (List.range m);rw [e,fQ] at h;unfold cu;lia
structure Iy (q:Int) (n m X:Nat) (ae:bu) (L:List Nat) (cR:bu):Prop where
 len:cR.length=(cu m L).length
 mm:∀ps∈cR,ps.length=m
 CD:∀ps∈cR,HZ q n m ae ps
 ok:∀i,i<cR.length→ju q X (cR.getD i [])
 own:∀i,i<cR.length→atT cR i ((cu m L).getD i 0)=(1,1)
 yL:∀i j,i<cR.length→j<cR.length→i≠j→atT cR i ((cu m L).getD j 0)=(0,1)
variable {P:Program} {w:World} {K:aA} {mg:cz} {base:Heap} {CX:gc} {f:Addr} {fd:FuncData} {sp vS:Sp}
theorem aT.or{ps:List Str}(F:aT P w K mg base CX k f fd ps sp)(G:aT P w K mg base CX k f fd ps vS):aT P w K mg base CX k f fd ps (fun vs H Q E=>sp vs H Q E∨vS vs H Q E):=
 ⟨fun vs H Q E q=>q.elim (F.len vs H Q E) (G.len vs H Q E),fun A outer s H args us vs Q E hr he hb hv hs=>hs.elim (F.run A outer s H args us vs Q E hr he hb hv) (G.run A outer s H args us vs Q E hr he hb hv)⟩
section
variable {q:Int} {n m:Nat} {ae:bu} {as xs:a8}
end
section
variable {q:Int} {n m:Nat} {ae:bu} {L D:List Nat}
variable {P P2:Nat} {aw ZQ:bu} {A M A2 M2:aE} {c c2:Nat→Int} {last ZR:Int}
end
section
variable {q:Int} {m:Nat} {ae aw ZS:bu} {L D:List Nat}
end
theorem aT.imp{ps:List Str}(F:aT P w K mg base CX k f fd ps sp)(h:∀vs H Q E,vS vs H Q E→sp vs H Q E):aT P w K mg base CX k f fd ps vS:=
 ⟨fun vs H Q E q=>F.len vs H Q E (h vs H Q E q),fun A outer s H args us vs Q E hr he hb hv hs=>F.run A outer s H args us vs Q E hr he hb hv (h vs H Q E hs)⟩
theorem RC{P:Nat}(h:n≤5):n*(bO n*P)≤600*P:=by
 have:n*bO n≤600:=by
  match n,h with
  | 0,_=>decide
  | 1,_=>decide
  | 2,_=>decide
  | 3,_=>decide
  | 4,_=>decide
  | 5,_=>decide
 rw [←uS];exact xl _ this
open PySem PySem.W PyProof.Rows
section
variable {n:Nat} {c:Nat→Int}
end
end My
namespace Tm
open PySem PySem.W PyProof.Rows
section
variable {prog:Program} {w:World} {A:Around} {E:aJ} {s:Shared} {κ:SortKind} {key:Keyed→Int} {Ok:Keyed→Prop}
end
section
variable {prog:Program} {w:World} {A:Around} {E:aJ} {s:Shared} {κ:SortKind} {key:Keyed→Int} {Ok:Keyed→Prop}
section
end
end
section
variable {key:Keyed→Int}
end
section
variable {prog:Program} {w:World} {A:Around} {E:aJ} {s:Shared} {κ:SortKind} {key:Keyed→Int} {Ok:Keyed→Prop}
end
section
variable {prog:Program} {w:World} {A:Around} {E:aJ} {s:Shared} {κ:SortKind} {key:Keyed→Int} {Ok:Keyed→Prop}
variable {arr:Array Keyed} {pend:Array (Nat×Nat×Nat)} {g:Nat}
end
section
variable {prog:Program} {w:World} {A:Around} {E:aJ} {s:Shared} {κ:SortKind} {key:Keyed→Int} {Ok:Keyed→Prop} {arr:Array Keyed} {pend:Array (Nat×Nat×Nat)} {g:Nat}
end
section
variable {prog:Program} {w:World} {A:Around} {E:aJ} {s:Shared} {κ:SortKind} {key:Keyed→Int} {Ok:Keyed→Prop} {arr:Array Keyed} {pend:Array (Nat×Nat×Nat)} {g:Nat}
end
section
variable {prog:Program} {w:World} {A:Around} {E:aJ} {s:Shared} {κ:SortKind} {key:Keyed→Int} {Ok:Keyed→Prop} {arr:Array Keyed} {pend:Array (Nat×Nat×Nat)} {g:Nat}
end
section
variable {key:Keyed→Int} {arr ZT:Array Keyed}
end
section
variable {prog:Program} {w:World} {A:Around} {E:aJ} {s:Shared} {κ:SortKind} {key:Keyed→Int} {Ok:Keyed→Prop} {arr:Array Keyed} {pend:Array (Nat×Nat×Nat)} {g:Nat}
end
end Tm
namespace My
open PySem PySem.W PyProof.Rows Tm
section
variable {prog:Program} {w:World} {A:Around} {E:aJ} {s:Shared}
end
open PySem PySem.W PyProof.Rows
section
variable {prog:Program} {w:World} {A:Around} {E:aJ} {s:Shared}
end
end My
namespace L2
open PySem PySem.W PyProof.Rows My
end L2
namespace My
open PySem L2
end My
namespace L2
open PySem PySem.Spec PyProof.Rows
section
variable {X:Cx} {pins:aM} {σ:St} {H:Hp} {s:Shared}
end
end L2
namespace My
open PySem L2
end My
namespace L2
open PySem PySem.Spec PyProof.Rows
def Iz(o:Obj):Nat:=match o.data with
 | .dict _ ep=>ep
 | _=>0
section
variable {X:Cx} {pins:aM} {σ:St} {H:Hp} {s:Shared}
end
section
variable {X:Cx} {tg:Expr}
end
section
variable (P:Program) (w:World)
end
section
variable {P:Program} {w:World} {H H':Hp} {h h':Heap} {a:Addr} {o:HO}
end
section
variable {P:Program} {w:World} {H:Hp} {h h':Heap} {x e:Addr} {o':HO}
end
section
variable {fs A6 ex iH:List Addr} {H H1 H2:Hp} {h h1 h2 h':Heap} {a x e:Addr} {o:HO}
end
section
variable {X:Cx} {pins:aM} {σ:List (Option V)} {H H':Hp} {s:Shared} {h':Heap}
end
section
variable {X:Cx}
variable {a b:Expr} {ta tb:TE} {pos:Pos}
variable {tA Bc:TT} {rest:List Expr}
end
section
variable {X:Cx} {pins:aM} {σ:St} {H:Hp} {s:Shared} {a:Addr} {xs ys:List V}
end
section
variable {X:Cx} {pins:aM} {σ:St} {H:Hp} {s:Shared} {E:aJ}
end
section
variable {X:Cx} {st:Stmt} {rest:List Stmt} {t u:TS} {e:Expr} {te:TE} {pos:Pos}
end
section
variable {X:Cx} {pos:Pos}
end
section
variable {X:Cx} {pos:Pos}
end
section
variable {X:Cx} {tg:Expr}
end
section
variable {X:Cx} {a b c:Expr} {ta tb tc:TE} {pos:Pos}
end
section
variable {X:Cx} {a b c:Expr} {ta tb tc:TE} {pos:Pos}
end
section
variable {prog:Program} {w:World} {A:Around} {E:aJ} {s:Shared} {K:aA} {x dx C f:Addr} {mA:cz} {name:Str} {v:Value}
end
section
variable {P:Program} {w:World} {H H':Hp} {h h':Heap} {a C dx:Addr} {fs A6:List (Str×V)}
end
section
variable {X:Cx} {pins:aM} {σ:St} {H:Hp} {s:Shared} {a C dx:Addr} {fs:List (Str×V)} {f:Str} {v:V} {A:Around} {E:aJ}
end
section
variable {X:Cx} {o e value:Expr} {f:Str} {pos pos' xR:Pos} {ta tv:TE}
end
section
variable {X:Cx} {pins:aM} {σ:St} {H:Hp} {s:Shared} {A:Around} {E:aJ} {Q:aJ} {c:Value} {b:Bool}
end
section
variable {X:Cx} {e:Expr} {es:List Expr} {te:TE} {t:TA} {pos:Pos}
end
section
variable {X:Cx} {pins:aM} {σ:St} {H:Hp} {s s':Shared}
end
section
variable {X:Cx} {CX:gc} {k:Nat} {f C:Addr} {fd:FuncData} {ps:List Str} {sp:Sp} {cX:List V} {ds:List Value} {E:XK} {x m:Str} {p pos apos:Pos} {e o:Expr} {es:List Expr} {ta:TE} {t:TA}
end
section
variable {X:Cx} {CX:gc} {k:Nat} {f C:Addr} {fd:FuncData} {ps ks:List Str} {sp:Sp} {E:XK} {x m:Str} {p pos apos F5:Pos} {e o:Expr} {es:List Expr} {NJ:List Keyword} {te ta:TE} {t tk:TA} {nm:Option Str}
variable {g:List Value→List Value→List Value} {gV:List V→List V→List V}
end
section
variable {X:Cx} {x:Str} {p pos:Pos} {e:Expr} {es:List Expr} {t:TA} {id T:String} {r:List V→Hp→VK→Prop}
end
section
variable {κ:Type} [DecidableEq κ]
def gK(ak:List (κ×V))(k:κ):Option V:=(ak.find? fun kv=>decide (kv.1=k)).map (·.2)
def putK(ak:List (κ×V))(k:κ)(v:V):List (κ×V):=
 if (ak.any fun kv=>decide (kv.1=k))=true then ak.map (fun kv=>if kv.1=k then (kv.1,v) else kv) else ak++[(k,v)]
variable {p:κ×V} {r:List (κ×V)} {k:κ}
theorem yM(e:p.1=k):gK (p::r) k=some p.2:=by simp [gK,rf,e]
theorem yN(e:¬p.1=k):gK (p::r) k=gK r k:=by simp [gK,rf,e]
theorem CK(k:κ):∀ak:List (κ×V),(ak.any fun kv=>decide (kv.1=k))=(gK ak k).isSome
 | []=>rfl
 | p::r=>by
  rw [oF];by_cases e:p.1=k;·simp only [yM e,cN e,Bool.true_or,Option.isSome_some]
  ·rw [yN e,dI e,uJ];exact CK k r
theorem IA(ak:List (κ×V))(k:κ)(v:V):(putK ak k v).length≤ak.length+1:=by
 unfold putK
 split
 ·rw [aD];lia
 ·rw [fe,cx,mZ];lia
variable {ak:List (κ×V)}
theorem RD(v:V)(h:gK ak k=none):putK ak k v=ak++[(k,v)]:=by unfold putK;rw [CK,h];exact ar (by decide)
theorem ic.CL{o:Option V}{u:Option Value}(r:ic o u):o.isSome=u.isSome:=by
 cases o with
 | none=>cases u with
  | none=>rfl
  | some _=>exact (show False from r).elim
 | some _=>cases u with
  | none=>exact (show False from r).elim
  | some _=>rfl
theorem KV.val{vs:List (κ×Value)}(r:KV ak vs)(k:κ):ic (gK ak k) (valueAt vs k):=by
 unfold KV at r
 induction r with
 | nil=>exact True.intro
 | @cons p q ps qs h t ih=>
  obtain ⟨h1,h2⟩:=h;by_cases e:p.1=k
  ·have e':q.1=k:=h1.symm.trans e
   have b:valueAt (q::qs) k=some q.2:=by simp [valueAt,rf,e']
   rw [yM e,b];exact h2
  ·have e':¬q.1=k:=fun z=>e (h1.trans z)
   have b:valueAt (q::qs) k=valueAt qs k:=by simp [valueAt,rf,e']
   rw [yN e,b];exact ih
theorem KV.any{vs:List (κ×Value)}(r:KV ak vs)(k:κ):(ak.any fun kv=>decide (kv.1=k))=vs.any fun kv=>decide (kv.1=k):=by
 unfold KV at r
 induction r with
 | nil=>rfl
 | cons h t ih=>rw [oF,oF,ih,h.1]
variable {y:V} {u:Value}
theorem KV.CM{vs:List (κ×Value)}(r:KV ak vs)(k:κ)(ry:RelV y u) :
  KV (ak.map fun kv=>if kv.1=k then (kv.1,y) else kv) (vs.map fun kv=>if kv.1=k then (kv.1,u) else kv):=by
 unfold KV at r ⊢
 induction r with
 | nil=>exact .nil
 | @cons p q ps qs h t ih=>
  rw [gu,gu];refine .cons ?_ ih;obtain ⟨h1,h2⟩:=h;by_cases e:p.1=k;·rw [aq e,aq (h1.symm.trans e)];exact ⟨h1,ry⟩
  ·rw [ar e,ar (fun z=>e (h1.trans z))];exact ⟨h1,h2⟩
theorem KV.put{vs:List (κ×Value)}(r:KV ak vs)(k:κ)(ry:RelV y u):KV (putK ak k y) (stored vs k u):=by
 unfold putK stored;rw [r.any k];by_cases e:(vs.any fun kv=>decide (kv.1=k))=true;·rw [aq e,aq e];exact r.CM k ry
 ·rw [ar e,ar e];exact Paired.snoc r ⟨rfl,ry⟩
theorem KV.length{vs:List (κ×Value)}(r:KV ak vs):ak.length=vs.length:=Paired.length r
end
variable {P:Program} {w:World} {u:Value}
theorem CN{k:Key}(r:RelV (kV k) u):(gA P w).is k u=true:=by
 cases k with
 | inl i=>obtain ⟨t,e⟩:=(show ∃t,u=Value.int i t from r);subst e;exact Mj P w i t
 | inr x=>obtain ⟨t,e⟩:=(show ∃t,u=Value.str x t from r);subst e;exact Ml P w x t
theorem IC{P:Program}{w:World}:∀{ks:List Key} {us:List Value},Vals (ks.map kV) us→ItemsAre (gA P w) ks us
 | [],_,r=>by rw [lH] at r;cases r;exact .nil
 | k::ks,_,r=>by
  rw [gu] at r;cases r with
  | cons h t=>exact .cons (CN h) (IC t)
abbrev KT (H:Hp):List (List Key×V)→List (List Key×Addr×Value)→Prop:=Paired fun p q=>p.1=q.1∧H q.2.1=some (.tup (p.1.map kV))∧RelV p.2 q.2.2
variable {H:Hp} {ak:List (List Key×V)} {xs:List (List Key×Addr×Value)}
theorem KT.val(r:KT H ak xs)(k:List Key):ic (gK ak k) ((atKey xs k).map (·.2)):=by
 induction r with
 | nil=>exact True.intro
 | @cons p q ps qs h t ih=>
  obtain ⟨h1,_,h2⟩:=h;by_cases e:p.1=k
  ·have e':q.1=k:=h1.symm.trans e
   have b:atKey (q::qs) k=some q.2:=by simp [atKey,rf,e']
   rw [yM e,b];exact h2
  ·have e':¬q.1=k:=fun z=>e (h1.trans z)
   have b:atKey (q::qs) k=atKey qs k:=by simp [atKey,rf,e']
   rw [yN e,b];exact ih
variable {y:V}
theorem KT.CM(r:KT H ak xs)(k:List Key)(ry:RelV y u) :
  KT H (ak.map fun kv=>if kv.1=k then (kv.1,y) else kv) (xs.map (putAt k u)):=by
 induction r with
 | nil=>exact .nil
 | @cons p q ps qs h t ih=>
  rw [gu,gu];refine .cons ?_ ih;obtain ⟨h1,h2,h3⟩:=h;unfold putAt;by_cases e:p.1=k;·rw [aq e,aq (h1.symm.trans e)];exact ⟨h1,h2,ry⟩
  ·rw [ar e,ar (fun z=>e (h1.trans z))];exact ⟨h1,h2,h3⟩
variable {b:Addr}
theorem KT.put(r:KT H ak xs)(k:List Key)(hb:H b=some (.tup (k.map kV)))(ry:RelV y u) :
  KT H (putK ak k y) (storedH xs k b u):=by
 have e:(ak.any fun kv=>decide (kv.1=k))=(atKey xs k).isSome:=by rw [CK,(r.val k).CL,Option.isSome_map]
 unfold putK storedH;rw [e];by_cases q:(atKey xs k).isSome=true;·rw [aq q,aq q];exact r.CM k ry
 ·rw [ar q,ar q];exact Paired.snoc r ⟨rfl,hb,ry⟩
theorem KT.keeps{H':Hp}(r:KT H ak xs)(ht:∀b ys,H b=some (.tup ys)→H' b=some (.tup ys)):KT H' ak xs:=
 Paired.A4 r fun _ _ z=>⟨z.1,ht _ _ z.2.1,z.2.2⟩
section
variable {P:Program} {w:World} {H:Hp} {h:Heap} {a:Addr}
theorem ID{u:HO}(ok:bT P w H h)(e:Rd H a u):cC P w H h a u:=e.ok ok
theorem IE{ak:List (Key×V)}(ok:bT P w H h)(e:Rd H a (.dK ak)):ak.length≤sizeLine∧(a == sysModules)=false∧∃vs,KV ak vs∧h.DictOf (gA P w) a vs:=
 show cC P w H h a (.dK ak) from ID ok e
theorem RE{ak:List (Key×V)}(ok:bT P w H h)(e:H a=some (.dK ak)):ak.length≤sizeLine∧(a == sysModules)=false∧∃vs,KV ak vs∧h.DictOf (gA P w) a vs:=IE ok (.inl e)
theorem CO{ks:List Key}(ok:bT P w H h)(e:H a=some (.tup (ks.map kV))):(tupleKind (gA P w)).is h ks a:=by obtain ⟨_,ai,r,o,h1,h2,n,h3⟩:=(show cC P w H h a (.tup (ks.map kV)) from ok a _ e);exact ⟨o,ai.toArray,n,h1,h2,h3,by simpa using IC r⟩
theorem IF(ok:bT P w H h)(e:Rd H a (.dT ak)):ak.length≤sizeLine∧(a == sysModules)=false ∧
  ∃xs,KT H ak xs∧h.DictOfH (tupleKind (gA P w)) a xs:=by
 obtain ⟨z,y,xs,r,o,es,ep,h1,h2,h3,h4,h5⟩:=(show cC P w H h a (.dT ak) from ID ok e);refine ⟨z,y,xs,r,o,es,ep,h1,h2,h3,h4,fun x hx=>?_,h5⟩;have all:∀{l:List (List Key×V)} {m:List (List Key×Addr×Value)},KT H l m→∀x∈m,(tupleKind (gA P w)).is h x.1 x.2.1:=by
  intro l m q
  induction q with
  | nil=>intro x hx;exact nomatch hx
  | @cons p q ps qs hq t ih=>
   intro x hx;rcases dq.mp hx with e | hx
   ·subst e
    exact CO ok (by rw [←hq.1];exact hq.2.1)
   ·exact ih x hx
 exact all r x hx
theorem IG(ok:bT P w H h)(e:H a=some (.dT ak)):ak.length≤sizeLine∧(a == sysModules)=false ∧
  ∃xs,KT H ak xs∧h.DictOfH (tupleKind (gA P w)) a xs:=IF ok (.inl e)
end
def vT(H:Hp)(a:Addr)(y:V)(r:Option V):Prop:=
 (∃ak k,Rd H a (.dK ak)∧y=kV k∧r=gK ak k)∨∃ak k b,Rd H a (.dT ak)∧y=.ref b∧H b=some (.tup (k.map kV))∧r=gK ak k
def vU(H:Hp)(a:Addr)(y v:V)(H':Hp):Prop:=
 (∃ak k,H a=some (.dK ak)∧y=kV k∧ak.length<sizeLine∧H'=upd H a (.dK (putK ak k v))) ∨
 ∃ak k b,H a=some (.dT ak)∧y=.ref b∧H b=some (.tup (k.map kV))∧ak.length<sizeLine∧H'=upd H a (.dT (putK ak k v))
variable {a:Addr} {k:List Key}
theorem vT.t(e:H a=some (.dT ak))(eb:H b=some (.tup (k.map kV))):vT H a (.ref b) (gK ak k):=.inr ⟨ak,k,b,.inl e,rfl,eb,rfl⟩
theorem vU.t{v:V}(e:H a=some (.dT ak))(eb:H b=some (.tup (k.map kV)))(hl:ak.length<sizeLine) :
  vU H a (.ref b) v (upd H a (.dT (putK ak k v))):=.inr ⟨ak,k,b,e,rfl,eb,hl,rfl⟩
section
variable {X:Cx} {pins:aM} {σ:St} {H:Hp} {s:Shared} {a:Addr} {y v:V} {u r:Value} {o:Option V} {A:Around} {E:aJ}
theorem Inv.big(I:Inv X pins σ H s):sysModules<s.heap.objs.size:=by have h:mainGlobals<s.heap.objs.size:=(I.mod.glob.keeps I.bk).lt;exact Nat.lt_trans (by decide) h
theorem RF{Q:aJ}(hu:A.units+1<cLine)(I:Inv X pins σ H s)(g:vT H a y o)(ry:RelV y u)(h:∀s',Inv X pins σ H s'→Q (.bool o.isSome) s') :
  wpAny (model X.prog X.w) A (compareOp .In u (.ref a)) Q E s:=by
 rcases g with ⟨ak,k,e,ey,l⟩ | ⟨ak,k,b,e,ey,eb,l⟩
 ·subst ey
  obtain ⟨z,hd,vs,rel,dd⟩:=IE I.au e;refine wpAny_in_of (CN ry) hd dd.mapOf ?_;rw [←(rel.val k).CL,←l];exact h _ (I.tok _)
 ·subst ey
  cases (show u=Value.ref b from ry);obtain ⟨z,hd,xs,rel,dd⟩:=IF I.au e;refine wpAny_in_heap (tupleKind_room_in1 hu) (CO I.au eb) hd dd ?_;have q:=(rel.val k).CL;rw [Option.isSome_map] at q;rw [←q,←l];exact h _ (I.tok _)
variable {h':Heap}
theorem IH{t':Nat}{ob:HO}(I:Inv X pins σ H s)(mu:uV (H a))(hs:Heap.SameBut a s.heap h')(he:∃q,h'.get? a=some q)(new:cC X.prog X.w (upd H a ob) h' a ob) :
  Inv X pins σ (upd H a ob) {s with heap:=h',toks:=t'}:=
 I.write (x:=a) (e:=a) mu (.inl rfl) (fun b q hb z=>(hs.2 b hb).trans z) he new
variable {H':Hp}
theorem RG{ak:List (Key×V)}{vs:List (Key×Value)}(z:ak.length≤sizeLine)(hd:(a == sysModules)=false)(rel:KV ak vs)(dd:h'.DictOf (gA P w) a vs) :
  cC P w H' h' a (.dK ak):=⟨z,hd,vs,rel,dd⟩
theorem RH{Q:Unit→Shared→Prop}(hu:A.units+1<cLine)(I:Inv X pins σ H s)(g:vU H a y v H')(ry:RelV y u)(rv:RelV v r)(h:∀s',Inv X pins σ H' s'→Q () s') :
  wpAny (model X.prog X.w) A (setItem (.ref a) u r) Q E s:=by
 rcases g with ⟨ak,k,e,ey,l,eH⟩ | ⟨ak,k,b,e,ey,eb,l,eH⟩
 ·subst ey eH
  obtain ⟨z,hd,vs,rel,dd⟩:=RE I.au e;have hz:vs.length≤sizeLine:=by rw [←rel.length];exact z
  have hl:(putK ak k v).length≤sizeLine:=by have:=IA ak k v;lia
  refine wpAny_setItem_pairs (hsz:=hz) (CN ry) dd fun h' pj hs=>h _ ?_;have he:∃q,h'.get? a=some q:=let ⟨q,_,_,hq,_⟩:=pj;⟨q,hq⟩
  exact IH I (by rw [e];exact True.intro) hs he (RG hl hd (rel.put k rv) pj)
 ·subst ey eH
  cases (show u=Value.ref b from ry);obtain ⟨z,hd,xs,rel,dd⟩:=IG I.au e;have hz:xs.length≤sizeLine:=by rw [←Paired.length rel];exact z
  have hl:(putK ak k v).length≤sizeLine:=by have:=IA ak k v;lia
  refine wpAny_setItem_heap (hsz:=hz) (tupleKind_room_in1 hu) (CO I.au eb) dd fun h' pj hs=>h _ ?_;obtain ⟨q,es,ep,hq,h2,h3,h4,_,h5⟩:=pj;refine IH I (by rw [e];exact True.intro) hs ⟨q,hq⟩ ⟨hl,hd,_,(rel.put k eb rv).keeps fun c ys ec=>?_,q,es,ep,hq,h2,h3,h4,h5⟩
  rw [aH (Mm ec e (fun z=>nomatch z))];exact ec
end
section
variable {X:Cx} {pins:aM} {σ:St} {H:Hp} {s:Shared} {a:Addr} {ak:List (Key×V)} {k:Key} {u:Value} {A:Around} {E:aJ}
end
def RI(ty td:TE):TE:=fun σ H Q=>ty σ H fun y H1=>td σ H1 fun x H2=>∃a o,x=.ref a∧vT H2 a y o∧Q (.bl o.isSome) H2
def RJ(td ty tv:TE):TS:=fun D σ H=>tv σ H fun v H1=>td σ H1 fun x H2=>ty σ H2 fun y H3=>∃a H4,x=.ref a∧vU H3 a y v H4∧D.nx σ H4
section
variable {X:Cx} {o i e value:Expr} {pos pos' xR:Pos} {td ty tv:TE}
theorem RK(hu:X.A.units+1<cLine)(hi:PE X i ty)(ho:PE X o td):PC X .In i o (RI ty td):=by intro pins s σ H Q I h;refine aF (hi pins s σ H _ I h) fun iv s1 ⟨y,H1,I1,ry,q1⟩=>aF (ho pins s1 σ H1 _ I1 q1) fun u s2 ⟨x,H2,I2,rx,a,ov,ex,g,q2⟩=>?_;subst ex;obtain rfl:u=Value.ref a:=rx;exact RF hu I2 g ry fun s3 I3=>⟨.bl ov.isSome,H2,I3,rfl,q2⟩
theorem RM(hu:X.A.units+1<cLine)(ho:PE X o td)(hi:PE X i ty)(hv:PE X value tv)(hs:swapsWith value (some (.Subscript o i pos')) pos.line X.env=pure false) :
  PS X (.Assign [.Subscript o i pos'] value pos) (RJ td ty tv):=by
 intro pins s σ H D I h;refine wpAny_Assign_Subscript (aF (hv pins s σ H _ I h) fun r s1 ⟨v,H1,I1,rv,q1⟩=>aF (ho pins s1 σ H1 _ I1 q1) fun u s2 ⟨x,H2,I2,rx,q2⟩=>aF (hi pins s2 σ H2 _ I2 q2) fun iv s3 ⟨y,H3,I3,ry,a,H4,ex,g,q3⟩=>?_) hs;subst ex;obtain rfl:u=Value.ref a:=rx;exact RH hu I3 g ry rv fun s4 I4=>⟨σ,H4,I4,q3⟩
end
theorem RN(h:Heap)(hb:sysModules<h.objs.size):cC P w H (h.push {cls:=.type "dict",data:=.dict #[]}) h.objs.size (.dT []):=
 ⟨cT _,jC.mpr (Ne.symm (dB hb)),[],.nil,_,#[],0,fc _ rfl,⟨rfl,rfl,rfl⟩,rfl,rfl,List.nodup_nil⟩
def RO:TE:=fun _ H Q=>∀p,H p=none→Q (.ref p) (upd H p (.dT []))
section
variable {X:Cx} {pos:Pos}
theorem RP:PE X (.Dict [] [] pos) RO:=fun pins s σ H Q I h=>wpAny_Dict_empty ⟨.ref s.heap.objs.size,_,I.laid (a:=s.heap.objs.size) (o:=.dT []) (t':=s.toks) (fun _ _ q=>b9 _ q) (aI _) (RN s.heap I.big),rfl,h _ (I.au.fresh (aI _))⟩
end
section
variable {X:Cx} {pins:aM} {σ:St} {H:Hp} {s:Shared} {a:Addr} {y d:V} {u r:Value} {o:Option V} {A:Around} {E:aJ}
end
section
variable {X:Cx} {o e f:Expr} {apos gX:Pos} {td ty tx:TE}
end
section
variable {X:Cx} {pins:aM} {σ:St} {H:Hp} {s:Shared} {a:Addr} {ak:List (Key×V)} {A:Around} {E:aJ}
end
section
variable {X:Cx} {pins:aM} {σ:St} {H:Hp} {s:Shared} {a:Addr} {y:V} {u:Value} {A:Around} {E:aJ}
end
end L2
namespace x4
open PySem PySem.W PySem.Calls PyProof.Rows
section
variable {prog:Program} {w:World} {A:Around} {E:aJ} {s:Shared} {K:Frag}
end
end x4
namespace L2
open PySem PySem.Spec PyProof.Rows
section
variable {P:Program} {w:World} {K:aA} {mg:cz} {base:Heap}
end
section
variable {X:Cx}
end
section
variable {κ:Type} [DecidableEq κ]
end
end L2
namespace My
open PySem L2
end My
namespace L2
open PySem PySem.Spec PyProof.Rows
def II(K:aA):R2:=fun x y H Q=>∃(a b:Addr) (xs ys:List Int),x=.ref a∧y=.ref b∧bh K H a (xs.map V.int)∧bh K H b (ys.map V.int)∧Q (.bl (decide (xs=ys))) H
theorem RQ{X:Cx}(hu:X.A.units+64<cLine):b8 X (compareOp .Eq) (II X.K):=by
 intro pins s σ H x y v u Q I rx ry h;obtain ⟨a,b,xs,ys,rfl,rfl,h1,h2,q⟩:=h;cases rx;cases ry;obtain ⟨us,r1,t1,_⟩:=I.list h1;obtain ⟨vs,r2,t2,_⟩:=I.list h2;have l1:=r1.length;have l2:=r2.length;rw [aD] at l1 l2;by_cases hl:xs.length=ys.length
 ·refine xk (e:=fun j=>fI (.int (xs.getD j 0)) (.int (ys.getD j 0))) t1.isList t2.isList (by simp;lia) (by lia) (fun j z1 z2=>?_) _ _ _ _ ?_
  ·have vA:j<us.length:=by simpa using z1
   have vB:j<vs.length:=by simpa using z2
   have ex:(xs.map V.int)[j]?=some (.int (xs.getD j 0)):=by rw [bo,bq];simp [show j<xs.length by lia]
   have ey:(ys.map V.int)[j]?=some (.int (ys.getD j 0)):=by rw [bo,bq];simp [show j<ys.length by lia]
   obtain ⟨x',iH,rx⟩:=r1.get ex;obtain ⟨y',ke,ry⟩:=r2.get ey;have e1:us.toArray[j]=x':=by simpa using (aW.mp iH).2
   have e2:vs.toArray[j]=y':=by simpa using (aW.mp ke).2
   rw [e1,e2];exact rJ rx ry rfl rfl
  ·rw [show us.toArray.size=xs.length by simp;lia,HQ hl]
   exact ⟨.bl (decide (xs=ys)),H,I,rfl,q⟩
 ·rw [dI (fun e=>hl (by rw [e]))] at q
  refine AX t1.isList t2.isList ?_ (by lia) _ _ _ _ ⟨.bl false,H,I,rfl,q⟩
  simp;lia
end L2
namespace My
open PySem L2
theorem RR{wi:TI}{ρ:St→St}{tt:TT}{te:TE}{σ:St}{H:Hp}{Q:VK}(h:wi σ H fun J H1=>iu (fun _ H R=>R J H) ρ tt te σ H1 Q):iu wi ρ tt te σ H Q:=h
end My
namespace L2
open PySem PySem.Spec PyProof.Rows
section
variable {X:Cx} {pins:aM} {σ:St} {H:Hp} {s:Shared}
end
end L2
namespace My
open PySem L2
end My
namespace L2
open PySem PySem.Spec PyProof.Rows
end L2
namespace My
open PySem L2
end My
namespace L2
open PySem PySem.Spec PyProof.Rows
end L2
namespace My
open PySem L2
end My
namespace L2
open PySem PySem.Spec PyProof.Rows
end L2
namespace My
open PySem L2
end My
namespace L2
open PySem PySem.Spec PyProof.Rows
end L2
namespace My
open PySem L2
variable {n:Nat} {RS:Nat→Nat→Prop} {RT:Nat→Prop} {s:Nat}
end My
namespace L2
open PySem PySem.Spec PyProof.Rows
theorem IJ{X:Cx}{K:aA}(hk:X.K=K:=by rfl):b8 X (compareOp .NotIn) (Bu K true):=by subst hk;exact N4
end L2
namespace My
open PySem L2
end My
namespace L2
open PySem PySem.Spec PyProof.Rows
end L2
namespace My
open PySem L2
end My
namespace L2
open PySem PySem.Spec PyProof.Rows My
end L2
namespace My
open PySem L2
end My
namespace L2
open PySem PySem.Spec PyProof.Rows My
end L2
namespace My
open PySem L2
section
variable {RS:Nat→Nat→Prop} {RT ZU:Nat→Prop} {s t:Nat}
end
end My
namespace L2
open PySem PySem.Spec PyProof.Rows
section
variable {X:Cx} {a b:Expr} {rest:List Expr} {pos:Pos} {ta tb:TE}
end
end L2
namespace My
open PySem L2
end My
namespace L2
open PySem PySem.Spec PyProof.Rows
section
variable {prog:Program} {w:World} {A:Around} {E:aJ} {s:Shared}
end
section
variable {prog:Program} {w:World} {A:Around} {E:aJ} {s:Shared}
end
section
variable {X:Cx}
end
section
variable {prog:Program} {w:World} {A:Around} {E:aJ} {s:Shared}
end
end L2
namespace My
open PySem L2
end My
namespace L2
open PySem PySem.Spec PyProof.Rows
end L2
namespace My
open PySem L2
end My
namespace L2
open PySem PySem.Spec PyProof.Rows
section
variable {X:Cx}
end
end L2
namespace My
open PySem L2
end My
namespace L2
open PySem
section
variable {prog:Program} {w:World} {A:Around} {E:aJ} {s:Shared}
def vV(h:Heap)(d:Addr)(es:Array DictEntry)(ep:Nat):Prop:=∃o,h.get? d=some o∧o.ExactDict∧o.data=.dict es ep
theorem vV.ty{d:Addr}{es:Array DictEntry}{ep:Nat}(h:vV s.heap d es ep):s.TypeIs (.ref d) "dict":=let ⟨o,ho,hc,_⟩:=h;⟨o,ho,hc.1⟩
end
end L2
namespace My
open PySem L2
end My
namespace L2
open PySem PySem.Spec PyProof.Rows My
end L2
namespace My
open PySem L2
section
variable {P a d:Addr} {H Hc:Hp} {n m:Nat} {L:a8}
end
section
variable {n:Nat} {E:Nat→Nat→Prop} {pos rk:Nat→Nat}
end
open PySem PySem.W PyProof.Rows Tm
section
variable {prog:Program} {w:World} {A:Around} {E:aJ} {s:Shared}
end
open PySem PySem.W PyProof.Rows
section
variable {prog:Program} {w:World} {A:Around} {E:aJ} {s:Shared}
end
end My
namespace L2
open PySem PySem.W PyProof.Rows My
end L2
namespace My
open PySem PySem.W PyProof.Rows
section
variable {prog:Program} {w:World} {A:Around} {E:aJ} {s:Shared} {R:Result→Shared→Prop}
end
open PySem PySem.W PyProof.Rows L2
section
variable {prog:Program} {w:World} {A:Around} {s:Shared}
end
end My
namespace L2
open PySem PySem.W PyProof.Rows My
end L2
namespace My
open PySem L2
end My
namespace L2
open PySem PySem.Spec PyProof.Rows My
end L2
namespace My
open PySem L2
end My
namespace L2
open PySem
section
variable {prog:Program} {w:World} {A:Around} {E:aJ} {s:Shared}
theorem RU{d:Addr}{es:Array DictEntry}{ep:Nat}{Q:aJ}(hd:(d == sysModules)=false)(hm:vV s.heap d es ep)(Gp:(es.size:Int)<2 ^ 63)
  (h:Q (.int es.size (s.toks+1)) {s with toks:=s.toks+1+1}):wpAny (model prog w) A (call (.builtin "len") [.ref d]) Q E s:=by
 refine PyProof.Rows.call_len_slot (n:=es.size) hm.ty F.slot_dict_len (fun Q' hq=>?_) (by lia) (by lia) h
 refine wpAny_call_entry F.slot_dict_len hm.ty F.entry_dict_len ?_ (F.args_dict_len_1 _);obtain ⟨o,ho,hc,RV⟩:=hm;show wpAny _ _ (dictSize d >>= _) _ _ s;unfold dictSize;refine bG (bG (wpAny_dictEntries ho RV (dC ?_)));show wpAny _ _ (Builtin.Dict.pendingCount d >>= _) _ _ s;refine bG (wpAny_pendingCount_other hd ?_);refine wpAny_ret_mkInt ?_;show Q' (.int ((es.size:Int)+(0:Int)) s.toks) _;rw [Int.add_zero];exact hq
end
open PySem PySem.Spec PyProof.Rows My
end L2
namespace My
open PySem L2
end My
namespace L2
open PySem PySem.W PyProof.Rows
section
variable {prog:Program} {w:World} {A:Around} {E:aJ} {s:Shared}
end
open AutoSeq1 (wpAny_loadPart')
section
variable {prog:Program} {w:World} {A:Around} {E:aJ} {s:Shared}
end
end L2
namespace My
open PySem L2
end My
namespace L2
open PySem PySem.Spec PyProof.Rows My
end L2
namespace My
open PySem L2
open PySem L2 Classical
theorem yO{a b:TS}{D:Ends}{σ:St}{H:Hp}(h:∀R:St→Hp→Prop,(∀σ H,b D σ H→R σ H)→a {D with nx:=R} σ H):rB a b D σ H:=h _ fun _ _ h=>h
end My
namespace L2
open PySem PySem.Spec PyProof.Rows
section
variable {prog:Program} {w:World} {A:Around} {E:aJ} {s:Shared}
end
section
variable {X:Cx} {tg:Expr}
end
section
variable {prog:Program} {w:World} {K:Type} [DecidableEq K] {knd:HeapKind prog w K} {A:Around} {E:aJ} {s:Shared}
end
section
variable {prog:Program} {w:World} {A:Around} {E:aJ} {s:Shared}
end
section
variable {X:Cx} {pins:aM} {σ:St} {H:Hp} {s:Shared}
theorem Inv.RW{a:Addr}{o:Obj}{ak:List (List Key×V)}(I:Inv X pins σ H s)(h:H a=some (.fh o (.dT ak))):∃(xs:List (List Key×Addr×Value)) (es:Array DictEntry),KT H ak xs∧(a == sysModules)=false∧vV s.heap a es (Iz o)∧es.toList=xs.map (entryOfKey (tupleKind (gA X.prog X.w))):=by obtain ⟨g,_,sys,xs,r,o',es,ep,g',c,d,e,_⟩:=(show cC X.prog X.w H s.heap a (.fh o (.dT ak)) from I.au a _ h);rw [g] at g';cases g';refine ⟨xs,es,r,sys,⟨o,g,c,?_⟩,e⟩;rw [d];unfold Iz;rw [d]
end
section
variable {X:Cx} {tg:Expr}
end
open PySem PySem.W PyProof.Rows My
end L2
namespace My
open PySem L2
end My
namespace L2
open PySem
end L2
namespace My
theorem IK{α:Type}[DecidableEq α]:∀{l m:List α},l.Nodup→(∀x∈l,x∈m)→l.length≤m.length
 | [],_,_,_=>cT _
 | x::l,m,nd,h=>by obtain ⟨nx,nd⟩:=oE.mp nd;have xm:=h x g9;have:=IK (m:=m.erase x) nd fun y hy=>(List.mem_erase_of_ne (fun e:y=x=>nx (e▸hy))).mpr (h y (fO _ hy));rw [List.length_erase_of_mem xm] at this;have:=xq xm;rw [cx];lia
end My
namespace L2
open PySem My
open PySem
open PySem PySem.Spec PyProof.Rows My
section
variable {prog:Program} {w:World} {A:Around} {E:aJ} {s:Shared}
end
section
variable {X:Cx} {pins:aM} {σ:St} {H:Hp} {s:Shared}
end
section
variable {X:Cx} {tg:Expr}
end
open PySem PySem.Spec PyProof.Rows
section
variable {prog:Program} {w:World} {A:Around} {E:aJ} {s:Shared}
end
section
variable {X:Cx}
end
def IL(H:Hp)(a:Addr)(ak:List (List Key×V)):Prop:=H a=some (.dT ak)∨∃o,H a=some (.fh o (.dT ak))
variable {X:Cx}
theorem Inv.RX{pins:aM}{σ:St}{H:Hp}{s:Shared}{a:Addr}{ak:List (List Key×V)}(I:Inv X pins σ H s)(h:IL H a ak):∃(xs:List (List Key×Addr×Value)) (es:Array DictEntry) (ep:Nat),KT H ak xs∧(a == sysModules)=false∧vV s.heap a es ep∧es.toList=xs.map (entryOfKey (tupleKind (gA X.prog X.w))):=by
 rcases h with h | ⟨o,h⟩
 ·obtain ⟨_,sys,uX,kt,o,es,ep,g,c,dd,e4,e5,e6⟩:=IG I.au h
  exact ⟨uX,es,ep,kt,sys,⟨o,g,c,dd⟩,e4⟩
 ·obtain ⟨xs,es,r,sys,hm,he⟩:=I.RW h
  exact ⟨xs,es,_,r,sys,hm,he⟩
theorem RY:gT X (.builtin "len") (fun xs H Q=>∃a ak,xs=[V.ref a]∧IL H a ak∧ak.length≤10000∧Q (.int ak.length) H):=by
 intro pins s σ H xs us Q I r h;obtain ⟨d,ak,rfl,hp,hn,q⟩:=h;obtain ⟨u,rfl,ru⟩:=vals1 r;cases ru;obtain ⟨xs,es,ep,kt,sys,hm,e4⟩:=I.RX hp;have sz:es.size=ak.length:=by rw [size_of_entries e4,←Paired.length kt]
 exact RU sys hm (by lia) ⟨.int ak.length,H,I.tok _,⟨s.toks+1,by rw [sz]⟩,q⟩
end L2
namespace My
open PySem L2
theorem IM{α β:Type}{f:α→β}:∀{l:List α},l.Nodup→(∀a∈l,∀b∈l,f a=f b→a=b)→(l.map f).Nodup
 | [],_,_=>List.nodup_nil
 | x::l,h,i=>by obtain ⟨h1,h2⟩:=oE.mp h;refine oE.mpr ⟨fun m=>?_,IM h2 fun a ha b hb=>i a (fO _ ha) b (fO _ hb)⟩;obtain ⟨y,hy,e⟩:=da.mp m;exact h1 (i y (fO _ hy) x g9 e▸hy)
end My
namespace L2
open PySem PySem.Spec PyProof.Rows My
section
variable {prog:Program} {w:World} {A:Around} {E:aJ} {s:Shared}
end
end L2
namespace My
open PySem L2
def gz(t:List Int)(k:Nat):Int:=t.getD k 0
def dZ(t u:List Int):Int:=(List.zipWith (· * ·) t u).sum
theorem gr:∀{m:Nat} {t u:List Int},t.length=m→u.length=m→dZ t u=ah m fun k=>gz t k*gz u k
 | 0,[],[],_,_=>rfl
 | m+1,x::t,y::u,h1,h2=>by
  have ih:=@gr m t u (by simpa using h1) (by simpa using h2)
  show x*y+dZ t u=_;rw [ih];rfl
def bP(q:Int)(t:List Int):Prop:=∀x∈t,0≤x∧x<q
variable {q:Int} {k:Nat}
theorem kj{t:List Int}(h:bP q t)(hk:k<t.length):0≤gz t k∧gz t k<q:=by unfold gz;rw [bq,bw hk];exact h _ (a7 hk)
variable {u:List Int}
theorem yP{t:List Int}(h:t.length=u.length)(e:∀k,k<t.length→gz t k=gz u k):t=u:=by refine kG h fun k h1 h2=>?_;have:=e k h1;unfold gz at this;rw [bq,bq,bw h1,bw h2] at this;exact this
variable {n:Nat}
theorem CP{f:Nat→Int}(h:k<n):gz ((List.range n).map f) k=f k:=by unfold gz;rw [bq,bo,List.getElem?_range h];rfl
variable {b:Int}
theorem CQ{a:Int}(ha:0≤a∧a<q)(hb:0≤b∧b<q)(h:Cg q a b):a=b:=by have:=Int.emod_emod_of_dvd;have e:=AY.mpr (Int.emod_eq_zero_of_dvd h);rw [jf ha.1 ha.2,jf hb.1 hb.2] at e;exact e
theorem CS{a:Int}(h:a % q=b % q):Cg q a b:=AN (AY.mp h)
theorem vW{a:Int}(h:Cg q a b):a % q=b % q:=AY.mpr (Int.emod_eq_zero_of_dvd h)
def bQ(p:Nat):Nat→List (List Int)
 | 0=>[[]]
 | k+1=>(bQ p k).flatMap fun r=>(List.range p).map fun x:Nat=>r++[(x:Int)]
theorem kl{p:Nat}:∀{k:Nat} {r:List Int},r∈bQ p k↔r.length=k∧bP p r
 | 0,r=>by
  constructor
  ·intro h
   have e:r=[]:=by simpa [bQ] using h
   subst e;exact ⟨rfl,fun x hx=>by cases hx⟩
  ·intro h
   rw [List.eq_nil_of_length_eq_zero h.1];exact g9
 | k+1,r=>by
  show r∈(bQ p k).flatMap _↔_;rw [List.mem_flatMap];constructor
  ·rintro ⟨s,hs,h⟩
   obtain ⟨x,hx,rfl⟩:=da.mp h;obtain ⟨h1,h2⟩:=kl.mp hs;refine ⟨by simp [h1],fun y hy=>?_⟩
   rcases lC.mp hy with hy | hy;·exact h2 y hy
   ·rw [g_.mp hy]
    have:=gM.mp hx;lia
  ·intro ⟨h1,h2⟩
   have hr:r≠[]:=fun z=>by rw [z] at h1;cases h1
   have e:=List.dropLast_concat_getLast hr;refine ⟨r.dropLast,kl.mpr ⟨by rw [List.length_dropLast,h1];rfl,fun x hx=>h2 x ((List.dropLast_sublist r).subset hx)⟩,da.mpr ⟨(r.getLast hr).toNat,?_,?_⟩⟩
   ·have:=h2 _ (List.getLast_mem hr)
    rw [gM];lia
   ·have:=h2 _ (List.getLast_mem hr)
    rw [Int.toNat_of_nonneg this.1];exact e
theorem yQ(p:Nat):∀k:Nat,(bQ p k).Nodup
 | 0=>by simp [bQ]
 | k+1=>by
  show ((bQ p k).flatMap _).Pairwise _;rw [List.pairwise_flatMap];refine ⟨fun r _=>?_,(yQ p k).imp fun{r s} ne x hx y hy e=>?_⟩
  ·refine List.Pairwise.map _ (fun a b (ZV:a<b) e=>?_) AW
   have:=List.append_cancel_left e;simp at this;lia
  ·obtain ⟨a,_,rfl⟩:=da.mp hx
   obtain ⟨b,_,rfl⟩:=da.mp hy;exact ne (List.append_inj_left' e rfl)
theorem pK(p:Nat):∀k:Nat,(bQ p k).length=p ^ k
 | 0=>rfl
 | k+1=>by
  show ((bQ p k).flatMap _).length=_;rw [List.length_flatMap];have e:∀l:List (List Int),(l.map fun r=>((List.range p).map fun x:Nat=>r++[(x:Int)]).length).sum=l.length*p:=fun l=>by
   induction l with
   | nil=>simp
   | cons a l ih=>rw [gu,List.sum_cons,ih,aD,fQ,cx,Nat.succ_mul,Nat.add_comm]
  rw [e,pK p k,Nat.pow_succ]
def eV(q:Int)(tab:List (List Int))(x:List Int):List Int:=tab.map fun t=>dZ t x % q
structure km (q:Int) (m:Nat) (tab ms:List (List Int)) (fs:List Nat):Prop where
 len:ms.length=fs.length
 row:∀v∈ms,v.length=m∧bP q v
 IP:∀v∈ms,∀t∈tab,Cg q (dZ t v) 0
 own:∀i,i<ms.length→gz (ms.getD i []) (fs.getD i 0)=1
 yL:∀i j,i<ms.length→j<ms.length→i≠j→gz (ms.getD i []) (fs.getD j 0)=0
 jg:∀f∈fs,f<m
 zero:∀x:Nat→Int,(∀t∈tab,Cg q (ah m fun k=>gz t k*x k) 0)→(∀f∈fs,Cg q (x f) 0)→∀k,k<m→Cg q (x k) 0
def cI(q:Int)(m:Nat)(ms:List (List Int))(b:List Int):List Int:=(List.range m).map fun j=>dZ b (ms.map fun v=>gz v j) % q
section
variable {q:Int} {m:Nat} {tab ms:List (List Int)} {fs:List Nat}
theorem sk{b:List Int}:(cI q m ms b).length=m:=by unfold cI;simp
theorem IQ(q1:0<q){b:List Int}:bP q (cI q m ms b):=fun x hx=>by unfold cI at hx;obtain ⟨j,_,rfl⟩:=da.mp hx;exact ⟨gy _ (by lia),gN _ q1⟩
theorem IS{b:List Int}(hb:b.length=ms.length){j:Nat}(hj:j<m):Cg q (gz (cI q m ms b) j) (ah ms.length fun i=>gz b i*gz (ms.getD i []) j):=by
 unfold cI;rw [CP hj,gr hb (by rw [aD])]
 refine (pE q _).trans (Cg.of_eq (cq fun i hi=>?_))
 congr 1
 unfold gz;rw [bq,bo,bq (l:=ms),bw hi];rfl
theorem CT(M:km q m tab ms fs){b:List Int}(hb:b.length=ms.length){i:Nat}(hi:i<ms.length):Cg q (gz (cI q m ms b) (fs.getD i 0)) (gz b i):=by
 have hf:fs.getD i 0<m:=M.jg _ (by rw [getD_at (by rw [←M.len];exact hi)];exact a7 _)
 refine (IS hb hf).trans ?_;refine Cg.of_eq ((cq fun k hk=>?_).trans (nY ms.length i (fun k=>gz b k) hi));by_cases e:k=i
 ·subst e
  rw [aq rfl,M.own k hk,iC]
 ·rw [ar e,M.yL k i hk hi e,cy]
theorem IT(M:km q m tab ms fs)(wd:∀t∈tab,t.length=m){b:List Int}(hb:b.length=ms.length){t:List Int}(ht:t∈tab):Cg q (dZ t (cI q m ms b)) 0:=by
 rw [gr (wd t ht) sk];refine (ed fun j hj=>Cg.mulL (gz t j) (IS hb hj)).trans ?_;have e:(ah m fun j=>gz t j*ah ms.length fun i=>gz b i*gz (ms.getD i []) j)=ah ms.length fun i=>gz b i*ah m fun j=>gz t j*gz (ms.getD i []) j:=by rw [show (ah m fun j=>gz t j*ah ms.length fun i=>gz b i*gz (ms.getD i []) j)=ah m fun j=>ah ms.length fun i=>gz t j*(gz b i*gz (ms.getD i []) j) from cq fun j _=>cB _ _ _,vD];refine cq fun i _=>?_;rw [cB];refine cq fun j _=>?_;rw [←iG,←iG,fg (gz t j)]
 rw [e];refine (ed (g:=fun _=>0) fun i hi=>?_).trans (Cg.of_eq (gI _));have hm:ms.getD i []∈ms:=by rw [getD_at hi];exact a7 _
 have:=M.IP _ hm t ht;rw [gr (wd t ht) (M.row _ hm).1] at this;have:=Cg.mulL (gz b i) this
 rwa [cy] at this
theorem RZ(M:km q m tab ms fs){b c:List Int}(hb:b.length=ms.length∧bP q b)(hc:c.length=ms.length∧bP q c)(e:cI q m ms b=cI q m ms c):b=c:=by
 refine yP (hb.1.trans hc.1.symm) fun k hk=>?_;have cZ:k<ms.length:=by lia
 have h1:=CT M hb.1 cZ;have h2:=CT M hc.1 cZ;rw [e] at h1;exact CQ (kj hb.2 hk) (kj hc.2 (by lia)) (h1.symm.trans h2)
variable {x:List Int}
theorem R1(M:km q m tab ms fs)(wd:∀t∈tab,t.length=m)(q1:0<q)(hx:x.length=m∧bP q x)(hk:∀t∈tab,Cg q (dZ t x) 0):∃b,b.length=ms.length∧bP q b∧cI q m ms b=x:=by
 have hb:(fs.map fun f=>gz x f).length=ms.length:=by rw [aD,M.len]
 refine ⟨fs.map fun f=>gz x f,hb,fun y hy=>?_,?_⟩
 ·obtain ⟨f,hf,rfl⟩:=da.mp hy
  exact kj hx.2 (by rw [hx.1];exact M.jg f hf)
 ·refine yP (by rw [sk,hx.1]) fun k cZ=>?_
  rw [sk] at cZ;refine CQ (kj (IQ q1) (by rw [sk];exact cZ)) (kj hx.2 (by lia)) ?_
  have z:=M.zero (fun k=>gz (cI q m ms (fs.map fun f=>gz x f)) k-gz x k) (fun t ht=>?_) (fun f hf=>?_) k cZ
  ·have:=Cg.add z (Cg.refl (gz x k))
   rwa [Int.sub_add_cancel,Int.zero_add] at this
  ·have e:(ah m fun k=>gz t k*(gz (cI q m ms (fs.map fun f=>gz x f)) k-gz x k))=dZ t (cI q m ms (fs.map fun f=>gz x f))-dZ t x:=by rw [gr (wd t ht) sk,gr (wd t ht) hx.1,←Cp];exact cq fun k _=>oT _ _ _
   rw [e];exact Cg.sub (IT M wd hb ht) (hk t ht)
  ·obtain ⟨i,hi,rfl⟩:=gO.mp hf
   have bH:i<ms.length:=by rw [M.len];exact hi
   have h1:=CT M hb bH;rw [getD_at hi] at h1;have e:gz (fs.map fun f=>gz x f) i=gz x fs[i]:=by unfold gz;rw [bq,bo,bw hi];rfl
   rw [e] at h1;have:=Cg.sub h1 (Cg.refl (gz x fs[i]))
   rwa [qY] at this
theorem R3(wd:∀t∈tab,t.length=m):eV q tab x=List.replicate tab.length 0↔∀t∈tab,Cg q (dZ t x) 0:=by
 unfold eV;rw [List.eq_replicate_iff];constructor
 ·rintro ⟨_,h⟩ t ht
  exact CS (by rw [h _ (da.mpr ⟨t,ht,rfl⟩)];simp)
 ·intro h
  refine ⟨by rw [aD],fun y hy=>?_⟩
  obtain ⟨t,ht,rfl⟩:=da.mp hy;have:=vW (h t ht);simpa using this
end
variable {p m:Nat} {tab:List (List Int)}
theorem R4{ms:List (List Int)}{fs:List Nat}(M:km p m tab ms fs)(wd:∀t∈tab,t.length=m)(p1:0<p):((bQ p ms.length).map (cI p m ms)).Nodup∧((bQ p m).filter fun x=>decide (eV p tab x=List.replicate tab.length 0)).Perm ((bQ p ms.length).map (cI p m ms)):=by
 have nd:((bQ p ms.length).map (cI p m ms)).Nodup:=IM (yQ p _) fun b hb c hc e=>RZ M (kl.mp hb) (kl.mp hc) e;refine ⟨nd,(List.perm_ext_iff_of_nodup ((yQ p m).filter _) nd).mpr fun x=>?_⟩;rw [qM,decide_eq_true_iff,da,kl,R3 wd];constructor
 ·rintro ⟨h1,h2⟩
  obtain ⟨b,b1,b2,e⟩:=R1 M wd (by lia) h1 h2
  exact ⟨b,kl.mpr ⟨b1,b2⟩,e⟩
 ·rintro ⟨b,hb,rfl⟩
  obtain ⟨b1,b2⟩:=kl.mp hb;exact ⟨⟨sk,IQ (by lia)⟩,fun t ht=>IT M wd b1 ht⟩
def bX(t:List Int):List (Int×Int):=t.map fun x=>(x,1)
def eF(ps:a8):List Int:=ps.map fun p=>p.1
theorem i6{t:List Int}:(bX t).length=t.length:=aD ..
theorem IU{t:List Int}(hk:k<t.length):(bX t).getD k o1=(gz t k,1):=by unfold bX gz;rw [bq,bq,bo,bw hk];rfl
variable {B:Nat} {H:Hp} {r:Addr}
theorem IV{t:List Int}(q9:q≤997)(h:H r=some (.lst (t.map V.int)))(hi:bP q t):b6 B H q r (bX t):=⟨t.map V.int,h,by rw [aD,i6],fun i v p h1 h2=>by
 unfold bX at h2;rw [bo] at h1 h2;cases e:t[i]? with
 | none=>rw [e] at h1;cases h1
 | some x=>rw [e] at h1 h2;cases h1;cases h2;have:=hi x (mS e);exact .rem this.1 this.2 q9⟩
theorem so{ps:a8}(hq:q≠0)(h:b6 B H q r ps):ps=bX (eF ps)∧bP q (eF ps)∧H r=some (.lst ((eF ps).map V.int)):=by
 obtain ⟨vs,e,l,k⟩:=h
 have key:∀(i:Nat) (p:Int×Int),ps[i]?=some p→vs[i]?=some (.int p.1)∧p.2=1∧0≤p.1∧p.1<q:=fun i p hp=>by
  have hi:i<vs.length:=by
   rw [l]
   exact (aW.mp hp).1
  have:=k i vs[i] p (bw hi) hp
  rw [bw hi]
  generalize vs[i]=v at this
  obtain ⟨x,m⟩:=p
  cases this with
  | cY=>exact absurd rfl hq
  | rem h0 h1 h2=>exact ⟨rfl,rfl,h0,h1⟩
 refine ⟨?_,fun x hx=>?_,?_⟩
 ·unfold bX eF
  rw [oU]
  conv=>lhs;rw [←List.map_id ps]
  refine q5 fun p hp=>?_
  obtain ⟨i,hi⟩:=m4 hp
  have:=(key i p hi).2.1
  obtain ⟨x,m⟩:=p
  dsimp only at this
  subst this
  rfl
 ·unfold eF at hx
  obtain ⟨p,hp,rfl⟩:=da.mp hx
  obtain ⟨i,hi⟩:=m4 hp
  exact (key i p hi).2.2
 ·rw [e]
  congr 2
  unfold eF
  rw [oU]
  refine kG (by rw [aD,l]) fun i h1 h2=>?_
  have hi:i<ps.length:=by lia
  have:=(key i ps[i] (bw hi)).1
  rw [bw h1] at this
  rw [gP]
  exact Option.some.inj this
def dA(H:Hp)(a:Addr)(tab:List (List Int)):Prop:=∃vs:List V,H a=some (.lst vs)∧vs.length=tab.length∧∀(i:Nat) (v:V) (t:List Int),vs[i]?=some v→tab[i]?=some t→∃r:Addr,v=.ref r∧H r=some (.lst (t.map V.int))
variable {H':Hp} {a:Addr}
theorem dA.mono(h:dA H a tab)(s:af H H'):dA H' a tab:=by obtain ⟨vs,e,l,k⟩:=h;exact ⟨vs,s _ _ e,l,fun i v t h1 h2=>by obtain ⟨r,e1,e2⟩:=k i v t h1 h2;exact ⟨r,e1,s _ _ e2⟩⟩
theorem R5(q9:q≤997)(h:dA H a tab)(hi:∀t∈tab,bP q t):cn B H q a (tab.map bX):=by
 obtain ⟨vs,e,l,k⟩:=h;refine ⟨vs,e,by rw [l,aD],fun i v ps h1 h2=>?_⟩
 rw [bo] at h2;cases et:tab[i]? with
 | none=>rw [et] at h2;cases h2
 | some t=>rw [et] at h2;cases h2;obtain ⟨r,e1,e2⟩:=k i v t h1 et;exact ⟨r,e1,IV q9 e2 (hi t (mS et))⟩
theorem R6{ae:bu}(hq:q≠0)(h:cn B H q a ae):ae=(ae.map eF).map bX∧(∀t∈ae.map eF,bP q t)∧dA H a (ae.map eF):=by
 obtain ⟨vs,e,l,k⟩:=h
 have key:∀(i:Nat) (ps:a8),ae[i]?=some ps→∃r:Addr,vs[i]?=some (.ref r)∧b6 B H q r ps:=fun i ps hp=>by
  have hi:i<vs.length:=by
   rw [l]
   exact (aW.mp hp).1
  obtain ⟨r,e1,e2⟩:=k i vs[i] ps (bw hi) hp
  exact ⟨r,by rw [bw hi,e1],e2⟩
 refine ⟨?_,fun t ht=>?_,vs,e,by rw [l,aD],fun i v t h1 h2=>?_⟩
 ·rw [oU]
  conv=>lhs;rw [←List.map_id ae]
  refine q5 fun ps hp=>?_
  obtain ⟨i,hi⟩:=m4 hp
  obtain ⟨r,_,h2⟩:=key i ps hi
  exact (so hq h2).1
 ·obtain ⟨ps,hp,rfl⟩:=da.mp ht
  obtain ⟨i,hi⟩:=m4 hp
  obtain ⟨r,_,h2⟩:=key i ps hi
  exact (so hq h2).2.1
 ·rw [bo] at h2
  cases ep:ae[i]? with
  | none=>rw [ep] at h2;cases h2
  | some ps=>
   rw [ep] at h2
   cases h2
   obtain ⟨r,e1,e2⟩:=key i ps ep
   rw [h1] at e1
   cases e1
   exact ⟨r,rfl,(so hq e2).2.2⟩
variable {i:Nat}
theorem R7(hi:i<tab.length):(tab.map bX).getD i []=bX (tab.getD i []):=by rw [bq,bq,bo,bw hi];rfl
theorem CU(wd:∀t∈tab,t.length=m)(hi:i<tab.length):(tab.getD i []).length=m:=wd _ (by rw [getD_at hi];exact a7 _)
variable {j:Nat}
theorem CV(wd:∀t∈tab,t.length=m)(hi:i<tab.length)(hj:j<m):atT (tab.map bX) i j=(gz (tab.getD i []) j,1):=by unfold atT;rw [R7 hi,IU (by rw [CU wd hi];exact hj)]
section
variable {q:Int} {m:Nat} {tab:List (List Int)}
theorem IW(hq:q≠0):a9 q 1:=⟨fun z=>absurd z hq,fun _=>rfl⟩
theorem yR(hq:q≠0)(wd:∀t∈tab,t.length=m):jv q tab.length m (atT (tab.map bX)) (fun i j=>gz (tab.getD i []) j) 1:=⟨IW hq,fun i j hi hj=>by rw [CV wd hi hj];exact bM.refl _⟩
theorem vX(hq:q≠0){t:List Int}(h:t.length=m):kh q m (fun j=>(bX t).getD j o1) (gz t) 1:=⟨IW hq,fun j hj=>by dsimp only;rw [IU (by lia)];exact bM.refl _⟩
theorem IY(hq:q≠0)(wd:∀t∈tab,t.length=m){as xs:List Int}(la:as.length=tab.length)(ia:bP q as)(lx:xs.length=m)(h:vQ q tab.length m (tab.map bX) (bX as) (bX xs)):eV q tab xs=as:=by
 refine yP (by unfold eV;rw [aD,la]) fun k hk=>?_
 have hk:k<tab.length:=by unfold eV at hk;rwa [aD] at hk
 have:=h _ _ _ _ _ _ (yR hq wd) (vX hq la) (vX hq lx) k hk;rw [jH,iC,iC] at this;have e:gz (eV q tab xs) k=dZ (tab.getD k []) xs % q:=by unfold gz eV;rw [bq,bo,bq,bw hk];rfl
 have g:=kj ia (k:=k) (by lia)
 rw [e,gr (CU wd hk) lx,vW this,jf g.1 g.2]
variable {L:List Nat}
theorem IZ(hq:q≠0)(wd:∀t∈tab,t.length=m)(h:si q tab.length m (tab.map bX) L){x:Nat→Int}(hk:∀t∈tab,Cg q (ah m fun k=>gz t k*x k) 0)(hf:∀k,k<m→k∉L→Cg q (x k) 0):∀k,k<m→Cg q (x k) 0:=by
 have key:∀j,j≤m→∀k,m-j≤k→k<m→Cg q (x k) 0:=fun j=>by
  induction j with
  | zero=>intro _ k h1 h2;lia
  | succ j ih=>
   intro hj k h1 h2;by_cases e:m-j≤k;·exact ih (by lia) k e h2
   ·by_cases hL:k∈L
    ·have z:=(h.2.2 _ _ (yR hq wd) k h2).mp hL (fun i=>if k<i then 0 else x i) (fun i hi=>aq hi) (fun t ht=>?_)
     ·rwa [ar (eW k)] at z
     ·refine Cg.trans (ed fun i hi=>?_) (hk (tab.getD t []) (by rw [getD_at ht];exact a7 _))
      by_cases ki:k<i
      ·rw [aq ki]
       have:=Cg.mulL (gz (tab.getD t []) i) (ih (by lia) i (by lia) hi)
       exact this.symm
      ·rw [ar ki]
       exact Cg.refl _
    ·exact hf k h2 hL
 intro k cZ;exact key m (aI m) k (by lia) cZ
theorem R8{X:Nat}{ms:List (List Int)}(hq:q≠0)(wd:∀t∈tab,t.length=m)(hL:si q tab.length m (tab.map bX) L)(M:Iy q tab.length m X (tab.map bX) L (ms.map bX))(hi:∀v∈ms,bP q v):km q m tab ms (cu m L):=by
 have lm:ms.length=(cu m L).length:=by rw [←M.len,aD]
 have wm:∀v∈ms,v.length=m:=fun v hv=>by rw [←i6];exact M.mm _ (da.mpr ⟨v,hv,rfl⟩)
 have fl:∀j,j<ms.length→(cu m L).getD j 0<m:=fun j hj=>(vR.mp (by rw [getD_at (by lia)];exact a7 _)).1
 refine ⟨lm,fun v hv=>⟨wm v hv,hi v hv⟩,fun v hv t ht=>?_,fun i h1=>?_,fun i j h1 h2 ne=>?_,fun f hf=>(vR.mp hf).1,fun x h1 h2=>IZ hq wd hL h1 fun k hk nk=>h2 k (vR.mpr ⟨hk,nk⟩)⟩
 ·obtain ⟨i,h1,rfl⟩:=gO.mp ht
  have:=M.CD _ (da.mpr ⟨v,hv,rfl⟩) _ _ _ _ (yR hq wd) (vX hq (wm v hv)) i h1;rw [gr (wd _ ht) (wm v hv)];rw [getD_at h1] at this;exact this
 ·have:=M.own i (by rw [aD];exact h1)
  rw [CV wm h1 (fl i h1)] at this;exact dR Prod.fst this
 ·have:=M.yL i j (by rw [aD];exact h1) (by rw [aD];exact h2) ne
  rw [CV wm h1 (fl j h2)] at this;exact dR Prod.fst this
def c_(p:Nat)(m:Nat)(tab:List (List Int))(as:List Int):List (List Int):=(bQ p m).filter fun x=>decide (eV p tab x=as)
end
section
variable {p m:Nat} {tab:List (List Int)} {as:List Int}
theorem kn{x:List Int}:x∈c_ p m tab as↔(x.length=m∧bP p x)∧eV p tab x=as:=by unfold c_;rw [qM,kl,decide_eq_true_iff]
variable {xs:List Int}
theorem R9{L:List Nat}(hq:(p:Int)≠0)(wd:∀t∈tab,t.length=m)(hx:xs∈c_ p m tab as)(hL:si p tab.length m (tab.map bX) L)(full:L.length=m):(c_ p m tab as).length=1:=by
 have all:∀k,k<m→k∈L:=fun k hk=>AS fun nk=>by have h1:=Iw hL.1 hL.2.1;have h2:k∈cu m L:=vR.mpr ⟨hk,nk⟩;have:=xq h2;lia
 have one:∀y∈c_ p m tab as,y=xs:=fun y hy=>by
  obtain ⟨⟨y1,y2⟩,y3⟩:=kn.mp hy;obtain ⟨⟨x1,x2⟩,x3⟩:=kn.mp hx;refine yP (y1.trans x1.symm) fun k hk=>?_;have z:=IZ hq wd hL (x:=fun k=>gz y k-gz xs k) (fun t ht=>?_) (fun k hk nk=>absurd (all k hk) nk) k (by lia)
  ·have:=Cg.add z (Cg.refl (gz xs k))
   rw [Int.sub_add_cancel,Int.zero_add] at this;exact CQ (kj y2 hk) (kj x2 (by lia)) this
  ·have e:(ah m fun k=>gz t k*(gz y k-gz xs k))=dZ t y-dZ t xs:=by rw [gr (wd t ht) y1,gr (wd t ht) x1,←Cp];exact cq fun k _=>oT _ _ _
   rw [e];obtain ⟨i,hi,rfl⟩:=gO.mp ht;have:=dR (fun l:List Int=>l[i]?) (y3.trans x3.symm);unfold eV at this;rw [bo,bo,bw hi] at this;have:=Cg.sub (CS (Option.some.inj this)) (Cg.refl (dZ tab[i] xs))
   rwa [qY] at this
 have nd:(c_ p m tab as).Nodup:=(yQ p m).filter _;have h1:=xq hx
 match h:c_ p m tab as with
 | []=>rw [h] at h1;cases h1
 | [a]=>rfl
 | a::b::l=>
  rw [h] at nd one;have e1:=one a (by simp)
  have e2:=one b (by simp)
  rw [e1,e2] at nd;simp at nd
theorem R_{ms:List (List Int)}{fs:List Nat}(p2:2≤p)(wd:∀t∈tab,t.length=m)(hx:xs∈c_ p m tab as)(M:km p m tab ms fs)(h0:ms≠[]):(c_ p m tab as).length≠1:=by
 obtain ⟨⟨x1,x2⟩,x3⟩:=kn.mp hx;have hl:0<ms.length:=List.length_pos_iff.mpr h0;have hv:ms.getD 0 []∈ms:=by rw [getD_at hl];exact a7 _
 have hf:fs.getD 0 0<m:=M.jg _ (by rw [getD_at (by rw [←M.len];exact hl)];exact a7 _)
 have own:=M.own 0 hl;generalize ms.getD 0 []=v at hv own;generalize fs.getD 0 0=f at hf own;have hy:((List.range m).map fun k=>(gz xs k+gz v k) % (p:Int))∈c_ p m tab as:=by
  refine kn.mpr ⟨⟨by simp,fun y hy=>?_⟩,?_⟩
  ·obtain ⟨k,_,rfl⟩:=da.mp hy
   exact ⟨gy _ (by lia),gN _ (by lia)⟩
  ·rw [←x3]
   unfold eV;refine q5 fun t ht=>vW ?_;rw [gr (wd t ht) (by simp),gr (wd t ht) x1]
   refine (ed (g:=fun k=>gz t k*(gz xs k+gz v k)) fun k hk=>?_).trans ?_
   ·rw [CP hk]
    exact Cg.mulL _ (pE _ _)
   ·have e:(ah m fun k=>gz t k*(gz xs k+gz v k))=(ah m fun k=>gz t k*gz xs k)+ah m fun k=>gz t k*gz v k:=by rw [←kg];exact cq fun k _=>Int.mul_add _ _ _
    rw [e];have:=M.IP v hv t ht;rw [gr (wd t ht) (M.row v hv).1] at this;have:=Cg.add (Cg.refl (ah m fun k=>gz t k*gz xs k)) this
    rwa [Int.add_zero] at this
 have ne:((List.range m).map fun k=>(gz xs k+gz v k) % (p:Int))≠xs:=fun e=>by
  have:=dR (fun l=>gz l f) e;rw [CP hf,own] at this;have g:=kj x2 (k:=f) (by lia)
  have e2:(gz xs f+1) % (p:Int)=gz xs f % (p:Int):=by rw [this,jf g.1 g.2]
  obtain ⟨c,hc⟩:=CS e2;have hc:(1:Int)=p*c:=by lia
  have:(p:Int)∣1:=⟨c,hc⟩;have:=oS (by decide) this
  lia
 intro h1;obtain ⟨a,ha⟩:=List.length_eq_one_iff.mp h1;rw [ha] at hx hy;rw [g_] at hx hy;exact ne (hy.trans hx.symm)
theorem Sa{ys:List Int}(p2:2≤p)(wd:∀t∈tab,t.length=m)(ly:ys.length=tab.length)(la:as.length=tab.length)(b:∀k,k<m→Cg p (ah tab.length fun i=>gz ys i*gz (tab.getD i []) k) 0)(b1:Cg p (dZ ys as) 1):c_ p m tab as=[]:=by
 refine List.eq_nil_iff_forall_not_mem.mpr fun x hx=>?_;obtain ⟨⟨x1,x2⟩,x3⟩:=kn.mp hx;rw [gr ly la] at b1;have e:Cg p (ah tab.length fun i=>gz ys i*gz as i) (ah tab.length fun i=>gz ys i*ah m fun k=>gz (tab.getD i []) k*gz x k):=ed fun i hi=>Cg.mulL _ (by
  rw [←x3];have:gz (eV p tab x) i=dZ (tab.getD i []) x % p:=by unfold gz eV;rw [bq,bo,bq,bw hi];rfl
  rw [this,←gr (CU wd hi) x1];exact pE _ _)
 have e2:(ah tab.length fun i=>gz ys i*ah m fun k=>gz (tab.getD i []) k*gz x k)=ah m fun k=>gz x k*ah tab.length fun i=>gz ys i*gz (tab.getD i []) k:=by rw [show (ah tab.length fun i=>gz ys i*ah m fun k=>gz (tab.getD i []) k*gz x k)=ah tab.length fun i=>ah m fun k=>gz ys i*(gz (tab.getD i []) k*gz x k) from cq fun i _=>cB _ _ _,vD];refine cq fun k _=>?_;rw [cB];refine cq fun i _=>?_;rw [←iG,fg]
 rw [e2] at e;have e3:Cg p (ah m fun k=>gz x k*ah tab.length fun i=>gz ys i*gz (tab.getD i []) k) 0:=(ed (g:=fun _=>0) fun k hk=>by
  have:=Cg.mulL (gz x k) (b k hk)
  rwa [cy] at this).trans (Cg.of_eq (gI _))
 have z:=(b1.symm.trans e).trans e3;obtain ⟨c,hc⟩:=z;have:=oS (by decide) (⟨c,by lia⟩:(p:Int)∣1)
 lia
end
def yS(H:Hp)(r t:Addr)(vs:List V):Prop:=H t=none∧t≠r∧∀v∈vs,∃x:Addr,v=.ref x∧H x=none∧x≠r
def I_(C N:Addr):Sp:=fun vs H Q E=>∃(z a b:Addr) (q:Int) (B P P2 m:Nat) (ae:bu) (as:a8) (G G2:Nat→Nat),vs=[.ref z,.ref a,.ref b]∧fV C H z q∧bg q∧cn B H q a ae∧b6 B H q b as∧1000≤B∧B<2 ^ 2048∧1≤ae.length∧ae.length≤30∧(∀ps∈ae,ps.length=m)∧m≤30∧as.length=ae.length∧(∀i,i<ae.length→ju q (G i) ((eQ ae as).getD i []))∧(∀i,1000≤G i∧G i<2 ^ 2048)∧ck ae.length G≤P∧ae.length*(bO ae.length*P)≤10 ^ 290 ∧
 (∀i,i<m+1→ju q (G2 i) ((eS m ae as).getD i []))∧(∀i,1000≤G2 i∧G2 i<2 ^ 2048)∧ck (m+1) G2≤P2∧(m+1)*(bO (m+1)*P2)<2 ^ 2048 ∧
 (∀(p r:Addr) (ys:a8) (H':Hp),af H H'→H r=none→H' p=some (.tup [.str (Str.ofString "barred"),.ref r])→b6 ((m+1)*(bO (m+1)*P2)) H' q r ys→ys.length=ae.length→CA q ae.length m ae as ys→Q (.ref p) H') ∧
 (∀(p r:Addr) (xs:a8) (L:List Nat) (H':Hp),af H H'→H r=none→H' p=some (.tup [.str (Str.ofString "one"),.ref r])→b6 (ae.length*(bO ae.length*P)) H' q r xs→xs.length=m→vQ q ae.length m ae as xs→si q ae.length m ae L→L.length=m→Q (.ref p) H') ∧
 (∀(p r t:Addr) (ws:List V) (xs:a8) (L:List Nat) (cR:bu) (H':Hp),af H H'→H r=none→H' p=some (.tup [.str (Str.ofString "many"),.ref r,.ref t])→b6 (ae.length*(bO ae.length*P)) H' q r xs→xs.length=m→vQ q ae.length m ae as xs→si q ae.length m ae L→L.length≠m→H' t=some (.lst ws)→yS H r t ws→cn (ae.length*(bO ae.length*P)) H' q t cR→Iy q ae.length m (ae.length*(bO ae.length*P)) ae L cR→Q (.ref p) H')
def Ja(C N:Addr):Sp:=fun vs H Q E=>∃(z a b:Addr) (q:Int) (B m:Nat) (ae:bu) (ws:List V),vs=[.ref z,.ref a,.ref b]∧cn B H q a ae∧1≤ae.length∧ae.length≤30∧(∀ps∈ae,ps.length=m)∧m≤30∧H b=some (.lst ws)∧ws.length≠ae.length∧∀H',af H H'→E (.ref N) none H'
theorem Sb{P:Nat}(h:n≤7):n*(bO n*P)≤35280*P:=by rw [←uS];refine xl _ ?_;rcases (show n=0∨n=1∨n=2∨n=3∨n=4∨n=5∨n=6∨n=7 by lia) with e | e | e | e | e | e | e | e <;> subst e <;> decide +kernel
def Jb(C N:Addr):Sp:=fun vs H Q E=>∃(z a b:Addr) (p m:Nat) (tab:List (List Int)) (as:List Int),vs=[.ref z,.ref a,.ref b]∧fV C H z (p:Int)∧bg (p:Int)∧2≤p∧dA H a tab∧(∀t∈tab,t.length=m∧bP p t)∧H b=some (.lst (as.map V.int))∧1≤tab.length∧tab.length≤4∧m≤6 ∧
 (as.length≠tab.length→∀H',af H H'→E (.ref N) none H') ∧
 (as.length=tab.length→bP p as ∧
  (∀(t r:Addr) (ys:List Int) (H':Hp),af H H'→H r=none→H' t=some (.tup [.str (Str.ofString "barred"),.ref r])→H' r=some (.lst (ys.map V.int))→ys.length=tab.length→bP p ys→(∀k,k<m→Cg p (ah tab.length fun i=>gz ys i*gz (tab.getD i []) k) 0)→Cg p (dZ ys as) 1→Q (.ref t) H') ∧
  (∀(t r:Addr) (xs:List Int) (H':Hp),af H H'→H r=none→H' t=some (.tup [.str (Str.ofString "one"),.ref r])→H' r=some (.lst (xs.map V.int))→xs∈c_ p m tab as→(c_ p m tab as).length=1→Q (.ref t) H') ∧
  (∀(t r u:Addr) (ws:List V) (xs:List Int) (ms:List (List Int)) (fs:List Nat) (H':Hp),af H H'→H r=none→H' t=some (.tup [.str (Str.ofString "many"),.ref r,.ref u])→H' r=some (.lst (xs.map V.int))→xs∈c_ p m tab as→(c_ p m tab as).length≠1→H' u=some (.lst ws)→yS H r u ws→dA H' u ms→ms≠[]→km p m tab ms fs→Q (.ref t) H'))
theorem Jc(hq:q≠0){t:List Int}(h:bP q t):∀p∈bX t,Canon q p:=fun p hp=>by unfold bX at hp;obtain ⟨x,hx,rfl⟩:=da.mp hp;exact ⟨fun z=>absurd z hq,fun _=>⟨rfl,h x hx⟩⟩
theorem Sd{C N:Addr}{vs:List V}{Q:VK}{E:XK}(h:Jb C N vs H Q E):I_ C N vs H Q E∨Ja C N vs H Q E:=by
 obtain ⟨z,a,b,p,m,tab,as,rfl,hz,hq,p2,hT,hi,eb,n1,n4,m6,kE,kk⟩:=h;have q9:(p:Int)≤997:=by rcases hq with h | h <;> lia
 have q0:(p:Int)≠0:=by lia
 have wd:∀t∈tab,t.length=m:=fun t ht=>(hi t ht).1;have lp:(tab.map bX).length=tab.length:=aD ..;have wp:∀ps∈tab.map bX,ps.length=m:=fun ps hp=>by obtain ⟨t,ht,rfl⟩:=da.mp hp;rw [i6];exact wd t ht
 have hB:cn 1000 H p a (tab.map bX):=R5 q9 hT fun t ht=>(hi t ht).2;by_cases hl:as.length=tab.length
 rotate_left
 ·exact .inr ⟨z,a,b,p,1000,m,tab.map bX,as.map V.int,rfl,hB,by lia,by lia,wp,by lia,eb,by rw [aD,lp];exact hl,kE hl⟩
 obtain ⟨ia,kB,k1,kM⟩:=kk hl;have Jd:∀ps∈tab.map bX,∀r∈ps,Canon p r:=fun ps hp=>by obtain ⟨t,ht,rfl⟩:=da.mp hp;exact Jc q0 (hi t ht).2
 have Je:=Jc q0 ia;have la:(bX as).length=(tab.map bX).length:=by rw [i6,lp,hl]
 refine .inl ⟨z,a,b,p,1000,10 ^ 12,10 ^ 21,m,tab.map bX,bX as,fun _=>1000,fun _=>1000,rfl,hz,hq,hB,IV q9 eb ia,aI _,by decide +kernel,by lia,by lia,wp,by lia,la,fun i bH=>?_,fun _=>⟨aI _,show 1000<2 ^ 2048 by decide +kernel⟩,?_,aN (RC (by lia)) (by decide +kernel),fun i bH=>?_,fun _=>⟨aI _,show 1000<2 ^ 2048 by decide +kernel⟩,?_,eK (Sb (by lia)) (by decide +kernel),?_,?_,?_⟩
 ·refine Cu hq q0 fun r hr=>?_
  rw [CG la bH] at hr;rcases lC.mp hr with hr | hr;·exact Jd _ (by rw [getD_at bH];exact a7 _) r hr
  ·rw [g_.mp hr]
   exact Je _ (by rw [getD_at (by lia)];exact a7 _)
 ·rw [Ct]
  exact aN (oJ (by decide) (show (tab.map bX).length≤4 by lia)) (by decide +kernel)
 ·refine Cu hq q0 fun r hr=>?_
  by_cases w:i<m
  ·rw [Ie w,←Ic w] at hr
   obtain ⟨rs,h3,h4⟩:=Il wp (by rw [getD_at (by rw [pG];exact w)];exact a7 _) hr
   exact Jd rs h3 r h4
  ·have:i=m:=by lia
   subst this;rw [Ig] at hr;exact Je r hr
 ·rw [Ct]
  exact aN (oJ (by decide) (show m+1≤7 by lia)) (by decide +kernel)
 ·intro t r ys H' s nr et hr ly bar
  obtain ⟨e1,e2,e3⟩:=so q0 hr;rw [lp] at ly bar;have CW:(eF ys).length=tab.length:=by unfold eF;rw [aD,ly]
  rw [e1] at bar;have hb:=bar _ _ _ _ _ _ (yR q0 wd) (vX q0 hl) (vX q0 CW);exact kB t r (eF ys) H' s nr et e3 CW e2 hb.1 (by rw [gr CW hl];have:=hb.2;rwa [jH] at this)
 ·intro t r xs L H' s nr et hr lx sol hL full
  obtain ⟨e1,e2,e3⟩:=so q0 hr;have vY:(eF xs).length=m:=by unfold eF;rw [aD,lx]
  rw [lp] at sol hL;have hx:eF xs∈c_ p m tab as:=kn.mpr ⟨⟨vY,e2⟩,IY q0 wd hl ia vY (by rw [←e1];exact sol)⟩
  exact k1 t r (eF xs) H' s nr et e3 hx (R9 q0 wd hx hL full)
 ·intro t r u ws xs L cR H' s nr et hr lx sol hL full eu nt ht mv
  obtain ⟨e1,e2,e3⟩:=so q0 hr;have vY:(eF xs).length=m:=by unfold eF;rw [aD,lx]
  rw [lp] at sol hL mv;have hx:eF xs∈c_ p m tab as:=kn.mpr ⟨⟨vY,e2⟩,IY q0 wd hl ia vY (by rw [←e1];exact sol)⟩
  obtain ⟨f1,f2,f3⟩:=R6 q0 ht;have M:=R8 q0 wd hL (ms:=cR.map eF) (by rw [←f1];exact mv) f2
  have h0:cR.map eF≠[]:=fun e=>by
   have:=M.len;rw [e] at this;have l:=Iw hL.1 hL.2.1;have:L.length=m:=by have:(cu m L).length=0:=this.symm;lia
   exact full this
  exact kM t r u ws (eF xs) (cR.map eF) _ H' s nr et e3 hx (R_ p2 wd hx M h0) eu nt f3 h0 M
def Se:Sp:=fun vs H Q _=>∃p c:Int,vs=[.int p,.int c]∧0<p∧Q (.int (c % p)) H
def Sf:Sp:=fun vs H Q _=>∃(p:Int) (a b:Addr) (t u:List Int),vs=[.int p,.ref a,.ref b]∧0<p∧H a=some (.lst (t.map V.int))∧H b=some (.lst (u.map V.int))∧bP 1000 t∧t.length≤40∧u.length≤40∧∀H',af H H'→Q (.int (dZ t u % p)) H'
def Sg:Sp:=fun vs H Q _=>∃p k:Nat,vs=[.int (p:Int),.int (k:Int)]∧p≤7∧k≤6∧1≤p∧p ^ k≤128∧∀(r:Addr) (H':Hp),af H H'→dA H' r (bQ p k)→Q (.ref r) H'
theorem zipWith_map{t:List Int}:∀(i:Nat) (x y:V),((t.map V.int).zip (u.map V.int))[i]?=some (x,y)→∃a b:Int,x=.int a∧y=.int b∧a∈t∧(List.zipWith (· * ·) t u)[i]?=some (a*b):=fun i x y h=>by
 obtain ⟨h1,h2⟩:=mX.mp h;rw [bo] at h1 h2;cases e1:t[i]? with
 | none=>rw [e1] at h1;cases h1
 | some a=>
  cases e2:u[i]? with
  | none=>rw [e2] at h2;cases h2
  | some b=>rw [e1] at h1;rw [e2] at h2;cases h1;cases h2;exact ⟨a,b,rfl,rfl,mS e1,by rw [AV,e1,e2]⟩
structure DZ (H Hc:Hp) (p:Int) (tb yb:Addr) (n m:Nat) (i7:List Int) (A:Nat→Addr) (f:Nat→List Int):Prop where
 same:af H Hc
 tab:Hc tb=some (.lst ((List.range n).map fun i=>V.ref (A i)))
 tn:H tb=none
 inj:∀i j,i<n→j<n→A i=A j→i=j
 rows:∀i,i<n→H (A i)=none∧A i≠tb∧A i≠yb∧Hc (A i)=some (.lst ((f i).map V.int))∧(f i).length=m∧bP p (f i)
 y:Hc yb=some (.lst (i7.map V.int))
 ty:tb≠yb
section
variable {H Hc Hd:Hp} {p:Int} {tb yb:Addr} {n m:Nat} {i7:List Int} {A:Nat→Addr} {f:Nat→List Int}
theorem DZ.mono(D:DZ H Hc p tb yb n m i7 A f)(s:af Hc Hd):DZ H Hd p tb yb n m i7 A f:=⟨D.same.trans s,s _ _ D.tab,D.tn,D.inj,fun i hi=>by obtain ⟨h1,h2,h3,h4,h5⟩:=D.rows i hi;exact ⟨h1,h2,h3,s _ _ h4,h5⟩,s _ _ D.y,D.ty⟩
theorem DZ.cell(D:DZ H Hc p tb yb n m i7 A f){c:Nat}{x:Int}(hi:i<n)(hx:0≤x∧x<p):DZ H (upd Hc (A i) (.lst (((f i).map V.int).set c (.int x)))) p tb yb n m i7 A (fun j=>if j=i then (f i).set c x else f j):=by
 obtain ⟨h1,h2,h3,h4,h5,h6⟩:=D.rows i hi;refine ⟨d_ D.same h1,(aH (Ne.symm h2)).trans D.tab,D.tn,D.inj,fun j hj=>?_,(aH (Ne.symm h3)).trans D.y,D.ty⟩;obtain ⟨g1,g2,g3,g4,g5,g6⟩:=D.rows j hj;by_cases e:j=i
 ·subst e
  refine ⟨g1,g2,g3,?_,?_,?_⟩;·rw [aB,aq rfl,List.map_set]
  ·rw [aq rfl,jD]
   exact h5
  ·rw [aq rfl]
   intro y hy;rcases List.mem_or_eq_of_mem_set hy with hy | hy;·exact h6 y hy
   ·rw [hy];exact hx
 ·refine ⟨g1,g2,g3,?_,?_,?_⟩
  ·rw [aH fun z=>e (D.inj j i hj hi z),ar e]
   exact g4
  ·rw [ar e];exact g5
  ·rw [ar e];exact g6
theorem DZ.put(D:DZ H Hc p tb yb n m i7 A f){t:List Int}(hk:k<n)(er:Hc r=some (.lst (t.map V.int)))(lt:t.length=m)(it:bP p t)(rn:H r=none)(rt:r≠tb)(ry:r≠yb)(rA:∀i,i<n→A i≠r):DZ H (upd Hc tb (.lst (((List.range n).map fun i=>V.ref (A i)).set k (.ref r)))) p tb yb n m i7 (fun j=>if j=k then r else A j) (fun j=>if j=k then t else f j):=by
 refine ⟨d_ D.same D.tn,?_,D.tn,fun i j hi hj e=>?_,fun i hi=>?_,(aH (Ne.symm D.ty)).trans D.y,D.ty⟩
 ·rw [aB]
  congr 2
  refine kG (by simp) fun i h1 h2=>?_
  rw [List.getElem_set,gP,gP,List.getElem_range];by_cases e:k=i;·rw [aq e,aq e.symm]
  ·rw [ar e,ar fun z=>e z.symm]
 ·by_cases e1:i=k
  ·by_cases e2:j=k
   ·exact e1.trans e2.symm
   ·rw [aq e1,ar e2] at e
    exact absurd e.symm (rA j hj)
  ·by_cases e2:j=k
   ·rw [ar e1,aq e2] at e
    exact absurd e (rA i hi)
   ·rw [ar e1,ar e2] at e
    exact D.inj i j hi hj e
 ·obtain ⟨g1,g2,g3,g4,g5,g6⟩:=D.rows i hi
  by_cases e:i=k
  ·rw [aq e,aq e]
   exact ⟨rn,rt,ry,(aH rt).trans er,lt,it⟩
  ·rw [ar e,ar e]
   exact ⟨g1,g2,g3,(aH g2).trans g4,g5,g6⟩
theorem DZ.anew(D:DZ H Hc p tb yb n m i7 A f){yT:Addr}{A':Nat→Addr}{g:Nat→List Int}(s:af Hc Hd)(et:Hd yT=some (.lst ((List.range n).map fun i=>V.ref (A' i))))(nt:Hc yT=none)(inj:∀i j,i<n→j<n→A' i=A' j→i=j)(h:∀i,i<n→(Hc (A' i)=none∧Hd (A' i)=some (.lst ((g i).map V.int))∧(g i).length=m∧bP p (g i))∧A' i≠yT):DZ H Hd p yT yb n m i7 A' g:=
 ⟨D.same.trans s,et,none_of D.same nt,inj,fun i hi=>by obtain ⟨⟨h1,h2,h3,h4⟩,h5⟩:=h i hi;exact ⟨none_of D.same h1,h5,(fun z=>by rw [z,D.y] at h1;cases h1),h2,h3,h4⟩,s _ _ D.y,fun z=>by rw [z,D.y] at nt;cases nt⟩
theorem DZ.Sh(D:DZ H Hc p tb yb n m i7 A f):dA Hc tb ((List.range n).map f)∧((List.range n).map f).length=n∧∀t∈(List.range n).map f,t.length=m∧bP p t:=by
 refine ⟨⟨_,D.tab,by simp,fun i v t h1 h2=>?_⟩,by simp,fun t ht=>?_⟩
 ·have hi:i<n:=by simpa using (aW.mp h1).1
  rw [bo,List.getElem?_range hi] at h1 h2;cases h1;cases h2;exact ⟨_,rfl,(D.rows i hi).2.2.2.1⟩
 ·obtain ⟨i,hi,rfl⟩:=da.mp ht
  exact (D.rows i (gM.mp hi)).2.2.2.2
end
def Si(K:aA):Sp:=fun vs H Q _=>∃(sa:Addr) (ns:List Int) (p:Int) (n m k_:Nat),vs=[.ref sa,.int p,.int (n:Int),.int (m:Int),.int (k_:Int)]∧bh K H sa (ns.map V.int)∧2≤p∧p≤7∧1≤n∧n≤6∧1≤m∧m≤6∧k_≤1000 ∧
 ∀(r:Addr) (H':Hp) (tab:List (List Int)),af H H'→dA H' r tab→tab.length=n→(∀t∈tab,t.length=m∧bP p t)→Q (.ref r) H'
theorem gZ{c p:Int}(hp:0<p):0≤c % p∧c % p<p:=⟨gy _ (by lia),gN _ hp⟩
theorem ints_of{p:Int}{ys:List V}(h:∀(i:Nat) (y:V),ys[i]?=some y→∃x:Int,y=.int x∧0≤x∧x<p):∃t:List Int,ys=t.map V.int∧bP p t∧t.length=ys.length:=by
 obtain ⟨t,lt,ht⟩:=pick (R:=fun(_:Nat) (y:V) (x:Int)=>y=.int x∧0≤x∧x<p) h;refine ⟨t,?_,fun x hx=>?_,lt⟩
 ·refine kG (by rw [aD,lt]) fun i h1 h2=>?_
  rw [gP];exact (ht i _ _ (bw h1) (bw (by lia))).1
 ·obtain ⟨i,hi⟩:=m4 hx
  have h1:i<ys.length:=by rw [←lt];exact (aW.mp hi).1
  exact (ht i _ _ (bw h1) hi).2
theorem bP.weak{p:Int}{t:List Int}(h:bP p t)(l:p≤q):bP q t:=fun x hx=>by have:=h x hx;lia
theorem n8{a b:TS}{D:Ends}{σ:St}(J:St→Hp→Prop)(h1:∀R:St→Hp→Prop,(∀σ H,J σ H→R σ H)→a {D with nx:=R} σ H)(h2:∀σ H,J σ H→b D σ H):rB a b D σ H:=h1 _ h2
def yU(H:Hp)(sa:Addr)(p:Int)(n m k_:Nat)(way rest:Int)(yb:Addr)(i7:List Int)(σ:St)(Hc:Hp):Prop:=∃(tb:Addr) (A:Nat→Addr) (f:Nat→List Int) (v9 v10 v11:Option V),σ=[some (.ref sa),some (.int p),some (.int (n:Int)),some (.int (m:Int)),some (.int (k_:Int)),some (.ref tb),some (.int way),some (.int rest),some (.ref yb),v9,v10,v11]∧DZ H Hc p tb yb n m i7 A f
def i8(H:Hp)(a:Addr)(tab:List (List Int)):Prop:=∃vs:List V,H a=some (.lst vs)∧vs.length=tab.length∧∀(i:Nat) (v:V) (t:List Int),vs[i]?=some v→tab[i]?=some t→∃r:Addr,v=.ref r∧r≠a∧H r=some (.lst (t.map V.int))
theorem i8.z(h:i8 H a tab):dA H a tab:=by obtain ⟨vs,e,l,k⟩:=h;exact ⟨vs,e,l,fun i v t h1 h2=>by obtain ⟨r,e1,_,e2⟩:=k i v t h1 h2;exact ⟨r,e1,e2⟩⟩
theorem i8.mono(h:i8 H a tab)(s:af H H'):i8 H' a tab:=by obtain ⟨vs,e,l,k⟩:=h;exact ⟨vs,s _ _ e,l,fun i v t h1 h2=>by obtain ⟨r,e1,e3,e2⟩:=k i v t h1 h2;exact ⟨r,e1,e3,s _ _ e2⟩⟩
theorem i8.snoc{t:List Int}{vs:List V}(h:i8 H a tab)(ea:H a=some (.lst vs))(er:H r=some (.lst (t.map V.int)))(ra:r≠a):i8 (upd H a (.lst (vs++[.ref r]))) a (tab++[t]):=by
 obtain ⟨Jf,e,l,k⟩:=h;rw [e] at ea;cases ea;refine ⟨_,aB,by rw [fe,fe,l];rfl,fun i v u h1 h2=>?_⟩
 by_cases hi:i<vs.length
 ·rw [eX hi] at h1
  rw [eX (by lia)] at h2
  obtain ⟨x,e1,e3,e2⟩:=k i v u h1 h2;exact ⟨x,e1,e3,(aH e3).trans e2⟩
 ·have hl:=(aW.mp h1).1
  rw [fe,xa] at hl;have ei:i=vs.length:=by lia
  subst ei;rw [fE (aI _),jG] at h1;rw [l,fE (aI _),jG] at h2;cases h1;cases h2;exact ⟨r,rfl,ra,(aH ra).trans er⟩
def grow(p:Nat)(r:List Int):List (List Int):=(List.range p).map fun x:Nat=>r++[(x:Int)]
theorem Sj{l:List (List Int)}(h:j<l.length):(l.take (j+1)).flatMap (grow p)=(l.take j).flatMap (grow p)++grow p l[j]:=by rw [List.take_succ,bw h,List.flatMap_append];simp
theorem Sk{r:List Int}:(grow p r).length=p:=by unfold grow;simp
def gL(t:List Int):List Key:=t.map fun x=>Sum.inl x
theorem Sl{t:List Int}(e:gL t=gL u):t=u:=by unfold gL at e;exact List.map_inj_right (fun a b h=>Sum.inl.inj h) |>.mp e
theorem Jg(t:List Int):(gL t).map kV=t.map V.int:=by unfold gL;rw [oU];rfl
def i9(rs:List (List Int)):List (List Key×V):=rs.map fun r=>(gL r,V.bl true)
theorem CY:∀{rs:List (List Int)} {r:List Int},(gK (i9 rs) (gL r)).isSome=decide (r∈rs)
 | [],r=>rfl
 | a::rs,r=>by
  show (gK ((gL a,V.bl true)::i9 rs) (gL r)).isSome=_;by_cases e:a=r
  ·subst e
   rw [yM rfl];simp
  ·rw [yN fun z=>e (Sl z),CY]
   have:r≠a:=fun z=>e z.symm;simp [this]
theorem Sm{rs:List (List Int)}{r:List Int}(h:r∉rs):putK (i9 rs) (gL r) (.bl true)=i9 (rs++[r]):=by
 have:gK (i9 rs) (gL r)=none:=by
  have:=CY (rs:=rs) (r:=r);rw [dI h] at this;cases z:gK (i9 rs) (gL r) with
  | none=>rfl
  | some v=>rw [z] at this;cases this
 rw [RD _ this];unfold i9;rw [oV];rfl
def Sn:Sp:=fun vs H Q _=>∃(p m:Nat) (M G:Addr) (ms gone:List (List Int)),vs=[.int (p:Int),.ref M,.ref G,.int (m:Int)]∧1≤p∧p≤7∧m≤6∧ms.length≤6∧p ^ ms.length≤128∧dA H M ms∧(∀v∈ms,v.length=m∧bP p v)∧dA H G gone∧((bQ p ms.length).map (cI p m ms)).Nodup∧gone.Perm ((bQ p ms.length).map (cI p m ms))∧∀H',af H H'→Q (.bl true) H'
theorem dA.at{vs:List V}(h:dA H a tab)(e:H a=some (.lst vs)):vs.length=tab.length∧∀(i:Nat) (v:V),vs[i]?=some v→∃t r,tab[i]?=some t∧t∈tab∧v=.ref r∧H r=some (.lst (t.map V.int)):=by
 obtain ⟨Jf,e',l,k⟩:=h;rw [e] at e';cases e';refine ⟨l,fun i v hv=>?_⟩;have hi:i<tab.length:=by rw [←l];exact (aW.mp hv).1
 obtain ⟨r,e1,e2⟩:=k i v _ hv (bw hi);exact ⟨_,r,bw hi,a7 hi,e1,e2⟩
theorem CZ{t:List Int}{c:Nat}(h:c<t.length):eO (t.map V.int) (c:Int)=some (.int (gz t c)):=e8 (by unfold gz;rw [bo,bq,bw h];rfl)
end My
namespace L2
open PySem PySem.Spec PyProof.Rows
def So(K:aA):List V→Hp→VK→Prop:=fun xs H Q=>∃p ys,xs=[V.ref p]∧((bh K H p ys∧∀l,H l=none→Q (.ref l) (upd H l (.tup ys)))∨(fG K H p ys∧Q (.ref p) H))
variable {X:Cx}
theorem Jh{K:aA}(hk:X.K=K:=by rfl):gT X (.type "tuple") (So K):=by subst hk;exact N5
open PySem PySem.Spec PyProof.Rows My
section
variable {X:Cx} {pins:aM} {σ:St} {H:Hp} {s:Shared}
variable {xs:List Int}
theorem Sq(I:Inv X pins σ H s){A:Around}(hu:A.units+2<cLine){a b:Addr}{ys:List Int}(h1:bh X.K H a (xs.map V.int))(h2:bh X.K H b (ys.map V.int)):SeqAt.EqAt A s (.ref a) (.ref b) (decide (xs=ys)):=by
 by_cases ab:a=b
 ·subst ab
  have:=I.xC h1 h2;have e:xs=ys:=List.map_inj_right (fun a b h=>V.int.inj h) |>.mp this;rw [cN e];exact SeqAt.EqAt.same _
 refine SeqAt.EqAt.of_refs ab ?_;obtain ⟨us,r1,t1,_⟩:=I.list h1;obtain ⟨vs,r2,t2,_⟩:=I.list h2;have l1:=r1.length;have l2:=r2.length;rw [aD] at l1 l2;by_cases hl:xs.length=ys.length
 ·have z:=xk (A:=A) (e:=fun j=>fI (.int (xs.getD j 0)) (.int (ys.getD j 0))) t1.isList t2.isList (by simp;lia) (by lia) (fun j z1 z2=>by
   have vA:j<us.length:=by simpa using z1
   have vB:j<vs.length:=by simpa using z2
   have ex:(xs.map V.int)[j]?=some (.int (xs.getD j 0)):=by rw [bo,bq];simp [show j<xs.length by lia]
   have ey:(ys.map V.int)[j]?=some (.int (ys.getD j 0)):=by rw [bo,bq];simp [show j<ys.length by lia]
   obtain ⟨x',iH,rx⟩:=r1.get ex;obtain ⟨y',ke,ry⟩:=r2.get ey;have e1:us.toArray[j]=x':=by simpa using (aW.mp iH).2
   have e2:vs.toArray[j]=y':=by simpa using (aW.mp ke).2
   rw [e1,e2];exact rJ rx ry rfl rfl)
  rw [show us.toArray.size=xs.length by simp;lia,HQ hl] at z
  exact z
 ·rw [dI (fun e=>hl (by rw [e]))]
  exact AX t1.isList t2.isList (by simp;lia) (by lia)
def yV(H:Hp)(xs:List Int):Value→Bool
 | .ref r=>match H r with
  | some (.lst vs)=>decide (vs=xs.map V.int)
  | _=>false
 | _=>false
theorem Ji{r:Addr}{ts:List Int}(h:H r=some (.lst (ts.map V.int))):yV H xs (.ref r)=decide (ts=xs):=by unfold yV;dsimp only;rw [h];refine decide_eq_decide.mpr ⟨fun e=>List.map_inj_right (fun a b h=>V.int.inj h) |>.mp e,fun e=>by rw [e]⟩
def Sr:R2:=fun x y H Q=>∃(a l:Addr) (xs:List Int) (tab:List (List Int)),x=.ref a∧y=.ref l∧H a=some (.lst (xs.map V.int))∧dA H l tab∧xs∈tab∧Q (.bl false) H
theorem Ss(hu:X.A.units+64<cLine):b8 X (compareOp .NotIn) Sr:=by
 intro pins s σ H x y v u Q I rx ry h;obtain ⟨a,l,xs,tab,rfl,rfl,ea,hT,hm,q⟩:=h;cases rx;cases ry;obtain ⟨vs,el,lv,hv⟩:=id hT;obtain ⟨ai,r,pl,_⟩:=I.list (bh.of (K:=X.K) el);have li:=r.length;have key:∀(i:Nat) (w:Value),ai[i]?=some w→∃t b,tab[i]?=some t∧w=.ref b∧H b=some (.lst (t.map V.int)):=fun i w hw=>by
  have hi:i<vs.length:=by rw [li];exact (aW.mp hw).1
  obtain ⟨t,b,e1,_,e2,e3⟩:=(hT.at el).2 i vs[i] (bw hi);obtain ⟨w',ew,kP⟩:=r.get (bw hi);rw [hw] at ew;cases ew;rw [e2] at kP;cases kP;exact ⟨t,b,e1,rfl,e3⟩
 refine SeqAt.notIn_listAt (yV H xs) pl.isList (fun w hw=>?_) ⟨.bl _,H,I,rfl,?_⟩
 ·obtain ⟨i,hi⟩:=m4 (show w∈ai by simpa using hw)
  obtain ⟨t,b,_,rfl,e⟩:=key i w hi;rw [Ji e];exact Sq I (by rw [uQ];lia) (.of e) (.of ea)
 ·have:ai.toArray.any (yV H xs)=true:=by
   rw [List.any_toArray,List.any_eq_true];obtain ⟨i,hi⟩:=m4 hm;have su:i<ai.length:=by rw [←li,lv];exact (aW.mp hi).1
   obtain ⟨t,b,e1,e2,e3⟩:=key i ai[i] (bw su);refine ⟨ai[i],a7 su,?_⟩;rw [e2,Ji e3];rw [hi] at e1;cases e1;exact cN rfl
  rw [this];exact q
end
def Su(K:aA):R2:=fun x y H Q=>∃a b xs,x=.ref a∧y=.ref b∧bh K H a xs∧H b=some (.lst [])∧Q (.bl xs.isEmpty) H
theorem Sv(hu:X.A.units+64<cLine):b8 X (compareOp .Eq) (Su X.K):=by
 intro pins s σ H x y v u Q I rx ry h;obtain ⟨a,b,xs,rfl,rfl,h1,h2,q⟩:=h;cases rx;cases ry;obtain ⟨us,r1,t1,_⟩:=I.list h1;obtain ⟨vs,r2,t2,_⟩:=I.list (bh.of h2);have l1:=r1.length;have l2:=r2.length;cases xs with
 | nil=>
  refine xk (e:=fun _=>true) t1.isList t2.isList (by simp at l1 l2 ⊢;lia) (by lia) (fun j z1 z2=>?_) _ _ _ _ ?_
  ·simp at l1
   have:us=[]:=List.length_eq_zero_iff.mp l1.symm;subst this;simp at z1
  ·rw [all_range]
   exact ⟨.bl true,H,I,rfl,q⟩
 | cons w ws=>
  refine AX t1.isList t2.isList ?_ (by lia) _ _ _ _ ⟨.bl false,H,I,rfl,q⟩
  simp at l1 l2 ⊢;lia
end L2
namespace My
open PySem L2
def sv(H:Hp)(l:Addr)(g:List Int→List Int)(xs:List (List Int)):Prop:=∃vs:List V,H l=some (.lst vs)∧vs.length=xs.length∧∀(i:Nat) (v:V) (x:List Int),vs[i]?=some v→xs[i]?=some x→∃t r m:Addr,v=.ref t∧H t=some (.tup [.ref r,.ref m])∧H r=some (.lst (x.map V.int))∧H m=some (.lst ((g x).map V.int))
variable {H H':Hp} {l:Addr} {g:List Int→List Int} {xs:List (List Int)}
theorem sv.mono(h:sv H l g xs)(s:af H H'):sv H' l g xs:=by obtain ⟨vs,e,n,k⟩:=h;exact ⟨vs,s _ _ e,n,fun i v x h1 h2=>by obtain ⟨t,r,m,e1,e2,e3,e4⟩:=k i v x h1 h2;exact ⟨t,r,m,e1,s _ _ e2,s _ _ e3,s _ _ e4⟩⟩
theorem Jj{K:aA}{wi:TI}{ρ:St→St}{tt:TT}{te:TE}{σ:St}{Q:VK}(c:List Int→Bool)(hI:sv H l g xs)(gk:∀R:It→Hp→Prop,R (kS K l) H→wi σ H R)(hn:xs.length<sizeLine)
  (test:∀(r m:Addr) (x:List Int),x∈xs→∀(Hc:Hp) (R:Bool→Hp→Prop),af H Hc→Hc m=some (.lst ((g x).map V.int))→(∀Hd,af Hc Hd→R (c x) Hd)→tt (some (.ref r)::some (.ref m)::ρ σ) Hc R)
  (elem:∀(r m:Addr) (Hc:Hp) (R:VK),R (.ref r) Hc→te (some (.ref r)::some (.ref m)::ρ σ) Hc R)
  (fin:∀D Hc,H D=none→af H Hc→dA Hc D (xs.filter c)→Q (.ref D) Hc):pC K wi ρ tt te σ H Q:=by
 obtain ⟨vs,el,lv,hv⟩:=id hI;refine gk _ ?_;intro D nD;have js:mh (kS K l) vs H:=fL (.of el);refine ⟨fun i k us Hc=>k=xs.length-i∧i≤xs.length∧Hc D=some (.lst us)∧af H Hc∧us.length≤i∧us.length=((xs.take i).filter c).length∧∀(j:Nat) (u:V) (x:List Int),us[j]?=some u→((xs.take i).filter c)[j]?=some x→∃r:Addr,u=.ref r∧Hc r=some (.lst (x.map V.int))∧r≠D,⟨_,rfl,cT _,aB,d_ (af.refl H) nD,aI _,rfl,fun j u x h=>by cases h⟩,?_⟩
 rintro i k us Hc ⟨rfl,hi,eD,sH,lu,lf,hu⟩;refine ⟨eD,?_⟩;by_cases cb:i<xs.length
 ·refine .inr ⟨js.go i Hc sH (by lia),fun v H' hy=>?_⟩
  obtain ⟨rfl,hx⟩:=js.d6 i Hc v H' sH hy;have ev:=hx (by lia)
  obtain ⟨t,r,m,rfl,e2,e3,e4⟩:=hv i v xs[i] ev (bw cb);have tk:xs.take (i+1)=xs.take i++[xs[i]]:=by rw [List.take_succ,bw cb];rfl
  have mx:xs[i]∈xs:=a7 cb;generalize xs[i]=x at e3 e4 tk mx;have rD:r≠D:=fun z=>by rw [z,nD] at e3;cases e3
  refine ⟨t,_,_,rfl,.of (sH _ _ e2),?_⟩;dsimp only;refine test r m x mx _ _ sH (sH _ _ e4) fun Hd sd=>?_;have jx:=sd _ _ eD;by_cases hc:c x=true
  ·rw [aq hc]
   refine elem r m Hd _ ?_;refine ⟨jx,by lia,xs.length-(i+1),by lia,rfl,cb,aB,d_ (sH.trans sd) nD,by simp;lia,?_,fun j u y h1 h2=>?_⟩
   ·rw [tk,q8,fe,fe,lf,q_,aq hc]
    rfl
   ·rw [tk,q8,q_,aq hc] at h2
    by_cases hj:j<us.length
    ·rw [eX hj] at h1
     rw [eX (by lia)] at h2
     obtain ⟨q,g1,g2,g3⟩:=hu j u y h1 h2;exact ⟨q,g1,(aH g3).trans (sd _ _ g2),g3⟩
    ·have hl:=(aW.mp h1).1
     rw [fe,xa] at hl;have ej:j=us.length:=by lia
     subst ej;rw [fE (aI _),jG] at h1;rw [lf,fE (aI _),jG] at h2;cases h1;cases h2;exact ⟨r,rfl,(aH rD).trans (sd _ _ (sH _ _ e3)),rD⟩
  ·rw [ar hc]
   refine ⟨xs.length-(i+1),by lia,rfl,cb,jx,sH.trans sd,by lia,?_,fun j u y h1 h2=>?_⟩
   ·rw [tk,q8,q_,ar hc,List.filter_nil,wZ]
    exact lf
   ·rw [tk,q8,q_,ar hc,List.filter_nil,wZ] at h2
    obtain ⟨q,g1,g2,g3⟩:=hu j u y h1 h2;exact ⟨q,g1,sd _ _ g2,g3⟩
 ·have e:i=xs.length:=by lia
  subst e;rw [uP] at lf hu;exact .inl ⟨js.stop _ Hc sH (by lia),fin D Hc nD sH ⟨us,eD,lf,fun j u x h1 h2=>by obtain ⟨q,g1,g2,_⟩:=hu j u x h1 h2;exact ⟨q,g1,g2⟩⟩⟩
theorem yW{q:Int}{a:Addr}{t:List Int}(q2:2≤q)(e:H a=some (.lst (t.map V.int)))(h:bP q t):Hs H q a (bX t):=⟨t.map V.int,e,by rw [aD,i6],fun i v p h1 h2=>by
 unfold bX at h2;rw [bo] at h1 h2;cases z:t[i]? with
 | none=>rw [z] at h1;cases h1
 | some x=>rw [z] at h1 h2;cases h1;cases h2;have:=h x (mS z);exact .rem q2 this.1 this.2 (by simp) ⟨0,by show x*1-x=q*0;lia⟩⟩
theorem yX{t:List Int}:∀p∈bX t,bE p.2:=fun p hp=>by unfold bX at hp;obtain ⟨x,_,rfl⟩:=da.mp hp;exact bE.of_lt (i:=1) (by decide) (by decide)
inductive vZ (H:Hp) (p m:Nat) (tab:List (List Int)) (as:List Int) (fo:Addr):Prop where
 | no {r:Addr} {ys:List Int} (e:H fo=some (.tup [.str (Str.ofString "barred"),.ref r])) (er:H r=some (.lst (ys.map V.int))) (l:ys.length=tab.length) (i:bP p ys) (b:∀k,k<m→Cg p (ah tab.length fun i=>gz ys i*gz (tab.getD i []) k) 0) (b1:Cg p (dZ ys as) 1)
 | one {r:Addr} {xs:List Int} (e:H fo=some (.tup [.str (Str.ofString "one"),.ref r])) (er:H r=some (.lst (xs.map V.int))) (h:xs∈c_ p m tab as) (l:(c_ p m tab as).length=1)
 | many {r u:Addr} {xs:List Int} {ms:List (List Int)} {fs:List Nat} (e:H fo=some (.tup [.str (Str.ofString "many"),.ref r,.ref u])) (er:H r=some (.lst (xs.map V.int))) (h:xs∈c_ p m tab as) (l:(c_ p m tab as).length≠1) (hu:dA H u ms) (M:km p m tab ms fs)
def Sw:Sp:=fun vs H Q _=>∃(p m:Nat) (tb am im fo:Addr) (tab:List (List Int)) (as:List Int),vs=[.int (p:Int),.ref tb,.ref am,.ref im,.ref fo]∧2≤p∧p≤7∧1≤m∧m≤6∧p ^ m≤128∧dA H tb tab∧(∀t∈tab,t.length=m∧bP p t)∧1≤tab.length∧tab.length≤4∧H am=some (.lst (as.map V.int))∧as.length=tab.length∧sv H im (eV p tab) (bQ p m)∧vZ H p m tab as fo∧∀H',af H H'→Q (.bl true) H'
variable {tab:List (List Int)}
theorem vZ.mono{p m:Nat}{as:List Int}{fo:Addr}(h:vZ H p m tab as fo)(s:af H H'):vZ H' p m tab as fo:=by
 cases h with
 | no e er l i b b1=>exact .no (s _ _ e) (s _ _ er) l i b b1
 | one e er h l=>exact .one (s _ _ e) (s _ _ er) h l
 | many e er h l hu M=>exact .many (s _ _ e) (s _ _ er) h l (hu.mono s) M
theorem Sx{ys:List Int}{j:Nat}(l:ys.length=tab.length):dZ ys (tab.map fun t=>gz t j)=ah tab.length fun i=>gz ys i*gz (tab.getD i []) j:=by
 rw [gr l (by rw [aD])]
 refine cq fun i hi=>?_
 congr 1
 unfold gz;rw [bq,bo,bq (l:=tab),bw hi];rfl
end My
namespace L2
open PySem PySem.Spec PyProof.Rows
theorem Jk{X:Cx}{K:aA}(hu:X.A.units+64<cLine)(hk:X.K=K:=by rfl):b8 X (compareOp .Eq) (II K):=by subst hk;exact RQ hu
end L2
namespace My
open PySem L2
variable {tab:List (List Int)}
theorem Sy{q:Int}{m:Nat}{ms:List (List Int)}{fs:List Nat}(M:km q m tab ms fs):ms.length≤m:=by
 rw [M.len];have nd:fs.Nodup:=by
  refine List.pairwise_iff_getElem.mpr fun i j hi hj lt e=>?_;have h1:=M.own i (by rw [M.len];exact hi)
  have h2:=M.yL i j (by rw [M.len];exact hi) (by rw [M.len];exact hj) (by lia)
  rw [getD_at hi] at h1;rw [getD_at hj,←e,h1] at h2;cases h2
 have:=IK (m:=List.range m) nd fun f hf=>gM.mpr (M.jg f hf)
 rwa [fQ] at this
def Sz(C:Addr):Sp:=fun vs H Q _=>∃(z a b:Addr) (p m:Nat) (tab:List (List Int)) (as:List Int),vs=[.ref z,.ref a,.ref b]∧fV C H z (p:Int)∧bg (p:Int)∧2≤p∧dA H a tab∧(∀t∈tab,t.length=m∧bP p t)∧H b=some (.lst (as.map V.int))∧1≤tab.length∧tab.length≤4∧m≤6∧as.length≠tab.length∧∀H',af H H'→Q (.bl true) H'
def yY(H0 H:Hp)(p m:Nat)(tab:List (List Int))(as:List Int)(fo:Addr):Prop:=vZ H p m tab as fo ∧
  ((∃(s:Str) (r:Addr) (xs:List Int),H fo=some (.tup [.str s,.ref r])∧H r=some (.lst (xs.map V.int))∧xs.length≤6∧H0 r=none) ∨
   ∃(s:Str) (r u x:Addr) (xs ts:List Int) (ws:List V),H fo=some (.tup [.str s,.ref r,.ref u])∧H r=some (.lst (xs.map V.int))∧xs.length≤6∧H0 r=none∧H u=some (.lst ws)∧H0 u=none∧u≠r∧ws[0]?=some (.ref x)∧H x=some (.lst (ts.map V.int))∧H0 x=none∧x≠r∧x≠u)
section
variable {H H':Hp} {p m:Nat} {tab:List (List Int)} {as:List Int}
variable {r:Addr}
theorem Jl{t:Addr}{ys:List Int}(n4:tab.length≤4)(nr:H r=none)(et:H' t=some (.tup [.str (Str.ofString "barred"),.ref r]))(er:H' r=some (.lst (ys.map V.int)))(ly:ys.length=tab.length)(iy:bP p ys)(hb:∀k,k<m→Cg p (ah tab.length fun i=>gz ys i*gz (tab.getD i []) k) 0)(b1:Cg p (dZ ys as) 1):yY H H' p m tab as t:=
 ⟨.no et er ly iy hb b1,.inl ⟨_,r,ys,et,er,by lia,nr⟩⟩
variable {xs:List Int}
theorem Jm{t:Addr}(m6:m≤6)(nr:H r=none)(et:H' t=some (.tup [.str (Str.ofString "one"),.ref r]))(er:H' r=some (.lst (xs.map V.int)))(hx:xs∈c_ p m tab as)(h1:(c_ p m tab as).length=1):yY H H' p m tab as t:=
 ⟨.one et er hx h1,.inl ⟨_,r,xs,et,er,by have:=(kn.mp hx).1.1;lia,nr⟩⟩
theorem Jn{t u:Addr}{ws:List V}{ms:List (List Int)}{fs:List Nat}(m6:m≤6)(nr:H r=none)(et:H' t=some (.tup [.str (Str.ofString "many"),.ref r,.ref u]))(er:H' r=some (.lst (xs.map V.int)))(hx:xs∈c_ p m tab as)(h1:(c_ p m tab as).length≠1)(eu:H' u=some (.lst ws))(nt:yS H r u ws)(hu:dA H' u ms)(m0:ms≠[])(M:km p m tab ms fs):yY H H' p m tab as t:=by
 obtain ⟨nu,ur,hw⟩:=nt;have l0:0<ms.length:=List.length_pos_iff.mpr m0;obtain ⟨lw,hv⟩:=hu.at eu;obtain ⟨w,w0⟩:∃w,ws[0]?=some w:=⟨ws[0]'(by lia),bw _⟩
 obtain ⟨ts,x,_,mt,ex,pL⟩:=hv 0 _ w0;obtain ⟨x',e1,e2,e3⟩:=hw w (mS w0);rw [ex] at e1;cases e1;have xu:x≠u:=fun e=>by
  rw [e,eu] at pL;have e5:ws=ts.map V.int:=by cases pL;rfl
  rw [e5,bo,ex] at w0;cases z:ts[0]? with
  | none=>rw [z] at w0;cases w0
  | some c=>rw [z] at w0;cases w0
 exact ⟨.many et er hx h1 hu M,.inr ⟨_,r,u,x,xs,ts,ws,et,er,by have:=(kn.mp hx).1.1;lia,nr,eu,nu,ur,by rw [w0,ex],pL,e2,e3,xu⟩⟩
end
variable {K:aA} {σ:St} {H:Hp} {Q:VK}
theorem SA{wi:TI}{ρ:St→St}{te:TE}{l:Addr}{xs:List (List Int)}(g:List Int→List Int)(hT:dA H l xs)(gk:∀R:It→Hp→Prop,R (kS K l) H→wi σ H R)(hn:xs.length<sizeLine)
  (step:∀(r:Addr) (x:List Int) (Hc:Hp) (R:VK),x∈xs→af H Hc→Hc r=some (.lst (x.map V.int))→(∀(t m:Addr) (Hd:Hp),af Hc Hd→Hd t=some (.tup [.ref r,.ref m])→Hd m=some (.lst ((g x).map V.int))→Hc m=none→R (.ref t) Hd)→te (some (.ref r)::ρ σ) Hc R)
  (fin:∀D Hc,H D=none→af H Hc→sv Hc D g xs→Q (.ref D) Hc):iu wi ρ (fun _ H Q=>Q true H) te σ H Q:=by
 obtain ⟨vs,el,lv,hv⟩:=id hT;refine gk _ ?_;intro D nD;have js:mh (kS K l) vs H:=fL (.of el);refine ⟨fun i k us Hc=>k=xs.length-i∧i≤xs.length∧Hc D=some (.lst us)∧af H Hc∧us.length=i∧∀(j:Nat) (u:V) (x:List Int),us[j]?=some u→xs[j]?=some x→∃t r m:Addr,u=.ref t∧Hc t=some (.tup [.ref r,.ref m])∧Hc r=some (.lst (x.map V.int))∧Hc m=some (.lst ((g x).map V.int))∧r≠D∧m≠D,⟨_,rfl,cT _,aB,d_ (af.refl H) nD,rfl,fun j u x h=>by cases h⟩,?_⟩
 rintro i k us Hc ⟨rfl,hi,eD,sH,lu,hu⟩;refine ⟨eD,?_⟩;by_cases cb:i<xs.length
 ·refine .inr ⟨js.go i Hc sH (by lia),fun v H' hy=>?_⟩
  obtain ⟨rfl,hx⟩:=js.d6 i Hc v H' sH hy;have ev:=hx (by lia)
  obtain ⟨r,rfl,er⟩:=hv i v xs[i] ev (bw cb);have xi:xs[i]?=some xs[i]:=bw cb;have mx:xs[i]∈xs:=a7 cb;generalize xs[i]=x at er xi mx;have rD:r≠D:=fun z=>by rw [z,nD] at er;cases er
  rw [aq rfl];refine step r x _ _ mx sH (sH _ _ er) fun t m Hd sd et em nm=>?_;have mD:m≠D:=fun z=>by rw [z,eD] at nm;cases nm
  have tD:t≠D:=fun z=>by rw [z,sd _ _ eD] at et;cases et
  refine ⟨sd _ _ eD,by lia,xs.length-(i+1),by lia,rfl,cb,aB,d_ (sH.trans sd) nD,by simp [lu],fun j u y h1 h2=>?_⟩
  by_cases hj:j<us.length
  ·rw [eX hj] at h1
   obtain ⟨t',r',m',g1,g2,g3,g4,g5,g6⟩:=hu j u y h1 h2;have SD:t'≠D:=fun z=>by rw [z,eD] at g2;cases g2
   exact ⟨t',r',m',g1,(aH SD).trans (sd _ _ g2),(aH g5).trans (sd _ _ g3),(aH g6).trans (sd _ _ g4),g5,g6⟩
  ·have hl:=(aW.mp h1).1
   rw [fe,xa] at hl;have ej:j=us.length:=by lia
   subst ej;rw [fE (aI _),jG] at h1;rw [lu,xi] at h2;cases h1;cases h2;exact ⟨t,r,m,rfl,(aH tD).trans et,(aH rD).trans (sd _ _ (sH _ _ er)),(aH mD).trans em,rD,mD⟩
 ·have e:i=xs.length:=by lia
  subst e;exact .inl ⟨js.stop _ Hc sH (by lia),fin D Hc nD sH ⟨us,eD,lu,fun j u x h1 h2=>by obtain ⟨t,r,m,g1,g2,g3,g4,_⟩:=hu j u x h1 h2;exact ⟨t,r,m,g1,g2,g3,g4⟩⟩⟩
variable {a b:Addr}
theorem Jo{n:Nat}{t:List Int}(h1:H a=some (.lst (t.map V.int)))(h2:H b=some (.lst (t.map V.int))):vz K H (n+1) (.ref a) (.ref b):=
 .inr ⟨a,b,_,_,rfl,rfl,.inl ⟨.of h1,.of h2⟩,rfl,fun j x y e1 e2=>by
  rw [e1] at e2;cases e2;have fl:gf x=true:=by
   rw [bo] at e1;cases z:t[j]? with
   | none=>rw [z] at e1;cases e1
   | some c=>rw [z] at e1;cases e1;rfl
  cases n with
  | zero=>exact ⟨rfl,fl⟩
  | succ n=>exact .inl ⟨rfl,fl⟩⟩
theorem SE(h1:dA H a tab)(h2:dA H b tab):vz K H 2 (.ref a) (.ref b):=by
 obtain ⟨vs,ea,la,ka⟩:=h1;obtain ⟨us,eb,lb,kb⟩:=h2;refine .inr ⟨a,b,_,_,rfl,rfl,.inl ⟨.of ea,.of eb⟩,by lia,fun j x y e1 e2=>?_⟩
 have hj:j<tab.length:=by rw [←la];exact (aW.mp e1).1
 obtain ⟨r,rfl,er⟩:=ka j x _ e1 (bw hj);obtain ⟨s,rfl,es⟩:=kb j y _ e2 (bw hj);exact Jo er es
theorem SF{K1 K2:aA}{i:Nat}(e:σ[i]?=some (some (.ref a)))(h:dA H a tab)(C0:tab.length≤40)(k:∀D H',H D=none→af H H'→dA H' D tab→Q (.ref D) H'):iu (Bl K1 (oX i)) (fun _=>[]) (fun _ H Q=>Q true H) (xT (Hn K2) (o8 (oX 0) xS)) σ H Q:=by
 obtain ⟨vs,ea,lv,fv⟩:=id h;refine e_ (xs:=vs) (fun R h=>⟨_,e,a,rfl,⟨_,.of ea⟩,h _ _ (af.refl _) (fL (.of ea))⟩) (by rw [lv];exact b_ (by lia)) (fun D i y Hx=>∀t,tab[i]?=some t→∃x:Addr,y=.ref x∧x≠D∧Hx x=some (.lst (t.map V.int))) (fun D i y Ha Hb ys h e f t ht=>by obtain ⟨x,h1,h2,h3⟩:=h t ht;exact ⟨x,h1,h2,f _ _ h2 h3⟩) ?_ ?_
 ·intro D i v hi Hc R sc ⟨zs,eD⟩ kc
  obtain ⟨t,r,e1,_,rfl,er⟩:=(h.at ea).2 i v hi;refine ⟨_,rfl,r,_,rfl,.inl (.of (sc _ _ er)),fun b nb=>kc _ _ (aK nb) fun t' Jp=>?_⟩;rw [e1] at Jp;cases Jp;exact ⟨b,rfl,(fun e=>by rw [e,eD] at nb;cases nb),aB⟩
 ·intro D ys Hc nD sc dU hP eD
  exact k D Hc nD sc ⟨ys,eD,by lia,fun i v t h1 h2=>by obtain ⟨x,e1,_,e3⟩:=hP i v h1 t h2;exact ⟨x,e1,e3⟩⟩
end My
namespace L2
open PySem
theorem SG{te:TE}{t2:TA}{σ:St}{H:Hp}{Q:VK}(h:te σ H fun x H1=>t2 σ H1 fun xs H2=>(x::xs).length≤sizeLine∧∀p,H2 p=none→Q (.ref p) (upd H2 p (.lst (x::xs)))):F2 (o8 te t2) σ H Q:=h
end L2
namespace My
open PySem L2
theorem SH{a b c:TS}{D:Ends}{σ:St}{H:Hp}(J:St→Hp→Prop)(h1:∀R:St→Hp→Prop,(∀σ H,J σ H→R σ H)→a {D with nx:=fun σ H=>b {D with nx:=R} σ H} σ H)(h2:∀σ H,J σ H→c D σ H):rB a (rB b c) D σ H:=h1 _ h2
end My
namespace L2
open PySem PySem.Spec PyProof.Rows
section
variable {X:Cx} {N:List Str} {scope:Scope} {cl:List (Str×Addr)} {x y:Str} {px py pos tp:Pos} {j_:Nat} {iter elt:Expr} {ifs:List Expr} {wi:TI} {ρ:St→St} {tt:TT} {te:TE}
theorem Jq{y9:Str}{sy nS:Pos}{i0:Nat}(B:B0 X N scope cl x y ρ)(hc:X.calm=true)(hN:X.N.Nodup)(vm:X.N[i0]?=some y9)(hy:Loc X.env.scope y9)(hi:PI X (.Tuple [.Name x px,.Name y py] j_ tp) iter wi)(ht:∀s₃ H₃ fp,iq (X.aY N scope cl s₃ H₃ fp) ifs tt)(he:∀s₃ H₃ fp,PE (X.aY N scope cl s₃ H₃ fp) elt te)
  (vo:swapsWith (.ListComp elt [⟨.Tuple [.Name x px,.Name y py] j_ tp,iter,ifs,0⟩] scope pos) (some (.Name y9 sy)) nS.line X.env=pure true:=by rfl) (hf:X.fn y9=true∨X.env.scope.names.lookup y9=some .local:=by first | exact .inl rfl | exact .inr rfl | assumption)
  (hs:∀x,foldedSetIterable iter X.env x=pure x:=by intro _;rfl):PS X (.Assign [.Name y9 sy] (.ListComp elt [⟨.Tuple [.Name x px,.Name y py] j_ tp,iter,ifs,0⟩] scope pos) nS) (lV (pC X.K wi ρ tt te) (aS i0)):=by
 intro pins s σ H D0 I h
 have h:pC X.K wi ρ tt te σ H (fun v H1=>D0.nx (σ.set i0 (some v)) H1):=h
 rw [AO _ _ _ _ vo]
 refine bG (qO (bG ?_))
 show wpAny _ X.A (do let _ ←comprehension (.ListComp elt [⟨.Tuple [.Name x px,.Name y py] j_ tp,iter,ifs,0⟩] scope pos) scope X.env _ (newList []) false (eval iter X.env) (some (assign (.Name y9 sy) X.env))) _ _ s
 refine bG (a_ (Q:=fun _ s'=>SP X pins D0 .next s') ?_ (fun _ s' hq=>dC (dC hq)) fun _ _ e=>e)
 refine qT (use:=some (assign (.Name y9 sy) X.env)) rfl hs B.nI B.kind B.names (aF (hi pins s σ H _ I h) fun v s1 h1=>aF h1 fun nB s2 h2=>?_)
 obtain ⟨it,fp,tn,J,H2,rfl,I2,T,dM,f2,q2⟩:=h2
 have nD:H2 s2.heap.objs.size=none:=I2.au.fresh (aI _)
 obtain ⟨W,⟨m0,w0⟩,turn⟩:=q2 _ nD
 refine oB (xb B.ve (by intro y hy;simp at hy) (fun h₁ d7 fK=>?_) B.kind)
 dsimp only at d7 fK ⊢
 generalize hD:s2.heap.objs.size=D at nD w0 turn d7 fK ⊢
 generalize dy:({s2 with heap:=s2.heap.push {cls:=.type "list",dict:=none,data:=.seq ([]:List Value).toArray}}:Shared)=s3
 have I3:Inv X pins σ (upd H2 D (.lst [])) s3:=by
  subst hD dy
  exact I2.laid (t':=s2.toks) (fun b u e=>b9 _ e) (aI _) ⟨cT _,[],_,.nil,fc _ rfl⟩
 have e3:s3.heap=s2.heap.push {cls:=.type "list",dict:=none,data:=.seq ([]:List Value).toArray}:=by rw [←dy]
 have cL:∀b o,s2.heap.get? b=some o→s3.heap.get? b=some o:=fun b o e=>by rw [e3];exact b9 _ e
 rw [←e3] at d7 fK ⊢
 have below:∀b o,s3.heap.get? b=some o→b≠s3.heap.objs.size:=fun b o e=>dB (aZ e)
 have b5:∀b o,s3.heap.get? b=some o→h₁.get? b=some o:=fun b o e=>fK.extBut b o (below b o e) (b9 _ e)
 have dP:∀b∈fp,∃o,s2.heap.get? b=some o∧∀v,o.data≠.cell v:=T.obj _ _ dM
 have jW:∀b∈fp,b≠D:=fun b hb z=>by
  obtain ⟨o,e,_⟩:=dP b hb
  rw [z,←hD] at e
  exact absurd (aZ e) (eW _)
 have bF:∀y c,cl.lookup y=some c→X.env.cells.lookup y=some c:=fun y c e=>B.sub (y,c) (iE e)
 have jX:=I3.m9
 have dF:(X.aY N scope cl s3 (upd H2 D (.lst [])) fp).Ok:=by
  refine ⟨I.ok.mod,B.kind,I.ok.glob,I.ok.blt,aI _,fun a b c e1 e2=>I.ok.inj a b c (bF a c e1) (bF b c e2),fun y hy=>B.has y hy,(fun _ _ z _=>absurd z cJ),(fun _=>I.ok.hd hc),I.ok.frames,.inl rfl,fun b hb=>⟨?_,fun y c e z=>?_⟩,fun b o e=>?_,aN I.ok.fj I3.sz,fun b o e hb=>?_,fun b hb z=>?_,I3.stack,jX⟩
  ·obtain ⟨o,e,_⟩:=dP b hb
   exact below b o (cL b o e)
  ·exact (f2 b hb).2.2.2.2.1 y c (bF y c e) z
  ·exact I3.bs b o e
  ·rcases (f2 b hb).2.2.2.1 with z | z
   ·exact I.ok.jJ b o e z
   ·exact absurd (cw (aZ e) (aN I.ok.fj z)) (eW _)
  ·rcases dq.mp (I3.m7 b z) with z | z
   ·exact (f2 b hb).2.1 z
   ·exact (f2 b hb).2.2.1 z
 have IB:∀tk:Nat,Inv (X.aY N scope cl s3 (upd H2 D (.lst [])) fp) [] (none::none::ρ σ) (upd H2 D (.lst [])) {s3 with heap:=h₁,toks:=tk}:=fun tk=>by
  refine ⟨dF,rfl,I3.bare,Un.kept b5,⟨_,d7,fun j y v e1 e2 e3=>?_⟩,fun y c e=>?_,?_,fun y c e=>I3.fR y c (bF y c e),(fun p hp=>nomatch hp),I3.au.kept b5,?_⟩
  ·cases j with
   | zero=>cases e2
   | succ j=>
   cases j with
   | zero=>cases e2
   | succ j=>
    obtain ⟨i,y',a1,a2,a3,a4,a5,a6⟩:=B.nJ σ j v e2
    have iU:N[j+1+1]?=some y:=e1
    rw [iU] at a1
    cases a1
    obtain ⟨m,hn,hl⟩:=I3.loc
    obtain ⟨u,r,l⟩:=hl i y v a2 a3 a4
    refine ⟨u,r,.inr ⟨a6,?_⟩⟩
    obtain ⟨c,ec⟩:=B.has y a6
    rcases l with ⟨k,_⟩ | ⟨_,c',gg,z⟩
    ·rcases a5 with q | q <;> (rw [k] at q;cases q)
    ·have:=bF y c ec
     rw [this] at gg
     cases gg
     obtain ⟨o,ho,hd⟩:=z
     exact ⟨c,ec,o,b5 _ _ ho,hd⟩
  ·obtain ⟨v,o,ho,hd⟩:=I3.cell y c (bF y c e)
   exact ⟨v,o,b5 _ _ ho,hd⟩
  ·exact I3.au.fresh (aI _)
  ·show (none::none::ρ σ).length=N.length
   rw [cx,cx]
   exact B.len σ I.len
 have j7:∀b o,s3.heap.get? b=some o→b≠s3.heap.objs.size:=below
 have fin:∀{σ':St} {H':Hp} {s':Shared},Inv (X.aY N scope cl s3 (upd H2 D (.lst [])) fp) [] σ' H' s'→D0.nx (σ.set i0 (some (.ref D))) H'→compPost (model X.prog X.w) X.A X.xe (some (assign (.Name y9 sy) X.env)) (fun _ s'=>SP X pins D0 .next s') (.ref D) s3.heap.objs.size (.ok .next) s':=fun{σ' H' s'} J q=>by
  obtain ⟨m,hn,_⟩:=J.loc
  have hn:s'.heap.Ns s3.heap.objs.size m:=hn
  have JC:H' s3.heap.objs.size=none:=J.free
  have u1:Un (b7 X.stack) fp (upd H2 D (.lst [])) H' s3.heap s'.heap:=by
   refine ⟨fun b o e n hb hx=>J.base.keep b o e n hb hx,fun b o e n hb hx=>J.base.slot b o e n hb hx,J.base.free,fun b o e hx=>J.base.there b o e hx,J.base.d3,J.base.dS,J.base.d5⟩
  have IX:Inv X pins σ H' s':=I3.iJ (ch:=fp) (J.os) u1 J.au J.bare fun b hb=>by
   obtain ⟨g0,g1,g2,g3,g4,g5⟩:=f2 b hb
   exact ⟨g3,g1,g4,g5⟩
  have nl:X.env.locals≠s3.heap.objs.size:=by
   obtain ⟨m3,⟨o3,_,_,e3,_⟩,_⟩:=I3.loc
   exact j7 _ _ e3
  have nc:∀z c,X.env.cells.lookup z=some c→c≠s3.heap.objs.size:=fun z c e=>by
   obtain ⟨v3,o3,e3,_⟩:=I3.cell z c e
   exact j7 _ _ e3
  refine wU (xy (v:=.ref D) IX hN vm hy rfl (fun gG j8 j9=>?_) hf)
  obtain ⟨a,j9,ha⟩:=j9
  have na:s3.heap.objs.size≠a:=by
   rcases ha with rfl | e
   ·exact fun z=>nl z.symm
   ·exact fun z=>nc _ _ e z.symm
  refine ⟨m,hn.sameBut j9 na,fun h' cH=>⟨σ.set i0 (some (.ref D)),H',?_,q⟩⟩
  have u2:Un (b7 X.stack) [s3.heap.objs.size] H' H' gG.heap h':=by
   refine ⟨fun b o e n hb hx=>(cH.2 b (by simpa using hx)).trans e,fun b o e n hb hx=>⟨o.slots,(cH.2 b (by simpa using hx)).trans e⟩,fun b o e n hx=>n,fun b o e hx=>⟨o,(cH.2 b (by simpa using hx)).trans e⟩,fun b xs z=>z,fun b o u z=>z,fun b ps z=>⟨#[],by simpa using z⟩⟩
  have jY:bT X.prog X.w H' h':=fun b u e=>by
   refine (j8.au b u e).gB (fun c v hc z=>(cH.2 c fun y=>?_).trans z) (fun _ z=>z) fun _ _ z=>z
   have y':c=s3.heap.objs.size:=y
   rcases hc with hc | hc
   ·rw [←hc,y',JC] at e
    cases e
   ·rw [y',JC] at hc
    cases hc
  refine j8.iJ (s':={gG with heap:=h'}) (ch:=[s3.heap.objs.size]) rfl u2 jY j8.bare fun b hb=>?_
  have eb:b=s3.heap.objs.size:=by simpa using hb
  subst eb
  refine ⟨.inr I3.sz,fun z=>nl z.symm,fun z c e=>nc z c e,fun p hp=>?_⟩
  exact j7 _ _ (I3.pin p hp).1
 have dr:∀{H':Hp},(∀b∈fp,H' b=none)→∀b∈fp,jh (X.aY N scope cl s3 (upd H2 D (.lst [])) fp) [] H' b:=fun hn b hb=>by
  refine ⟨hn b hb,?_,?_,.inl hb,fun y c e z=>(f2 b hb).2.2.2.2.1 y c (bF y c e) z,fun p hp=>nomatch hp⟩
  ·obtain ⟨o,e,_⟩:=dP b hb
   exact below b o (cL b o e)
  ·exact dF.jK b hb
 have loop:∀tk:Nat,codeAny (model X.prog X.w) X.A (.compLoop (.ListComp elt [⟨.Tuple [.Name x px,.Name y py] j_ tp,iter,ifs,0⟩] scope pos) 0 (.ref it) (.ref D) (compEnvC scope cl s3.heap.objs.size X.env))
   (compPost (model X.prog X.w) X.A X.xe (some (assign (.Name y9 sy) X.env)) (fun _ s'=>SP X pins D0 .next s') (.ref D) s3.heap.objs.size) {s3 with heap:=h₁,toks:=tk}:=fun tk=>by
  refine G_ (fun n s'=>∃i ys o o2 H',Inv (X.aY N scope cl s3 (upd H2 D (.lst [])) fp) [] (o::o2::ρ σ) H' s'∧tn i s'.heap∧(∀b∈fp,H' b=none)∧W i n ys H') ?_ m0
   ⟨0,[],none,none,_,IB tk,T.keep _ _ _ dM fun b hb o e=>b5 _ _ (cL _ _ e),fun b hb=>by rw [aH (jW b hb)];exact (f2 b hb).1,w0⟩
  rintro n s4 ⟨i,ys,o,o2,H4,I4,gh,gi,w4⟩
  obtain ⟨vg,jZ⟩:=turn i n ys H4 w4
  rcases jZ with ⟨stop,qn⟩ | ⟨go,step⟩
  ·refine a_ (T.done (X.aY N scope cl s3 (upd H2 D (.lst [])) fp) rfl rfl rfl hc i [] s4 _ H4 (fun _ _=>False) I4 (dr gi) gh stop) (fun r s5 ⟨hr,I5⟩=>?_) fun _ _ z=>z.elim
   subst hr
   exact fin I5 qn
  ·refine a_ (T.item (X.aY N scope cl s3 (upd H2 D (.lst [])) fp) rfl rfl rfl hc i [] s4 _ H4 (fun _ _=>False) I4 (dr gi) gh go) (fun r s5 ⟨u,hr,h5⟩=>?_) fun _ _ z=>z.elim
   subst hr
   refine a_ h5 (fun _ s5 ⟨y0,H5,I5,r5,y5,du,iL⟩=>?_) fun _ _ z=>z.elim
   obtain ⟨Tt,x1,x2,e0,B3,j4⟩:=step y0 _ y5
   subst e0
   have iM:=I5.pinned (dr iL) (T.obj _ _ du)
   have pg:PG (X.aY N scope cl s3 (upd H2 D (.lst [])) fp) (.Tuple [.Name x px,.Name y py] j_ tp) (Bg X.K 2 (uY (aS 0) (uY (aS 1) Bf))):=
    xG (X:=X.aY N scope cl s3 (upd H2 D (.lst [])) fp) hc (ng (e7 (i:=0) B.nd B.n0 (.inl (jd B.hx)) (.inr (jd B.hx))) (ng (e7 (i:=1) B.nd B.n1 (.inl (jd B.hy)) (.inr (jd B.hy))) xF))
   have again:∀{σ7:St} {H7:Hp} {s7:Shared},Inv (X.aY N scope cl s3 (upd H2 D (.lst [])) fp) ([]++gD fp s5.heap) σ7 H7 s7→Inv (X.aY N scope cl s3 (upd H2 D (.lst [])) fp) [] σ7 H7 s7∧tn (i+1) s7.heap∧∀b∈fp,H7 b=none:=fun{σ7 H7 s7} I7=>by
    refine ⟨I7.lX,T.keep _ _ _ du fun b hb o e=>(I7.pin (b,o) (cM _ (cM _ (ig hb e)))).1,fun b hb=>?_⟩
    obtain ⟨o,e,d⟩:=T.obj _ _ du b hb
    exact (I7.pin (b,o) (cM _ (cM _ (ig hb e)))).2.1
   refine a_ (pg _ s5 _ H5 (.ref Tt) u (fun σ2 H6=>σ2=some x1::some x2::ρ σ∧H6=H5) iM r5 ⟨Tt,_,rfl,B3,rfl,_,_,rfl,_,_,rfl,rfl,rfl,rfl⟩) (fun _ s6 ⟨σ6,H6,I6,q6⟩=>?_) fun _ _ z=>z.elim
   obtain ⟨rfl,rfl⟩:=q6
   have tests:∀{d8:TT},iq (X.aY N scope cl s3 (upd H2 D (.lst [])) fp) ifs d8→∀{R:Bool→Hp→Prop},d8 (some x1::some x2::ρ σ) H6 R→wpAny (model X.prog X.w) X.A
     (forIn ifs true fun c r=>if r=true then do let ok ←isTrue c (compEnvC scope cl s3.heap.objs.size X.env) (eval c (compEnvC scope cl s3.heap.objs.size X.env));pure (ForInStep.yield ok) else pure (ForInStep.yield r))
     (fun ok s7=>∃H7,Inv (X.aY N scope cl s3 (upd H2 D (.lst [])) fp) ([]++gD fp s5.heap) (some x1::some x2::ρ σ) H7 s7∧R ok H7) (fun _ _=>False) s6:=fun{d8} p {R} hR=>by
    cases p with
    | nil=>exact qU ⟨_,I6,hR⟩
    | one p=>exact qV (p _ s6 _ _ _ I6 hR)
   refine a_ (tests (ht s3 _ fp) j4) (fun ok s7 ⟨H7,I7,q7⟩=>?_) fun _ _ z=>z.elim
   cases ok with
   | false=>
    obtain ⟨m',d9,w7⟩:=q7
    obtain ⟨a1,a2,a3⟩:=again I7
    exact ⟨m',d9,i+1,ys,_,_,H7,a1,a2,a3,w7⟩
   | true=>
    refine a_ (he s3 _ fp _ s7 _ H7 _ I7 q7) (fun ev s8 ⟨z,H8,I8,r8,j6,hz,m',d9,w8⟩=>?_) fun _ _ z=>z.elim
    refine a_ (l8 (X:=X.aY N scope cl s3 (upd H2 D (.lst [])) fp) _ s8 _ H8 (.ref D) [z] (.ref D) [ev] (fun _ H9=>H9=upd H8 D (.lst (ys++[z]))) I8 rfl (.cons r8 .nil) ⟨D,ys,z,rfl,rfl,j6,hz,rfl⟩) (fun _ s9 ⟨_,H9,I9,_,q9⟩=>?_) fun _ _ z=>z.elim
    subst q9
    obtain ⟨a1,a2,a3⟩:=again I9
    exact ⟨m',d9,i+1,ys++[z],_,_,_,a1,a2,a3,w8⟩
 have start:=loop (s3.toks+([]:List (Str×Value)).length)
 have es:({s3 with heap:=h₁,toks:=s3.toks+([]:List (Str×Value)).length}:Shared)={s2 with heap:=h₁,toks:=s2.toks+([]:List (Str×Value)).length}:=by rw [←dy]
 rw [es] at start
 exact qW start (T.self _ 0 _ _ _ (T.keep _ _ _ dM fun b hb o e=>b5 _ _ (cL _ _ e)) start)
end
end L2
set_option maxRecDepth 100000
set_option maxHeartbeats 4000000
namespace My
open PySem L2
def top(i:Nat):Stmt:=PySem.Challenge.pw_bandwright_k11_undone_counted.main.body.getD i (.Pass ⟨0,0,0,0⟩)
abbrev yZ:Stmt:=top 31
abbrev y4:Stmt:=top 33
abbrev y6:Stmt:=top 34
abbrev y7:Stmt:=top 36
abbrev y8:Stmt:=top 37
abbrev y_:Stmt:=top 38
abbrev za:Stmt:=top 41
abbrev zb:Stmt:=top 43
abbrev zc:Stmt:=top 44
abbrev zd:Stmt:=top 47
abbrev ze:Stmt:=top 48
abbrev zg:Stmt:=top 12
abbrev zh:Stmt:=top 13
abbrev zi:Stmt:=top 14
abbrev zj:Stmt:=top 15
abbrev zk:Stmt:=top 17
abbrev zl:Stmt:=top 18
abbrev zm:Stmt:=top 19
abbrev zo:Stmt:=top 20
abbrev zp:Stmt:=top 21
abbrev zq:Stmt:=top 23
abbrev zr:Stmt:=top 24
abbrev zt:Stmt:=top 25
abbrev zu:Stmt:=top 26
abbrev zw:Stmt:=top 27
abbrev zx:Stmt:=top 51
abbrev zy:Stmt:=top 52
abbrev zA:Stmt:=top 53
abbrev zB:Stmt:=top 54
abbrev zC:Stmt:=top 55
abbrev zD:Stmt:=top 56
abbrev zE:Stmt:=top 57
abbrev zF:Stmt:=top 58
abbrev zG:Stmt:=top 59
abbrev zH:Stmt:=top 60
abbrev zI:Stmt:=top 61
abbrev zJ:Stmt:=top 62
abbrev zK:Stmt:=top 63
abbrev zL:Stmt:=inClass (top 49) 0
abbrev jy:Stmt:=inClass (top 49) 3
abbrev zM:Stmt:=inClass (top 49) 5
abbrev zN:Stmt:=inClass (top 49) 8
set_option genInjectivity false in
set_option genSizeOf false in
structure zO where
 pM:Addr
 sA:FuncData
 pN:Addr
 sC:FuncData
 pO:Addr
 sE:FuncData
 pP:Addr
 sF:FuncData
 pQ:Addr
 sG:FuncData
 pR:Addr
 sI:FuncData
 pS:Addr
 sJ:FuncData
 pU:Addr
 sM:FuncData
 pV:Addr
 sN:FuncData
 pW:Addr
 sO:FuncData
 pX:Addr
 sP:FuncData
 pY:Addr
 sQ:FuncData
 pZ:Addr
 sR:FuncData
 p3:Addr
 sS:FuncData
 p4:Addr
 sU:FuncData
 p5:Addr
 sV:FuncData
 p6:Addr
 sW:FuncData
 p8:Addr
 sX:FuncData
 p9:Addr
 sY:FuncData
 p_:Addr
 sZ:FuncData
 qa:Addr
 s_:FuncData
 qb:Addr
 tf:FuncData
 qc:Addr
 tj:FuncData
 qd:Addr
 tq:FuncData
 mz:Addr
 n9:FuncData
 qe:Addr
 tu:FuncData
 qf:Addr
 tE:FuncData
 qg:Addr
 tF:FuncData
 qh:Addr
 tG:FuncData
 qi:Addr
 tH:FuncData
 qj:Addr
 tI:FuncData
 qk:Addr
 tJ:FuncData
 ql:Addr
 tK:FuncData
 qm:Addr
 tL:FuncData
 qo:Addr
 tM:FuncData
 qp:Addr
 tN:FuncData
 qr:Addr
 tO:FuncData
 n_:Addr
 qt:FuncData
 qu:Addr
 tP:FuncData
 mB:Addr
 v_:FuncData
 qv:Addr
 tQ:FuncData
 qw:Addr
 tR:FuncData
 bN:Addr
 mC:Addr
 jz:Addr
 oa:Addr
 br:Addr
 tS:Addr
 tT:Addr
 tU:Addr
 tV:Addr
 tW:Addr
abbrev bI (mg:cz) (x:Str) (f:Addr):Prop:=mg x=some (.ref f)
abbrev zP (K:aA) (a:Addr):Prop:=PySem.W.excIn K a [.type "ValueError",.type "Exception",.type "BaseException",.type "object"] "ValueError.__new__"=true
structure Txt (K:aA) (mg:cz) (t:zO):Prop where
 tX:aP K "is_whole" yZ t.pM t.sA
 Jr:Binds K t.sA ["thing"] []
 Js:bI mg "is_whole" t.pM
 mE:aP K "common_divisor" y4 t.pN t.sC
 wa:Binds K t.sC ["one","other"] []
 wb:bI mg "common_divisor" t.pN
 tY:aP K "is_prime" y6 t.pO t.sE
 Jt:Binds K t.sE ["number"] []
 Ju:bI mg "is_prime" t.pO
 tZ:aP K "ratio" y7 t.pP t.sF
 Jv:Binds K t.sF ["top","bottom"] []
 Jw:bI mg "ratio" t.pP
 t4:aP K "ratio_plus" y8 t.pQ t.sG
 Jx:Binds K t.sG ["a","b"] []
 Jy:bI mg "ratio_plus" t.pQ
 t5:aP K "ratio_minus" y_ t.pR t.sI
 Jz:Binds K t.sI ["a","b"] []
 JA:bI mg "ratio_minus" t.pR
 t6:aP K "one_bottom" za t.pS t.sJ
 JB:Binds K t.sJ ["row"] []
 JD:bI mg "one_bottom" t.pS
 t7:aP K "remainder_back" zb t.pU t.sM
 JE:Binds K t.sM ["prime","number"] []
 JF:bI mg "remainder_back" t.pU
 t8:aP K "remainder_over" zc t.pV t.sN
 JG:Binds K t.sN ["prime","a","b"] []
 JH:bI mg "remainder_over" t.pV
 t9:aP K "is_fractions" zd t.pW t.sO
 JI:Binds K t.sO ["told"] []
 JJ:bI mg "is_fractions" t.pW
 t_:aP K "is_wheel" ze t.pX t.sP
 JK:Binds K t.sP ["told"] []
 JL:bI mg "is_wheel" t.pX
 mF:aP K "width" zg t.pY t.sQ
 wc:Binds K t.sQ ["table"] []
 we:bI mg "width" t.pY
 qx:aP K "check_aim" zh t.pZ t.sR
 C1:Binds K t.sR ["n","aim"] []
 C2:bI mg "check_aim" t.pZ
 ua:aP K "column" zi t.p3 t.sS
 JM:Binds K t.sS ["table","place"] []
 JN:bI mg "column" t.p3
 ub:aP K "columns" zj t.p4 t.sU
 JO:Binds K t.sU ["table"] []
 JP:bI mg "columns" t.p4
 uc:aP K "cleared" zk t.p5 t.sV
 JQ:Binds K t.sV ["world","row","head","lead","last"] []
 JR:bI mg "cleared" t.p5
 ud:aP K "first_filled" zl t.p6 t.sW
 JS:Binds K t.sW ["rows","start","lead"] []
 JT:bI mg "first_filled" t.p6
 ue:aP K "swapped" zm t.p8 t.sX
 JU:Binds K t.sX ["rows","one","other"] []
 JV:bI mg "swapped" t.p8
 uf:aP K "row_over" zo t.p9 t.sY
 JW:Binds K t.sY ["world","row","lead"] []
 JX:bI mg "row_over" t.p9
 og:aP K "reduced" zp t.p_ t.sZ
 zQ:Binds K t.sZ ["world","table"] []
 zR:bI mg "reduced" t.p_
 oh:aP K "beside" zq t.qa t.s_
 zS:Binds K t.s_ ["table","other"] []
 zT:bI mg "beside" t.qa
 oi:aP K "answer_of" zr t.qb t.tf
 zU:Binds K t.tf ["world","rows","leads","wide"] []
 zV:bI mg "answer_of" t.qb
 qy:aP K "move_of" zt t.qc t.tj
 C3:Binds K t.tj ["world","rows","leads","wide","free"] []
 C4:bI mg "move_of" t.qc
 qz:aP K "bar_of" zu t.qd t.tq
 C5:Binds K t.tq ["world","table","aim"] []
 C6:bI mg "bar_of" t.qd
 mG:aP K "undone" zw t.mz t.n9
 zW:Binds K t.n9 ["world","table","aim"] []
 zX:bI mg "undone" t.mz
 i_:aP K "_law_b_draw" zx t.qe t.tu
 mH:Binds K t.tu ["script","k"] []
 mI:bI mg "_law_b_draw" t.qe
 ug:aP K "_law_b_low" zy t.qf t.tE
 JY:Binds K t.tE ["top","bottom"] []
 JZ:bI mg "_law_b_low" t.qf
 oj:aP K "_law_b_whole" zA t.qg t.tF
 zY:Binds K t.tF ["thing"] []
 zZ:bI mg "_law_b_whole" t.qg
 uh:aP K "_law_b_is" zB t.qh t.tG
 J0:Binds K t.tG ["p","thing"] []
 J1:bI mg "_law_b_is" t.qh
 om:aP K "_law_b_number" zC t.qi t.tH
 z8:Binds K t.tH ["p","draw"] []
 z9:bI mg "_law_b_number" t.qi
 ja:aP K "_law_b_dot" zD t.qj t.tI
 mJ:Binds K t.tI ["p","one","other"] []
 mK:bI mg "_law_b_dot" t.qj
 oo:aP K "_law_b_is_row" zE t.qk t.tJ
 z_:Binds K t.tJ ["p","thing","many"] []
 Aa:bI mg "_law_b_is_row" t.qk
 ui:aP K "_law_b_drawn" zF t.ql t.tK
 J2:Binds K t.tK ["script","p","n","m","at"] []
 J4:bI mg "_law_b_drawn" t.ql
 qA:aP K "_law_b_all" zG t.qm t.tL
 C7:Binds K t.tL ["p","many"] []
 C8:bI mg "_law_b_all" t.qm
 uj:aP K "_law_b_are_all_moves" zH t.qo t.tM
 J5:Binds K t.tM ["p","moves","gone","many"] []
 J6:bI mg "_law_b_are_all_moves" t.qo
 qB:aP K "_law_b_right" zI t.qp t.tN
 C9:Binds K t.tN ["p","table","aim","images","found"] []
 C_:bI mg "_law_b_right" t.qp
 uk:aP K "_law_b_refused" zJ t.qr t.tO
 J7:Binds K t.tO ["world","table","aim"] []
 J8:bI mg "_law_b_refused" t.qr
 um:aP K "law" zK t.n_ t.qt
 SI:Binds K t.qt ["script"] []
 J9:bI mg "law" t.n_
 wg:fk K "__init__" "World.__init__" zL t.qu t.tP
 J_:Binds K t.tP ["self","told"] []
 Ab:Mk K t.bN t.qu
 Ka:iX K "of" "World.of" jy 1 t.mB t.v_
 Kb:Binds K t.v_ ["self","top","bottom"] []
 Ac:∃v,Vals [V.int 1] [v]∧Binds K t.v_ ["self","top","bottom"] [v]
 SJ:∀(s:Shared) (us ws:List Value),K.In s.heap→ws.length=1→us.length+1=(["self","top","bottom"]:List Str).length→BindsTo s t.v_ ⟨us,[("bottom":Str)].zip ws⟩ ((["self","top","bottom"]:List Str).zip (us++ws))
 oq:Meth K t.bN "of" t.mB
 wj:fk K "minus" "World.minus" zM t.qv t.tQ
 Kc:Binds K t.tQ ["self","a","b"] []
 Ad:Meth K t.bN "minus" t.qv
 wk:fk K "as_wholes" "World.as_wholes" zN t.qw t.tR
 Kd:Binds K t.tR ["self","row"] []
 Ae:Meth K t.bN "as_wholes" t.qw
 fb:jS K t.bN
 Ke:bI mg "World" t.bN
 jA:o7 K t.bN "prime"
 Dc:bI mg "NoWorld" t.mC
 Af:bI mg "NoOver" t.jz
 Kf:bI mg "WrightError" t.oa
 Ag:bI mg "NoFit" t.br
 Kg:bI mg "NoShape" t.tS
 Kh:bI mg "NoOrder" t.tT
 Ki:bI mg "NoSize" t.tU
 Kj:bI mg "NoLink" t.tV
 Kk:bI mg "Tied" t.tW
 cS:mg "len"=none
 fz:mg "isinstance"=none
 Df:mg "int"=none
 Dg:mg "bool"=none
 qC:mg "tuple"=none
 ot:mg "list"=none
 gs:mg "range"=none
 wo:mg "abs"=none
 wq:mg "all"=none
 Kl:mg "any"=none
 Km:mg "sum"=none
 mO:mg "zip"=none
 Kn:mg "min"=none
 Ko:mg "ValueError"=none
 Kp:∃u,mg "GREATEST_PRIME"=some u∧RelV (.int 997) u
 Kq:∃u,mg "LONG"=some u∧RelV (.int 2048) u
 Kr:zP K t.mC
 Dh:zP K t.jz
 Ah:zP K t.br
 Ks:zP K t.oa
 SK:PySem.W.mroIn K t.br (.ref t.br)=some true
 Kt:PySem.W.mroIn K t.br (.ref t.oa)=some true
 Ku:PySem.W.kitOne K (.ref t.br) (.type "ValueError")=some true
 Kv:PySem.W.kitOne K (.ref t.br) (.ref t.br)=some true
 Kw:PySem.W.kitOne K (.ref t.br) (.ref t.mC)=some false
 Kx:PySem.W.kitOne K (.ref t.br) (.ref t.jz)=some false
 Ky:PySem.W.kitOne K (.ref t.br) (.ref t.tS)=some false
 Kz:PySem.W.kitOne K (.ref t.br) (.ref t.tT)=some false
 KA:PySem.W.kitOne K (.ref t.br) (.ref t.tU)=some false
 KC:PySem.W.kitOne K (.ref t.br) (.ref t.tV)=some false
 KD:PySem.W.kitOne K (.ref t.br) (.ref t.tW)=some false
 KG:PySem.W.hasDictIn K t.br=true
 KH:PySem.W.findIn K (.ref t.br) "__getattribute__"=some (some (.builtin "BaseException.__getattribute__"))
 KI:PySem.W.findIn K (.ref t.br) "__getattr__"=some none
 KJ:PySem.W.findIn K (.ref t.br) "__class__"=some (some (.builtin "object.__class__"))
 KL:PySem.W.mroIn K t.br (.type "object")=some true
 KN:PySem.W.mroIn K t.br (.type "BaseException")=some true
section
variable {P:Program} {w:World} {K:aA} {mg:cz} {base:Heap} {t:zO}
theorem SM:bB ["thing"] ["thing"] (aR yZ):=bU
theorem SN(T:Txt K mg t):aT P w K mg base bV 1 t.pM t.sA ["thing"] GX:=by
 have S:=SM;refine T.tX.cA S (fun _ _ _ _ H _ Q _ hr h=>?_);obtain ⟨v,rfl,ha,k⟩:=h;refine ⟨_,(az (aV (fS (bc (fJ (K:=K)) rfl T.fz boot_isinstance (aa (pv 0) (aa (jM (v:=.ty "int") rfl T.Df boot_int rfl) ag))) (kO (lQ (bc (fJ (K:=K)) rfl T.fz boot_isinstance (aa (pv 0) (aa (jM (v:=.ty "bool") rfl T.Dg boot_bool rfl) ag)))))))),?_⟩;obtain ⟨Ty,ty,k1,k2,_⟩:=ha.vd (K:=K);refine ⟨_,rfl,_,_,_,_,rfl,rfl,ty,k1,_,rfl,cG (fun h1=>?_) (fun h1=>?_)⟩
 ·refine ⟨_,rfl,_,_,_,_,rfl,rfl,ty,k2,_,rfl,?_⟩
  have e:(!l_ v)=iV v:=by
   cases h2:l_ v with
   | true=>rw [GV h2];rfl
   | false=>rw [h2,Bool.or_false] at h1;rw [h1];rfl
  show Q (.bl (!l_ v)) H;rw [e];exact k
 ·have e:iV v=false:=by
   cases h2:iV v with
   | true=>rw [h2] at h1;exact absurd rfl h1
   | false=>rfl
  rw [e] at k;exact k
theorem SO:bB ["one","other","left","shorter"] ["one","other"] (aR y4):=bU
theorem Ai(T:Txt K mg t):aT P w K mg base bV 1 t.pN t.sC ["one","other"] Pw:=by
 have S:=SO;obtain ⟨uL,hL,rL⟩:=T.Kq;refine T.mE.cA S (fun _ _ _ _ H _ _ _ hr h=>?_);obtain ⟨a,b,rfl,mb,k⟩:=h
 refine ⟨_,(ao (putL 0 S.nd (bc xP rfl T.wo boot_abs (aa (pv 0) ag)))
  (ao (putL 1 S.nd (bc xP rfl T.wo boot_abs (aa (pv 1) ag)))
  (ao (xH gQ (bJ xN (pv 1) aj) (ao (putL 2 S.nd (av cp (pv 0) (pv 1)))
  (ao (putL 0 S.nd (pv 1))
  (ao (putL 1 S.nd (pv 2))
  (az (bL (bJ xN (Bw PySem.F.plainAttrs_int PySem.F.slot_int_bit_length PySem.F.type_int_bit_length Pm (pv 0)) (kN (v:=.int 2048) rfl hL rL)) MG bS))))))
  (az (aV (pv 0)))))),?_⟩
 refine ⟨_,rfl,a,rfl,_,rfl,b,rfl,fun m σ H'=>H'=H∧∃(x y:Nat) (v u:Option V),σ=[some (.int (x:Int)),some (.int (y:Int)),v,u]∧m=y∧y≤b.natAbs∧Nat.gcd x y=Int.gcd a b,⟨b.natAbs,rfl,a.natAbs,b.natAbs,none,none,?_,rfl,aI _,rfl⟩,?_⟩
 ·show [some (V.int (if a<0 then -a else a)),some (V.int (if b<0 then -b else b)),none,none]=_
  rw [yk,yk]
 ·rintro m σ H' ⟨rfl,x,y,v,u,rfl,em,hb,hg⟩
  refine ⟨_,rfl,_,_,rfl,rfl,_,rfl,cG (fun hy=>?_) (fun hy=>?_)⟩
  ·have hy:(0:Int)<y:=hJ hy
   refine ⟨fun σ' H2=>H2=H'∧σ'=[some (.int (y:Int)),some (.int (((x % y:Nat)):Int)),some (.int (((x % y:Nat)):Int)),u],?_,?_⟩
   ·rintro σ' H2 ⟨rfl,rfl⟩
    exact ⟨x % y,by rw [em];exact Nat.mod_lt _ (by lia),rfl,y,x % y,_,_,rfl,rfl,aN (Nat.le_of_lt (Nat.mod_lt _ (by lia))) hb,by rw [GW];exact hg⟩
   ·have hm:bE (y:Int):=eK (by rw [uN];exact hb) mb
    have qD:=Pn hm;refine ⟨_,rfl,_,rfl,_,_,rfl,rfl,hy,_,rfl,_,rfl,_,rfl,rfl,_,rfl,rfl,_,_,rfl,rfl,_,rfl,cG (fun hz=>?_) (fun _=>⟨rfl,rfl⟩)⟩;have hz:=hJ hz;exact absurd hz (by lia)
  ·have hy:¬(0:Int)<y:=fun z=>hy (cN z)
   have y0:y=0:=by lia
   subst y0;rw [Nat.gcd_zero_right] at hg;rw [←hg] at k;exact ⟨_,rfl,k⟩
theorem SQ:bB ["number","divisor"] ["number"] (aR y6):=bU
theorem SR(T:Txt K mg t):aT P w K mg base bV 1 t.pO t.sE ["number"] Px:=by
 have S:=SQ;refine T.tY.cA S (fun _ _ _ _ H _ Q _ hr h=>?_);obtain ⟨n,rfl,SS,rF,k⟩:=h
 refine ⟨_,(ao (putL 1 S.nd aj)
  (ao (xH gQ (bJ xM (av iN (pv 1) (pv 1)) (pv 0)) (ao (bL (bJ dN (av cp (pv 0) (pv 1)) aj) (az (aV gR)) bS)
  (az (MN (i:=1) S.nd rfl (Or.inl rfl) aj MQ))))
  (az (aV (jR M_ (pv 0) aj))))),?_⟩
 refine ⟨fun m σ H'=>H'=H∧∃d:Int,σ=[some (.int n),some (.int d)]∧2≤d∧d≤32∧m=(33-d).toNat∧∀e:Int,2≤e→e<d→n % e≠0,⟨_,rfl,2,rfl,by lia,by lia,rfl,fun e a b=>by lia⟩,?_⟩
 rintro m σ H' ⟨rfl,d,rfl,h1,h2,rfl,h3⟩;refine ⟨_,rfl,_,rfl,_,_,rfl,rfl,.inl ⟨by lia,by lia⟩,_,rfl,_,_,rfl,rfl,_,rfl,cG (fun hq=>?_) (fun hq=>?_)⟩
 ·have hq:=hJ hq
  have hd:d<32:=by
   by_cases z:d<32;·exact z
   ·have:d=32:=by lia
    subst this;lia
  refine ⟨fun σ' H2=>H2=H'∧σ'=[some (.int n),some (.int (d+1))]∧n % d≠0,?_,?_⟩
  ·rintro σ' H2 ⟨rfl,rfl,hm⟩
   refine ⟨(33-(d+1)).toNat,by lia,rfl,d+1,rfl,by lia,by lia,rfl,fun e a b=>?_⟩
   by_cases z:e=d;·subst z;exact hm
   ·exact h3 e a (by lia)
  ·refine ⟨_,rfl,_,rfl,_,_,rfl,rfl,(show (0:Int)<d by lia),rfl,_,rfl,cG (fun hm=>?_) (fun hm=>?_)⟩
   ·have hm:=V.int.inj (hJ hm)
    rw [GQ rF h1 hq hm] at k;exact k
   ·exact ⟨_,rfl,_,_,rfl,rfl,rfl,rfl,fun z=>hm (cN (dR V.int z))⟩
 ·have hq:¬d*d≤n:=fun z=>hq (cN z)
  refine ⟨_,rfl,_,_,rfl,rfl,?_⟩;rw [Ph (n:=n) (d:=d) (by lia) h1 h3] at k
  have e:decide ((2:Int)≤n)=true:=cN SS;show Q (.bl (decide ((2:Int)≤n))) H';rw [e];exact k
theorem SU:bB ["told"] ["told"] (aR zd):=bU
theorem SV(T:Txt K mg t):aT P w K mg base bV 1 t.pW t.sO ["told"] Py:=by
 have S:=SU;refine T.t9.cA S (fun _ _ _ _ H _ _ _ hr h=>?_);obtain ⟨p,d,rfl,hp,k⟩:=h;refine ⟨_,(az (aV (fS (bc (fJ (K:=K)) rfl T.fz boot_isinstance (aa (pv 0) (aa (jM (v:=.ty "tuple") rfl T.qC boot_tuple rfl) ag))) (fS (jR dN (bc df rfl T.cS cV (aa (pv 0) ag)) aj) (kO (jR dN (aG bC (pv 0) aj) fZ)))))),?_⟩;refine ⟨_,rfl,_,_,_,true,rfl,rfl,.of (.tup hp),yi,true,rfl,dh ?_⟩;cases d with
 | a x=>refine ⟨_,rfl,p,_,rfl,.inr (.of hp),rfl,true,rfl,dh ?_⟩;refine ⟨_,rfl,p,_,0,.str x,rfl,rfl,.of hp,rfl,rfl,?_⟩;rw [BR];exact k
 | b x n=>exact ⟨_,rfl,p,_,rfl,.inr (.of hp),rfl,false,rfl,bW k⟩
theorem SW:bB ["told"] ["told"] (aR ze):=bU
theorem SX(T:Txt K mg t):aT P w K mg base bV 2 t.pX t.sP ["told"] Pz:=by
 have S:=SW;obtain ⟨uG,hG,rG⟩:=T.Kp;refine T.t_.cA S (fun _ _ _ _ H _ _ _ hr h=>?_);obtain ⟨p,d,rfl,hp,k⟩:=h
 refine ⟨_,(ao (bL (PW.pt (pw_or (iK (gC (bc (fJ (K:=K)) rfl T.fz boot_isinstance (aa (pv 0) (aa (jM (v:=.ty "tuple") rfl T.qC boot_tuple rfl) ag))))) (pw_or (bJ jQ (bc df rfl T.cS cV (aa (pv 0) ag)) aj) (pw_or1 (bJ jQ (aG bC (pv 0) aj) fZ))))) (az (aV gR)) bS)
  (az (aV (fS (aQ (SN T) hr T.Js T.tX.kp T.Jr aX (aa (aG bC (pv 0) aj) ag)) (fS (FP xM xM aj (aG bC (pv 0) aj) (kN (v:=.int 997) rfl hG rG)) (kO (aQ (SR T) hr T.Ju T.tY.kp T.Jt aX (aa (aG bC (pv 0) aj) ag)))))))),?_⟩
 refine ⟨_,rfl,_,_,_,true,rfl,rfl,.of (.tup hp),yi,true,rfl,bW ?_⟩;cases d with
 | a x=>exact ⟨_,rfl,p,_,rfl,.inr (.of hp),rfl,true,rfl,dh (dh k)⟩
 | b x n=>
  refine ⟨_,rfl,p,_,rfl,.inr (.of hp),rfl,false,rfl,bW ?_⟩;refine ⟨_,rfl,p,_,0,.str x,rfl,rfl,.of hp,rfl,rfl,_,rfl,cG (fun hw=>?_) (fun hw=>?_)⟩
  ·have hw:¬x="wheel":=by rw [BR] at hw;simpa using hw
   have e:(Td.b x n).jl=false:=by simp [Td.jl,hw]
   rw [e] at k;exact k
  ·have hw:x="wheel":=by rw [BR] at hw;simpa using hw
   refine ⟨_,rfl,p,_,1,.int n,rfl,rfl,.of hp,rfl,.int n,rfl,.int n,true,rfl,dh ?_⟩;refine ⟨_,rfl,p,_,1,.int n,rfl,rfl,.of hp,rfl,_,_,rfl,rfl,_,rfl,?_⟩;refine cG (fun h2=>?_) (fun h2=>?_)
   ·have h2:=hJ h2
    refine ⟨_,_,rfl,rfl,_,rfl,cG (fun h3=>?_) (fun h3=>?_)⟩
    ·have h3:=hJ h3
     refine ⟨_,rfl,p,_,1,.int n,rfl,rfl,.of hp,rfl,n,rfl,h2,h3,?_⟩;have e:(Td.b x n).jl=iT n:=by simp [Td.jl,hw,h2,h3]
     rw [e] at k;exact k
    ·have h3:¬n≤997:=fun z=>h3 (cN z)
     have e:(Td.b x n).jl=false:=by simp [Td.jl,h3]
     rw [e] at k;exact k
   ·have h2:¬2≤n:=fun z=>h2 (cN z)
    have e:(Td.b x n).jl=false:=by simp [Td.jl,h2]
    rw [e] at k;exact ⟨false,rfl,bW k⟩
theorem SY:bB ["self","told"] ["self","told"] (aR zL):=bU
theorem S0(T:Txt K mg t):aT P w K mg base (dE P w) 3 t.qu t.tP ["self","told"] (PB t.bN t.mC):=by
 have S:=SY;refine T.wg.dF S (fun _ _ _ _ H _ _ _ hr h L=>?_);obtain ⟨x,dx,p,d,rfl,hx,hp,k1,k2⟩:=h;refine ⟨_,(az (bL (gC (aQ (SV T) hr T.JJ T.t9.kp T.JI aX (aa (pv 1) ag))) (az (FY (pv 0) oY rfl)) (az (bL (gC (aQ (SX T) hr T.JL T.t_.kp T.JK aX (aa (pv 1) ag))) (az (FY (pv 0) (aG bC (pv 1) aj) rfl)) (az (vc L rfl rg T.Kr rfl T.Dc (aa fZ ag))))))),?_⟩;refine ⟨_,rfl,p,d,rfl,hp,_,rfl,cG (fun hF=>?_) (fun hF=>?_)⟩
 ·refine ⟨_,rfl,x,t.bN,dx,[],rfl,hx,T.fb,T.jA,(by show 0<1000;decide),?_⟩
  have e:d.prime=.aO:=by
   cases d with
   | a x=>rfl
   | b x n=>cases hF
  have k:=k1 (by unfold Td.good;rw [hF];rfl)
  rw [e] at k;exact k
 ·have hF:d.yf=false:=by simpa using hF
  refine ⟨_,rfl,p,d,rfl,hp,_,rfl,cG (fun hW=>?_) (fun hW=>?_)⟩
  ·have k:=k1 (by unfold Td.good;rw [hW,Bool.or_true])
   cases d with
   | a x=>cases hW
   | b y n=>exact ⟨_,rfl,p,_,1,.int n,rfl,rfl,.of hp,rfl,_,rfl,x,t.bN,dx,[],rfl,hx,T.fb,T.jA,(by show 0<1000;decide),k⟩
  ·have hW:d.jl=false:=by simpa using hW
   exact ⟨by show 1≤sizeLine;decide,k2 (by unfold Td.good;rw [hF,hW];rfl)⟩
theorem S1:bB ["top","bottom","shared"] ["top","bottom"] (aR y7):=bU
theorem S2(T:Txt K mg t):aT P w K mg base (dE P w) 2 t.pP t.sF ["top","bottom"] (P4 t.jz):=by
 have S:=S1;refine T.tZ.dF S (fun _ _ _ _ H _ _ _ hr h L=>?_);obtain ⟨a,b,rfl,mb,kE,k⟩:=h
 refine ⟨_,(ao (bL (bJ dN (pv 1) aj) (az (vc L rfl rg T.Dh rfl T.Af (aa fZ ag))) bS)
  (eZ.m_ (ao (putL 2 S.nd (aQ (Ai T) hr T.wb T.mE.kp T.wa aX (aa (pv 0) (aa (pv 1) ag))))
  (ao (bL (bJ rC (pv 1) aj) (az (putL 2 S.nd (FE FH (pv 2)))) bS)
  (az (aV (gF (aa (av BO (pv 0) (pv 2)) (aa (av BO (pv 1) (pv 2)) ag))))))))),?_⟩
 have n2:2≤sizeLine:=by decide
 refine ⟨_,rfl,rfl,_,rfl,cG (fun hz=>?_) (fun hz=>?_)⟩
 ·have hz:b=0:=V.int.inj (hJ hz)
  exact ⟨by show 1≤sizeLine;decide,kE hz⟩
 have hz:b≠0:=fun z=>hz (cN (by rw [z]))
 have ok:=Pu (a:=a) hz mb;have kk:=k hz;unfold kX kY at kk;refine ⟨_,rfl,_,rfl,a,b,rfl,mb,_,rfl,_,_,rfl,rfl,_,rfl,cG (fun hn=>?_) (fun hn=>?_)⟩
 ·have hn:b<0:=hJ hn
  have e:lowG a b=-(Int.gcd a b:Int):=by unfold lowG;rw [aq hn,Int.zero_sub]
  rw [e] at ok kk;refine ⟨_,rfl,_,rfl,_,rfl,_,rfl,_,_,rfl,rfl,ok,_,rfl,_,rfl,_,_,rfl,rfl,ok,n2,fun r hr=>kk r _ (aK hr) aB⟩
 ·have hn:¬b<0:=fun z=>hn (cN z)
  have e:lowG a b=(Int.gcd a b:Int):=by unfold lowG;rw [ar hn]
  rw [e] at ok kk;refine ⟨_,rfl,_,rfl,_,_,rfl,rfl,ok,_,rfl,_,rfl,_,_,rfl,rfl,ok,n2,fun r hr=>kk r _ (aK hr) aB⟩
theorem S3:bB ["a","b","shared","top","again"] ["a","b"] (aR y8):=bU
theorem S4(T:Txt K mg t):aT P w K mg base bV 2 t.pQ t.sG ["a","b"] PQ:=by
 have S:=S3;refine T.t4.cA S (fun _ _ _ _ H _ _ _ hr h=>?_);obtain ⟨p,q,x,m,y,n,rfl,hp,hq,la,lb,bx,bm,Aj,bn,k⟩:=h
 refine ⟨_,(ao (putL 2 S.nd (aQ (Ai T) hr T.wb T.mE.kp T.wa aX (aa (aG bC (pv 0) aj) (aa (aG bC (pv 1) aj) ag))))
  (ao (bL (bJ dN (pv 2) aj) (az (aV (gF (aa (av ik (av jo (aG bC (pv 0) aj) (aG bC (pv 1) aj)) (av jo (aG bC (pv 1) aj) (aG bC (pv 0) aj))) (aa (av jo (aG bC (pv 0) aj) (aG bC (pv 1) aj)) ag))))) bS)
  (ao (putL 3 S.nd (av ik (av jo (aG bC (pv 0) aj) (av fU (aG bC (pv 1) aj) (pv 2))) (av jo (aG bC (pv 1) aj) (av fU (aG bC (pv 0) aj) (pv 2)))))
  (ao (putL 4 S.nd (aQ (Ai T) hr T.wb T.mE.kp T.wa aX (aa (pv 3) (aa (pv 2) ag))))
  (az (aV (gF (aa (av fU (pv 3) (pv 4)) (aa (av jo (av fU (aG bC (pv 0) aj) (pv 2)) (av fU (aG bC (pv 1) aj) (pv 4))) ag))))))))),?_⟩
 have n2:2≤sizeLine:=by decide
 have m0:=la.pos;have n0:=lb.pos;refine ⟨_,rfl,p,_,_,_,rfl,rfl,.of hp,rfl,_,rfl,q,_,_,_,rfl,rfl,.of hq,rfl,m,n,rfl,bn.mid,?_⟩;have gp:(0:Int)<(Int.gcd m n:Int):=G0 (by lia)
 have gb:cj (Int.gcd m n:Int):=bn.gcd (by lia)
 refine ⟨_,rfl,rfl,_,rfl,cG (fun e=>?_) (fun _=>?_)⟩
 ·have e:Int.gcd m n=1:=by have z:=hJ e;have z:=V.int.inj z;lia
  exact ⟨_,rfl,p,_,_,_,rfl,rfl,.of hp,rfl,_,rfl,q,_,_,_,rfl,rfl,.of hq,rfl,_,_,rfl,rfl,⟨bx.mid,bn.mid⟩,
   _,rfl,q,_,_,_,rfl,rfl,.of hq,rfl,_,rfl,p,_,_,_,rfl,rfl,.of hp,rfl,_,_,rfl,rfl,⟨Aj.mid,bm.mid⟩,_,_,rfl,rfl,
   _,rfl,p,_,_,_,rfl,rfl,.of hp,rfl,_,rfl,q,_,_,_,rfl,rfl,.of hq,rfl,_,_,rfl,rfl,⟨bm.mid,bn.mid⟩,n2,fun r hr=>k r _ _ _ (aK hr) aB (PK la lb e) rfl⟩
 refine ⟨_,rfl,p,_,_,_,rfl,rfl,.of hp,rfl,_,rfl,q,_,_,_,rfl,rfl,.of hq,rfl,_,rfl,_,_,rfl,rfl,⟨gp,gb.mid⟩,_,_,rfl,rfl,⟨bx.mid,bn.over.mid⟩,
  _,rfl,q,_,_,_,rfl,rfl,.of hq,rfl,_,rfl,p,_,_,_,rfl,rfl,.of hp,rfl,_,rfl,_,_,rfl,rfl,⟨gp,gb.mid⟩,_,_,rfl,rfl,⟨Aj.mid,bm.over.mid⟩,_,_,rfl,rfl,?_⟩
 refine ⟨_,rfl,_,rfl,_,_,rfl,gb.mid,?_⟩;have ap:(0:Int)<(Int.gcd (x*(n / (Int.gcd m n:Int))+y*(m / (Int.gcd m n:Int))) (Int.gcd m n:Int):Int):=G0 (by lia)
 have ab:cj (Int.gcd (x*(n / (Int.gcd m n:Int))+y*(m / (Int.gcd m n:Int))) (Int.gcd m n:Int):Int):=gb.gcd (by lia)
 have z:=PL la lb _ _ rfl _ rfl rfl
 exact ⟨_,rfl,_,rfl,_,_,rfl,rfl,⟨ap,ab.mid⟩,_,rfl,p,_,_,_,rfl,rfl,.of hp,rfl,_,rfl,_,_,rfl,rfl,⟨gp,gb.mid⟩,_,rfl,q,_,_,_,rfl,rfl,.of hq,rfl,_,rfl,_,_,rfl,rfl,⟨ap,ab.mid⟩,_,_,rfl,rfl,⟨bm.over.mid,bn.over.mid⟩,n2,
  fun r hr=>k r _ _ _ (aK hr) aB z.1 z.2⟩
theorem S5:bB ["a","b"] ["a","b"] (aR y_):=bU
theorem S6(T:Txt K mg t):aT P w K mg base bV 3 t.pR t.sI ["a","b"] PR:=by
 have S:=S5;refine T.t5.cA S (fun _ _ _ _ H _ _ _ hr h=>?_);obtain ⟨p,q,x,m,y,n,rfl,hp,hq,la,lb,bx,bm,Aj,bn,k⟩:=h;refine ⟨_,(az (aV (aQ (S4 T) hr T.Jy T.t4.kp T.Jx aX (aa (pv 0) (aa (gF (aa (FE FH (aG bC (pv 1) aj)) (aa (aG bC (pv 1) aj) ag))) ag))))),?_⟩
 exact ⟨_,rfl,_,rfl,q,_,_,_,rfl,rfl,.of hq,rfl,_,rfl,_,rfl,q,_,_,_,rfl,rfl,.of hq,rfl,by show 2≤sizeLine;decide,fun r hr=>⟨p,r,x,m,-y,n,rfl,aK hr _ _ hp,aB,la,lb.neg,bx,bm,Aj.neg,bn,
  fun r' H' u d s' e l z=>k r' H' u d ((aK hr).trans s') e l (by rw [z,Int.neg_mul,Int.sub_eq_add_neg])⟩⟩
theorem S7:bB ["prime","number","last","last_times","now","now_times","fits","left","left_times"] ["prime","number"] (aR zb):=bU
theorem S8(T:Txt K mg t):aT P w K mg base (dE P w) 1 t.pU t.sM ["prime","number"] (PU t.jz):=by
 have S:=S7;refine T.t7.dF S (fun _ _ _ _ H _ _ _ hr h L=>?_);obtain ⟨q,b,rfl,q1,q2,q3,b0,b1,kE,k⟩:=h
 refine ⟨_,(ao (bL (bJ dN (pv 1) aj) (az (vc L rfl rg T.Dh rfl T.Af (aa fZ ag))) bS)
  (eZ.m_ (ao (putL 2 S.nd (pv 0))
  (ao (putL 3 S.nd aj)
  (ao (putL 4 S.nd (pv 1))
  (ao (putL 5 S.nd aj)
  (ao (xH gQ (bJ xN (pv 4) aj) (ao (putL 6 S.nd (av FG (pv 2) (pv 4)))
  (ao (putL 7 S.nd (av o5 (pv 2) (av iN (pv 6) (pv 4))))
  (ao (putL 8 S.nd (av o5 (pv 3) (av iN (pv 6) (pv 5))))
  (ao (putL 2 S.nd (pv 4))
  (ao (putL 3 S.nd (pv 5))
  (ao (putL 4 S.nd (pv 7))
  (az (putL 5 S.nd (pv 8))))))))))
  (az (aV (av cp (pv 5) (pv 0))))))))))),?_⟩
 refine ⟨_,rfl,rfl,_,rfl,cG (fun hz=>?_) (fun hz=>?_)⟩
 ·have hz:b=0:=V.int.inj (hJ hz)
  exact ⟨by show 1≤sizeLine;decide,kE hz⟩
 have hz:b≠0:=fun z=>hz (cN (by rw [z]))
 refine ⟨_,rfl,_,rfl,fun m σ H'=>H'=H∧∃(l lt n nt:Int) (v1 v2 v3:Option V),σ=[some (.int q),some (.int b),some (.int l),some (.int lt),some (.int n),some (.int nt),v1,v2,v3]∧m=n.toNat∧mf q b l lt n nt∧l≤997,
  ⟨b.toNat,rfl,q,0,b,1,none,none,none,rfl,rfl,mf.start q1 q2 q3 (by lia) b1,q2⟩,?_⟩
 rintro m σ H' ⟨rfl,l,lt,n,nt,v1,v2,v3,rfl,em,hb,hl⟩;have p1:=hb.pos;have p2:=hb.less;refine ⟨_,rfl,_,_,rfl,rfl,_,rfl,cG (fun hy=>?_) (fun hy=>?_)⟩
 ·have hy:1<n:=hJ hy
  have hs:=hb.step hy;have f0:0≤l / n:=Int.ediv_nonneg (by lia) (by lia)
  have f1:l / n≤l:=Int.ediv_le_self _ (by lia)
  refine ⟨fun σ' H2=>H2=H'∧σ'=[some (.int q),some (.int b),some (.int n),some (.int nt),some (.int (l-l / n*n)),some (.int (lt-l / n*nt)),some (.int (l / n)),some (.int (l-l / n*n)),some (.int (lt-l / n*nt))],?_,?_⟩
  ·rintro σ' H2 ⟨rfl,rfl⟩
   exact ⟨(l-l / n*n).toNat,by rw [em];lia,rfl,_,_,_,_,_,_,_,rfl,rfl,hs.1,by lia⟩
  ·exact ⟨_,rfl,_,rfl,_,_,rfl,rfl,⟨by lia,by lia⟩,_,rfl,_,rfl,_,rfl,_,_,rfl,rfl,.inr ⟨by lia,by lia⟩,_,_,rfl,rfl,
    _,rfl,_,rfl,_,rfl,_,_,rfl,rfl,.inl ⟨by lia,by lia⟩,_,_,rfl,rfl,_,rfl,_,rfl,_,rfl,_,rfl,rfl,rfl⟩
 ·have hy:¬1<n:=fun z=>hy (cN z)
  have n1:n=1:=by lia
  subst n1;exact ⟨_,rfl,_,rfl,_,_,rfl,rfl,(show (0:Int)<q by lia),k hz _ (gy _ (by lia)) (gN _ (by lia)) (hb.done q1)⟩
theorem S9:bB ["prime","a","b"] ["prime","a","b"] (aR zc):=bU
theorem S_(T:Txt K mg t):aT P w K mg base (dE P w) 2 t.pV t.sN ["prime","a","b"] (PV t.jz):=by
 have S:=S9;refine T.t8.dF S (fun _ _ _ _ H _ _ _ hr h L=>?_);obtain ⟨q,i,j,rfl,q1,q2,q3,i0,i1,j0,j1,kE,k⟩:=h;refine ⟨_,(az (aV (av cp (av iN (pv 1) (aQ (S8 T) hr T.JF T.t7.kp T.JE (pe L) (aa (pv 0) (aa (pv 2) ag)))) (pv 0)))),?_⟩
 exact ⟨_,rfl,_,rfl,_,rfl,q,j,rfl,q1,q2,q3,j0,j1,kE,fun hj r r0 r1 cm=>⟨_,_,rfl,rfl,.inl ⟨by lia,by lia⟩,_,rfl,_,_,rfl,rfl,(show (0:Int)<q by lia),
  k hj _ (gy _ (by lia)) (gN _ (by lia)) (PX q1 i0 i1 cm)⟩⟩
theorem Ta:bB ["self","top","bottom"] ["self","top","bottom"] (aR jy):=bU
theorem Ak(T:Txt K mg t):aT P w K mg base (dE P w) 3 t.mB t.v_ ["self","top","bottom"] (P5 t.bN t.jz):=by
 have S:=Ta;refine T.Ka.BK S (fun vs H Q E h=>?_) (fun aU A outer s H vs Q E hr h L=>?_)
 ·obtain ⟨z,q,a,b,rfl,_⟩:=h
  rfl
 ·obtain ⟨z,q,a,b,rfl,⟨dx,hx⟩,hq,mb,kE,k⟩:=h
  refine ⟨_,(ao (bL (bJ xO (lZ (pv 0) rfl) oY) (az (aV (aQ (S2 T) hr T.Jw T.tZ.kp T.Jv (pe L) (aa (pv 1) (aa (pv 2) ag))))) bS)
   (az (aV (aQ (S_ T) hr T.JH T.t8.kp T.JG (pe L) (aa (lZ (pv 0) rfl) (aa (av cp (pv 1) (lZ (pv 0) rfl)) (aa (av cp (pv 2) (lZ (pv 0) rfl)) ag))))))),?_⟩
  refine ⟨_,rfl,z,t.bN,dx,_,_,rfl,hx,T.fb,T.jA,l9 _,rfl,_,rfl,?_⟩;rcases hq with rfl | ⟨q2,q3,q4⟩
  ·rw [aq rfl]
   refine dh ⟨_,rfl,_,rfl,a,b,rfl,mb,fun hb=>kE (by unfold kZ;rw [aq rfl];exact hb),fun hb r H' s' er=>k (fun hn=>hb (by unfold kZ at hn;rw [aq rfl] at hn;exact hn)) _ H' s' (.inl ⟨rfl,r,rfl,er⟩)⟩
  ·have hq:q≠0:=by lia
   rw [ar hq] at hx ⊢;have p0:(0:Int)<q:=by lia
   refine bW ⟨_,rfl,z,t.bN,dx,_,_,rfl,hx,T.fb,T.jA,l9 _,_,rfl,_,rfl,z,t.bN,dx,_,_,rfl,hx,T.fb,T.jA,l9 _,_,_,rfl,rfl,p0,_,rfl,_,rfl,z,t.bN,dx,_,_,rfl,hx,T.fb,T.jA,l9 _,_,_,rfl,rfl,p0,?_⟩;have nv:kZ q b↔b % q=0:=by unfold kZ;rw [ar hq]
   exact ⟨q,a % q,b % q,rfl,q2,q3,q4,gy _ hq,gN _ p0,gy _ hq,gN _ p0,fun hj=>kE (nv.mpr hj),fun hj r r0 r1 cm=>k (fun z=>hj (nv.mp z)) _ H (af.refl H) (.inr ⟨q2,r,rfl,r0,r1,cm⟩)⟩
theorem Tb:bB ["self","a","b"] ["self","a","b"] (aR zM):=bU
theorem Tc(T:Txt K mg t):aT P w K mg base bV 4 t.qv t.tQ ["self","a","b"] (BY t.bN (fun x m y n=>x*n-y*m) (fun i j=>i-j)):=by
 have S:=Tb;refine T.wj.cA S (fun _ _ _ _ H _ _ _ hr h=>?_);obtain ⟨z,q,v,u,rfl,⟨dx,hx⟩,hc⟩:=h
 refine ⟨_,(ao (bL (bJ xO (lZ (pv 0) rfl) oY) (az (aV (aQ (S6 T) hr T.JA T.t5.kp T.Jz aX (aa (pv 1) (aa (pv 2) ag))))) bS)
  (az (aV (av cp (av o5 (pv 1) (pv 2)) (lZ (pv 0) rfl))))),?_⟩
 refine ⟨_,rfl,z,t.bN,dx,_,_,rfl,hx,T.fb,T.jA,l9 _,rfl,_,rfl,?_⟩;rcases hc with ⟨rfl,p,r,x,m,y,n,rfl,rfl,h1⟩ | ⟨q2,i,j,rfl,rfl,i0,i1,k⟩
 ·rw [aq rfl]
  exact dh ⟨_,rfl,_,rfl,p,r,x,m,y,n,rfl,h1⟩
 ·have hq:q≠0:=by lia
  rw [ar hq] at hx ⊢;exact bW ⟨_,rfl,_,rfl,_,_,rfl,rfl,_,rfl,z,t.bN,dx,_,_,rfl,hx,T.fb,T.jA,l9 _,_,_,rfl,rfl,(show (0:Int)<q by lia),k⟩
theorem Te:bB ["rows","start","lead","place"] ["rows","start","lead"] (aR zl):=bU
theorem Tf(T:Txt K mg t):aT P w K mg base bV 1 t.p6 t.sW ["rows","start","lead"] QT:=by
 have S:=Te;refine T.ud.cA S (fun _ _ _ s H vs _ _ hr h=>?_);obtain ⟨a,n,W,r,c,M,rfl,hA,rn,ZW,cW,k1,k2⟩:=h
 refine ⟨_,(ao (jO gQ rfl (MW rfl T.gs (aa (pv 1) (aa (bc df rfl T.cS cV (aa (pv 0) ag)) ag))) (e7 (i:=3) S.nd rfl (Or.inl rfl))
   (az (bL (bJ jQ (aG dc (aG dc (pv 0) (pv 3)) (pv 2)) aj) (az (aV (pv 3))) bS)))
  (az (aV oY))),?_⟩
 obtain ⟨vs,ea,lv,fv⟩:=id hA;refine ⟨_,rfl,_,rfl,a,vs,rfl,.inl (.of ea),(r:Int),(vs.length:Int),rfl,⟨by lia,by lia,by lia,by lia⟩,?_⟩
 rw [show ((vs.length:Int)-(r:Int)).toNat=n-r by lia]
 refine u3 (fun i σ Hc=>Hc=H∧(∃v3:Option V,σ=[some (.ref a),some (.int (r:Int)),some (.int (c:Int)),v3])∧∀s,r≤s→s<r+i→M s c=0) ⟨rfl,⟨_,rfl⟩,fun s h1 h2=>by lia⟩ ?_ ?_
 ·rintro i σ Hc hi ⟨rfl,⟨v3,rfl⟩,hz⟩
  have hp:r+i<vs.length:=by lia
  obtain ⟨x,ex,Tg⟩:=fv (r+i) vs[r+i] (by simp [hp])
  refine ⟨_,rfl,_,rfl,a,vs,_,.ref x,rfl,rfl,.of ea,?_,_,rfl,x,_,_,_,rfl,rfl,.of Tg,vM cW (M (r+i)),rfl,_,rfl,cG (fun h=>?_) (fun h=>?_)⟩
  ·rw [show (r:Int)+(i:Int)=((r+i:Nat):Int) by lia]
   exact e8 (by rw [←ex];simp [hp])
  ·have e:M (r+i) c≠0:=by simpa using h
   have z:=k1 (r+i) (by lia) (by lia) e
   refine ⟨_,rfl,?_⟩;rw [show (r:Int)+(i:Int)=((r+i:Nat):Int) by lia]
   exact z
  ·have e:M (r+i) c=0:=by simpa using h
   refine ⟨rfl,⟨_,rfl⟩,fun s h1 h2=>?_⟩;by_cases z:s=r+i;·rw [z];exact e
   ·exact hz s h1 (by lia)
 ·rintro σ Hc ⟨rfl,⟨v3,rfl⟩,hz⟩
  exact k2 fun s h1 h2=>hz s h1 (by lia)
theorem Th:bB ["rows","one","other","told"] ["rows","one","other"] (aR zm):=bU
theorem Ti(T:Txt K mg t):aT P w K mg base bV 1 t.p8 t.sX ["rows","one","other"] QU:=by
 have S:=Th;refine T.ue.cA S (fun _ _ _ _ H vs _ _ hr h=>?_);obtain ⟨a,l,n,W,r,s',M,rfl,hA,⟨ol,hl⟩,rn,sn,k⟩:=h
 refine ⟨_,(ao (putL 3 S.nd (o_ xV rfl T.ot boot_list (aa (pv 0) ag)))
  (ao (@nj _ _ _ _ _ _ (aG dc (pv 0) (pv 2)) (nh (pv 3) (pv 1) set_list) (by rfl) (by rfl) (by rfl))
  (ao (@nj _ _ _ _ _ _ (aG dc (pv 0) (pv 1)) (nh (pv 3) (pv 2) set_list) (by rfl) (by rfl) (by rfl))
  (az (aV (pv 3)))))),?_⟩
 obtain ⟨vs,ea,lv,al,fv⟩:=id hA;have cm:r<vs.length:=by lia
 have cH:s'<vs.length:=by lia
 refine ⟨_,rfl,a,vs,rfl,.inl (.of ea),fun b nb=>?_⟩;have s1:af H (upd H b (.lst vs)):=aK nb;have eb:upd H b (.lst vs) b=some (.lst vs):=aB;have ab:a≠b:=fun e=>by rw [←e,ea] at nb;cases nb
 dsimp only [aS];generalize upd H b (.lst vs)=H1 at s1 eb ⊢;refine ⟨_,rfl,_,rfl,a,vs,_,vs[s'],rfl,rfl,.of (s1 _ _ ea),e8 (by simp [cH]),_,rfl,_,rfl,b,vs,_,r,rfl,rfl,eb,(by unfold gU;rw [aq (by lia),aq (by lia),cU]),?_⟩
 have s2:af H (upd H1 b (.lst (vs.set r vs[s']))):=d_ s1 nb;have KO:upd H1 b (.lst (vs.set r vs[s'])) b=some (.lst (vs.set r vs[s'])):=aB;dsimp only;generalize upd H1 b (.lst (vs.set r vs[s']))=H2 at s2 KO ⊢;refine ⟨_,rfl,_,rfl,a,vs,_,vs[r],rfl,rfl,.of (s2 _ _ ea),e8 (by simp [cm]),_,rfl,_,rfl,b,vs.set r vs[s'],_,s',rfl,rfl,KO,(by unfold gU;rw [jD,aq (by lia),aq (by lia),cU]),?_⟩
 have s3:af H (upd H2 b (.lst ((vs.set r vs[s']).set s' vs[r]))):=d_ s2 nb;refine ⟨_,rfl,k b _ s3 nb ⟨_,aB,by simp [lv],(fun e=>by rw [e,hl] at nb;cases nb),fun i v hv=>?_⟩⟩
 have pick:∀j,(hj:j<vs.length)→∃x:Addr,vs[j]=.ref x∧x≠b∧x≠l∧upd H2 b (.lst ((vs.set r vs[s']).set s' vs[r])) x=some (.lst (((List.range W).map (M j)).map V.int)):=fun j hj=>by
  obtain ⟨x,e1,_,nl,e2⟩:=fv j vs[j] (by simp [hj])
  exact ⟨x,e1,(fun e=>by rw [e,nb] at e2;cases e2),nl,s3 _ _ e2⟩
 unfold dQ;by_cases z1:i=s'
 ·subst z1
  rw [ku (by rw [jD];lia)] at hv
  cases hv;rw [aq rfl];exact pick r cm
 ·rw [kz (by lia)] at hv
  rw [ar z1];by_cases z2:i=r
  ·subst z2
   rw [ku (by lia)] at hv
   cases hv;rw [aq rfl];exact pick s' cH
  ·rw [kz (by lia)] at hv
   rw [ar z2];obtain ⟨x,e1,_,nl,e2⟩:=fv i v hv;exact ⟨x,e1,(fun e=>by rw [e,nb] at e2;cases e2),nl,s3 _ _ e2⟩
theorem Tj:bB ["world","row","head","lead","last","much","less"] ["world","row","head","lead","last"] (aR zk):=bU
theorem Tn(T:Txt K mg t):aT P w K mg base bV 1 t.p5 t.sV ["world","row","head","lead","last"] (QV t.bN):=by
 have S:=Tj;refine T.uc.cA S (fun _ _ _ _ H _ _ _ hr h=>?_);obtain ⟨z,a,b,q,last,W,c,f,g,e,rfl,⟨dx,hx⟩,hq,ea,eb,cW,To,bd,ml,nl,h0,h1,k⟩:=h
 refine ⟨_,(ao (di 5 S.nd (aG dc (pv 2) (pv 3)))
  (ao (di 6 S.nd (aG dc (pv 1) (pv 3)))
  (ao (bL (bJ xO (lZ (pv 0) rfl) oY) (az (aV (rZ (N:=["a","b","much","less","last"]) (ρ:=(fun σ=>[σ[5]?.join,σ[6]?.join,σ[4]?.join])) (nW [5,6,4] rfl) rfl (nV rfl T.mO (aa (pv 1) (aa (pv 2) ag))) (fun _ _ _=>.nil) (fun _ _ _=>(av BO (av o5 (av jo (pv 2) (pv 0)) (av jo (pv 3) (pv 1))) (pv 4)))))) bS)
  (az (aV (rZ (N:=["a","b","much","less","world"]) (ρ:=(fun σ=>[σ[5]?.join,σ[6]?.join,σ[0]?.join])) (nW [5,6,0] rfl) rfl (nV rfl T.mO (aa (pv 1) (aa (pv 2) ag))) (fun _ _ _=>.nil) (fun _ _ _=>(av cp (av o5 (av jo (pv 2) (pv 0)) (av jo (pv 3) (pv 1))) (QC (K:=K) (pv 4) rfl))))))))),?_⟩
 refine ⟨_,rfl,_,rfl,b,_,_,_,rfl,rfl,.of eb,vM cW g,?_⟩;dsimp only [aS];simp only [L2.start,cx,mZ,gu,lH,List.replicate,m5,lF,dW,dY];refine ⟨_,rfl,_,rfl,a,_,_,_,rfl,rfl,.of ea,vM cW f,?_⟩;dsimp only [aS];simp only [dW,dY];have KP:∀x y,(x,y)∈((List.range W).map f).zip ((List.range W).map g)→bE x∧bE y:=fun x y h=>by have m:=w6 h;obtain ⟨k1,Tp,rfl⟩:=da.mp m.1;obtain ⟨k2,Tq,rfl⟩:=da.mp m.2;exact ⟨(bd k1 (gM.mp Tp)).1,(bd k2 (gM.mp Tq)).2⟩
 have KQ:=(bd c cW).2;have KR:=(bd c cW).1;refine ⟨_,rfl,z,t.bN,dx,_,_,rfl,hx,T.fb,T.jA,l9 _,rfl,_,rfl,?_⟩;rcases id hq with rfl | ⟨q2,q3,q4⟩
 ·rw [aq rfl]
  refine dh (kf (HU (xs:=(List.range W).map f) (ys:=(List.range W).map g) (fun x y=>(g c*x-f c*y).fdiv last) (by simp;lia) (fun R h=>⟨_,rfl,_,rfl,a,b,rfl,⟨_,.of ea⟩,⟨_,.of eb⟩,h _ _ (af.refl _) (pD (.of ea) (.of eb))⟩) ?_ ?_))
  ·intro x y g8 Hc R sc kc
   obtain ⟨mx,my⟩:=KP x y g8;exact ⟨_,rfl,_,rfl,_,_,rfl,rfl,⟨KQ,mx⟩,_,rfl,_,rfl,_,_,rfl,rfl,⟨KR,my⟩,_,_,rfl,rfl,_,rfl,_,_,rfl,rfl,⟨nl,ml⟩,kc Hc (af.refl _)⟩
  ·intro D Hc nD sc eD
   have ez:=HS W f g (fun x y=>(g c*x-f c*y).fdiv last);rw [ez] at eD;refine k D Hc sc nD ?_;rw [eD]
   congr 3
   refine q5 fun i hi=>?_;rw [h0 rfl i (gM.mp hi)];exact Int.mul_fdiv_cancel_left _ nl
 ·have KS:q≠0:=by lia
  rw [ar KS] at hx ⊢;refine bW ?_;dsimp only [f9];refine kf (HU (xs:=(List.range W).map f) (ys:=(List.range W).map g) (fun x y=>(g c*x-f c*y) % q) (by simp;lia) (fun R h=>⟨_,rfl,_,rfl,a,b,rfl,⟨_,.of ea⟩,⟨_,.of eb⟩,h _ _ (af.refl _) (pD (.of ea) (.of eb))⟩) ?_ ?_)
  ·intro x y g8 Hc R sc kc
   obtain ⟨mx,my⟩:=KP x y g8;exact ⟨_,rfl,_,rfl,_,_,rfl,rfl,⟨KQ,mx⟩,_,rfl,_,rfl,_,_,rfl,rfl,⟨KR,my⟩,_,_,rfl,rfl,_,rfl,z,t.bN,dx,_,_,rfl,sc _ _ hx,T.fb,T.jA,l9 _,_,_,rfl,rfl,(show (0:Int)<q by lia),kc Hc (af.refl _)⟩
  ·intro D Hc nD sc eD
   have ez:=HS W f g (fun x y=>(g c*x-f c*y) % q);rw [ez] at eD;refine k D Hc sc nD ?_;rw [eD]
   congr 3
   exact q5 fun i hi=>(h1 KS i (gM.mp hi)).symm
variable {H:Hp} {a b:Int}
theorem Tr{B:Nat}{q:Int}{v:V}(ho:rP H q v a b)(hq:bg q)(nb:¬q∣b)(ba:a.natAbs≤B)(bb:b.natAbs≤B):∃p:Int×Int,dj B H q v p.1 p.2∧bM q p (a,b):=by
 rcases ho with ⟨rfl,r,rfl,e⟩ | ⟨q2,r,rfl,r0,r1,er⟩
 ·have hb:b≠0:=fun z=>nb (z▸oR 0)
  obtain ⟨l,w,b1,b2⟩:=P1 (a:=a) hb;exact ⟨(kX a b,kY a b),.cY e l (aN b1 ba) (aN b2 bb),⟨0,by dsimp only;lia⟩⟩
 ·have q3:q≤997:=by rcases hq with h | h <;> lia
  refine ⟨(r,1),.rem r0 r1 q3,?_⟩;show q∣r*b-a*1;have h1:Cg q (r*(b % q)) a:=(pE q _).symm.trans (er▸pE q a);have h2:Cg q (r*b) (r*(b % q)):=((pE q b).mulL r).symm;have h3:=h2.trans h1;rw [iC];exact h3
theorem Ts:bB ["world","row","lead"] ["world","row","lead"] (aR zo):=bU
theorem Tu(T:Txt K mg t):aT P w K mg base bV 4 t.p9 t.sY ["world","row","lead"] (QW t.bN):=by
 have S:=Ts;have lj:=Ak (P:=P) (w:=w) (base:=base) T;refine T.uf.cA S (fun _ _ _ _ H _ _ _ hr h=>?_);obtain ⟨z,a,q,W,c,f,B,rfl,⟨dz,hd⟩,hq,ea,cW,To,nb,mb,bd,k⟩:=h;refine ⟨_,(az (aV (e9 (N:=["number","world","row","lead"]) (ρ:=(fun σ=>[σ[0]?.join,σ[1]?.join,σ[2]?.join])) (dO [0,1,2] rfl) rfl (eL (pv 1)) (fun _ _ _=>.nil) (fun _ _ _=>(l5 (pv 1) T.fb T.oq lj (hr.mono (by decide)) T.Kb .nil jj (aa (pv 0) (aa (aG (nX (K:=K)) (pv 2) (pv 3)) ag))))))),?_⟩
 refine kf (e_ (xs:=((List.range W).map f).map V.int) (fun R h=>⟨_,rfl,a,rfl,⟨_,.of ea⟩,h _ _ (af.refl _) (fL (.of ea))⟩) (by rw [aD,aD,fQ];exact b_ (by lia)) (fun _ i y Hx=>∃p:Int×Int,dj B Hx q y p.1 p.2∧bM q p (f i,f c)) (fun _ _ _ _ _ _ ⟨p,h0,h1⟩ e f=>⟨p,h0.cP e f,h1⟩) ?_ ?_)
 ·intro D i v hi Hc R sc _ kc
  have bH:i<W:=by have:=(aW.mp hi).1;simpa using this
  have ev:v=.int (f i):=by rw [bo,bo] at hi;simp [bH] at hi;exact hi.symm
  subst ev;exact ⟨_,rfl,z,dz,_,rfl,sc _ _ hd,ma (by decide +kernel),_,rfl,_,rfl,_,rfl,a,_,_,_,rfl,rfl,.of (sc _ _ ea),vM cW f,z,q,f i,f c,rfl,⟨dz,sc _ _ hd⟩,hq,mb,fun h=>absurd h (Qa nb),fun _ v' H' s' ho=>kc v' H' s' (Tr ho hq nb (bd i bH) (bd c cW))⟩
 ·intro D ys Hc nD sc mP hP eD
  obtain ⟨ps,lp,hp⟩:=pick (R:=fun i y p=>dj B Hc q y (Prod.fst p) (Prod.snd p)∧bM q p (f i,f c)) hP;rw [aD,aD,fQ] at mP;refine k D ps Hc sc nD ⟨ys,eD,lp.symm,fun i v p h1 h2=>(hp i v p h1 h2).1⟩ (by lia) fun i hi=>?_
  have i1:i<ys.length:=by lia
  have i2:i<ps.length:=by lia
  rw [getD_at i2];exact (hp i ys[i] ps[i] (by simp [i1]) (by simp [i2])).2
theorem Tv:bB ["row","bottom","number"] ["row"] (aR za):=bU
theorem Tw(T:Txt K mg t):aT P w K mg base bV 2 t.pS t.sJ ["row"] Rn:=by
 have S:=Tv;refine T.t6.cA S (fun _ _ _ _ H vs _ _ hr h=>?_);obtain ⟨a,ps,B,D,rfl,⟨vs,ea,hl,hn⟩,KU,mq,hD,hB,bD,k⟩:=h
 refine ⟨_,(ao (di 1 S.nd aj)
  (ao (jO gQ rfl (eL (pv 0)) (e7 (i:=2) S.nd rfl (Or.inl rfl))
   (az (di 1 S.nd (av jo (av fU (pv 1) (aQ (Ai T) hr T.wb T.mE.kp T.wa aX (aa (pv 1) (aa (aG bC (pv 2) aj) ag)))) (aG bC (pv 2) aj)))))
  (az (aV (gF (aa (e9 (N:=["number","bottom"]) (ρ:=(fun σ=>[σ[1]?.join])) (dO [1] rfl) rfl (eL (pv 0)) (fun _ _ _=>.nil) (fun _ _ _=>(av jo (aG (yu (K:=K)) (pv 0) aj) (av fU (pv 1) (aG (yu (K:=K)) (pv 0) aj))))) (aa (pv 1) ag))))))),?_⟩
 have D1:=mq.1 rfl;have parts:∀(i:Nat) (v:V),vs[i]?=some v→∃(r:Addr) (x m:Int),v=.ref r∧H r=some (.tup [.int x,.int m])∧ps[i]?=some (x,m)∧dG x m∧x.natAbs≤B∧m∣D:=fun i v e=>by
  have hi:i<ps.length:=by rw [←hl];exact (aW.mp e).1
  have ep:ps[i]?=some ps[i]:=by simp [hi]
  have h1:=hn i v ps[i] e ep;have h2:=hD _ (a7 hi);generalize ps[i]=p at h1 ep h2;obtain ⟨x,m⟩:=p;cases h1 with
  | cY er l bx bm=>exact ⟨_,x,m,rfl,er,ep,l,bx,h2⟩
  | rem h0 h1 h2=>lia
 have uo:∀{y:Int},y∣D→bE y:=fun h=>eK (Hv h (by lia)) bD
 refine ⟨_,rfl,a,rfl,⟨_,.of ea⟩,?_⟩
 refine xI (K:=K) (a:=a) (xs:=vs) (fun i σ Hc=>Hc=H∧∃(b:Int) (v2:Option V),σ=[some (.ref a),some (.int b),v2]∧1≤b∧b∣D∧∀(j:Nat) (p:Int×Int),j<i→ps[j]?=some p→p.2∣b)
  ⟨rfl,1,none,rfl,by decide,Int.one_dvd D,fun j p hj=>by lia⟩ (fun i σ Hc _ ⟨z,_⟩=>by rw [z];exact .of ea) ?_ ?_
 ·rintro i v σ Hc hi ⟨rfl,b,v2,rfl,b1,bb,hd⟩
  obtain ⟨r,x,m,rfl,er,ep,l,bx,bm⟩:=parts i v hi;have m1:=l.pos;obtain ⟨s1,s2,s3,s4⟩:=Qs b1 m1;have gp:=nK (a:=b) (b:=m) (by lia)
  have gm:bE (Int.gcd b m:Int):=uo (iF (oM ..) bm);refine ⟨_,rfl,_,rfl,_,rfl,r,_,_,_,rfl,rfl,.of er,rfl,b,m,rfl,uo bm,_,_,rfl,rfl,⟨by lia,gm⟩,_,rfl,r,_,_,_,rfl,rfl,.of er,rfl,_,_,rfl,rfl,⟨?_,uo bm⟩,?_⟩
  ·exact eK (oP ..) (uo bb)
  ·refine ⟨rfl,_,_,rfl,s1,lcm_dvd b1 m1 bb bm,fun j p hj hp=>?_⟩
   by_cases z:j=i
   ·subst z
    rw [ep] at hp;cases hp;exact s2
   ·exact iF (hd j p (by lia) hp) s3
 ·rintro σ Hc ⟨rfl,b,v2,rfl,b1,bb,hd⟩
  rw [hl] at hd;have mb:bE b:=uo bb;dsimp only;refine kf (Hq (e_ (xs:=vs) (fun R h=>⟨_,rfl,a,rfl,⟨_,.of ea⟩,h _ _ (af.refl _) (fL (.of ea))⟩) (by rw [hl];exact b_ (by lia)) (fun _ i y _=>∃(p:Int×Int),ps[i]?=some p∧y=.int (p.1*(b / p.2))) (fun _ _ _ _ _ _ h _ _=>h) ?_ ?_))
  ·intro D' i v hi Hd R sd _ kd
   obtain ⟨r,x,m,rfl,er,ep,l,bx,bm⟩:=parts i v hi;have m1:=l.pos;have Tx:bE (b / m):=eK (oP ..) mb;exact ⟨_,rfl,r,_,_,_,rfl,rfl,.of (sd _ _ er),rfl,_,rfl,_,rfl,r,_,_,_,rfl,rfl,.of (sd _ _ er),rfl,_,_,rfl,rfl,⟨by lia,uo bm⟩,_,_,rfl,rfl,⟨eK bx hB,Tx⟩,kd _ Hd (af.refl _) ⟨(x,m),ep,rfl⟩⟩
  ·intro D' ys Hd nD sd mP hP eD
   have ey:ys=(ps.map fun p=>p.1*(b / p.2)).map V.int:=yy (by rw [mP,hl,aD]) fun i v e=>by obtain ⟨p,e1,e2⟩:=hP i v e;exact ⟨p.1*(b / p.2),by rw [bo,e1];rfl,e2⟩
   refine ⟨_,rfl,by show 2≤sizeLine;decide,fun r cm=>?_⟩
   refine k _ _ (ps.map fun p=>p.1*(b / p.2)) b (sd.trans (aK cm)) ⟨r,D',rfl,aB,aK cm _ _ (by rw [eD,ey]),nD⟩ ⟨by rw [aD],⟨fun _=>b1,fun z=>absurd rfl z⟩,bb,fun i hi=>?_⟩
   have su:i<vs.length:=by lia
   have e1:(ps.map fun p=>p.1*(b / p.2)).getD i 0=ps[i].1*(b / ps[i].2):=by rw [getD_at (by rw [aD];exact hi),gP]
   rw [e1,getD_at hi];obtain ⟨r',x,m,_,_,ep,l,bx,bm⟩:=parts i vs[i] (by simp [su])
   have Al:ps[i]=(x,m):=by
    rw [show ps[i]?=some ps[i] by simp [hi]] at ep
    exact Option.some.inj ep
   rw [Al];dsimp only;have m1:=l.pos;obtain ⟨c,ec⟩:=hd i (x,m) hi (by rw [←Al];simp [hi])
   dsimp only at ec;have eq:b / m=c:=by rw [ec];exact jE _ (by lia)
   refine ⟨by rw [eq,ec];grind,?_⟩
   rw [je];exact kF bx (aN (oP ..) (Hv bb (by lia)))
theorem Tz:bB ["self","row"] ["self","row"] (aR zN):=bU
theorem TB(T:Txt K mg t):aT P w K mg base bV 3 t.qw t.tR ["self","row"] (Ro t.bN):=by
 have S:=Tz;refine T.wk.cA S (fun _ _ _ _ H vs _ _ hr h=>?_);obtain ⟨z,a,q,ps,B,D,rfl,⟨dx,hx⟩,hq,qE,KU,mq,hD,hB,b1,bD,k⟩:=h
 refine ⟨_,(ao (bL (bJ xO (lZ (pv 0) rfl) oY) (az (aV (aQ (Tw T) hr T.JD T.t6.kp T.JB aX (aa (pv 1) ag)))) bS)
  (az (aV (gF (aa (o_ xV rfl T.ot boot_list (aa (pv 1) ag)) (aa aj ag)))))),?_⟩
 refine ⟨_,rfl,z,t.bN,dx,_,_,rfl,hx,T.fb,T.jA,l9 _,rfl,_,rfl,?_⟩;rcases hq with rfl | ⟨q2,q3,q4⟩
 ·rw [aq rfl]
  exact dh ⟨_,rfl,a,ps,B,D,rfl,qE,KU,mq,hD,hB,bD,k⟩
 ·have hq:q≠0:=by lia
  rw [ar hq] at hx ⊢;obtain ⟨vs,ea,hl,hn⟩:=qE;have parts:∀(i:Nat) (v:V),vs[i]?=some v→∃x:Int,v=.int x∧ps[i]?=some (x,1)∧0≤x∧x<q:=fun i v e=>by
   have hi:i<ps.length:=by rw [←hl];exact (aW.mp e).1
   have ep:ps[i]?=some ps[i]:=by simp [hi]
   have h1:=hn i v ps[i] e ep;generalize ps[i]=p at h1 ep;obtain ⟨x,m⟩:=p;cases h1 with
   | cY er l bx bm=>exact absurd rfl hq
   | rem h0 h1 h2=>exact ⟨x,rfl,ep,h0,h1⟩
  have ey:vs=(ps.map fun p=>p.1).map V.int:=yy (by rw [hl,aD]) fun i v e=>by obtain ⟨x,e1,e2,_⟩:=parts i v e;exact ⟨x,by rw [bo,e2];rfl,e1⟩
  have eD:=mq.2 hq;refine bW ⟨_,rfl,a,vs,rfl,.inl (.of ea),fun l nl=>⟨by show 2≤sizeLine;decide,fun r cm=>?_⟩⟩
  refine k _ _ (ps.map fun p=>p.1) 1 ((aK nl).trans (aK cm)) ⟨r,l,rfl,aB,aK cm _ _ (by rw [aB,ey]),nl⟩ ⟨by rw [aD],a9.one,Int.one_dvd D,fun i hi=>?_⟩
  have su:i<vs.length:=by lia
  rw [getD_at (by rw [aD];exact hi),gP,getD_at hi]
  obtain ⟨x,_,ep,x0,x1⟩:=parts i vs[i] (by simp [su])
  have Al:ps[i]=(x,1):=by
   rw [show ps[i]?=some ps[i] by simp [hi]] at ep
   exact Option.some.inj ep
  rw [Al];refine ⟨rfl,?_⟩;rw [eD];show x.natAbs≤B*1;lia
theorem TC:bB ["table","wide"] ["table"] (aR zg):=bU
theorem Am(T:Txt K mg t):aT P w K mg base (dE P w) 1 t.pY t.sQ ["table"] (QX t.br):=by
 have S:=TC;refine T.mF.dF S (fun _ _ _ _ H vs _ _ hr h L=>?_);obtain ⟨a,q,B,ae,m,rfl,⟨vs,ea,hl,hn⟩,h1,wt,hm,k⟩:=h
 refine ⟨_,(ao (bL (bJ dN (bc df rfl T.cS cV (aa (pv 0) ag)) aj) (az (aV aj)) bS)
  (ao (di 1 S.nd (bc df rfl T.cS cV (aa (aG dc (pv 0) aj) ag)))
  (ao (bL (gC (bc (Qj (K:=K) rfl) rfl T.Kl boot_any (aa (e9 (N:=["row","wide"]) (ρ:=(fun σ=>[σ[1]?.join])) (dO [1] rfl) rfl (eL (pv 0)) (fun _ _ _=>.nil) (fun _ _ _=>(jR jQ (bc (Qr (K:=K)) rfl T.cS cV (aa (pv 0) ag)) (pv 1)))) ag))) (az (vc L rfl rg T.Ah rfl T.Ag (aa fZ ag))) bS)
  (az (aV (pv 1)))))),?_⟩
 have h0:0<vs.length:=by lia
 refine ⟨_,rfl,a,vs,rfl,.inl (.of ea),rfl,false,by rw [kU,dI (by lia)],bW ?_⟩
 have TF:0<ae.length:=by lia
 obtain ⟨r,er,us,eu,lu,_⟩:=hn 0 vs[0] ae[0] (by simp [h0]) (by simp [TF])
 have ZX:=hm ae[0] (a7 ..);refine ⟨_,rfl,a,vs,_,vs[0],rfl,rfl,.of ea,(by exact e8 (j:=0) (by simp [h0])),r,us,by rw [er],.inl (.of eu),?_⟩
 have em:(us.length:Int)=(m:Int):=by lia
 rw [em];dsimp only [aS];have TH:∀(i:Nat) (v:V),vs[i]?=some v→∃(r:Addr) (us:List V),v=.ref r∧H r=some (.lst us)∧us.length=m:=fun i v e=>by
  have bH:i<ae.length:=by rw [←hl];exact (aW.mp e).1
  obtain ⟨r,e1,us,e2,e3,_⟩:=hn i v ae[i] e (by simp [bH])
  exact ⟨r,us,e1,e2,by rw [e3];exact hm _ (a7 ..)⟩
 refine bK (Qt (Qu (r6 (G8 (xs:=vs) (fun R h=>⟨_,rfl,a,rfl,⟨_,.of ea⟩,h _ _ (af.refl _) (fL (.of ea))⟩) (by rw [hl];exact b_ (by lia)) (fun _ i y _=>y=.bl false) (fun _ _ _ _ _ _ h _ _=>h) ?_ ?_))))
 ·intro D i v hi Hc R sc _ kc
  obtain ⟨r',KW,rfl,e2,e3⟩:=TH i v hi;refine ⟨_,rfl,r',KW,rfl,.inl (.of (sc _ _ e2)),_,rfl,rfl,?_⟩;have zz:(!decide (V.int (KW.length:Int)=V.int (m:Int)))=false:=by rw [kU,cN (by lia)];rfl
  rw [zz];exact kc _ Hc (af.refl _) rfl
 ·intro D ys Hc sc mP hP eD
  refine ⟨D,List.replicate ys.length false,rfl,.of (by rw [eD];exact dR _ (dR _ (vC hP))),false,by rw [Qv],bW ?_⟩
  exact ⟨_,rfl,k Hc sc⟩
theorem TJ:bB ["table","other"] ["table","other"] (aR zq):=bU
theorem Di(T:Txt K mg t):aT P w K mg base bV 1 t.qa t.s_ ["table","other"] QY:=by
 have S:=TJ;refine T.oh.cA S (fun _ _ _ _ H vs _ _ hr h=>?_);obtain ⟨a,b,q,B,ae,aw,m,u,rfl,hA,hB,ln,C0,hm,hu,TK,ZY,k⟩:=h;refine ⟨_,(az (aV (rZ (N:=["row","more"]) (ρ:=(fun σ=>[])) (nW [] rfl) rfl (nV rfl T.mO (aa (pv 0) (aa (pv 1) ag))) (fun _ _ _=>.nil) (fun _ _ _=>(av xY (pv 0) (pv 1)))))),?_⟩;obtain ⟨vs,ea,lv,fv⟩:=id hA;obtain ⟨us,eb,lu,fu⟩:=id hB;refine kf (yB (Z:=fun zs Hx=>zs=vs.zip us∧Hx=H) (fun R h=>⟨_,rfl,_,rfl,a,b,rfl,⟨_,.of ea⟩,⟨_,.of eb⟩,h _ _ _ (af.refl _) (pD (.of ea) (.of eb)) (b_ (by rw [jI];lia)) ⟨rfl,rfl⟩⟩) (fun D i y Hx=>∃x:Addr,y=.ref x∧x≠D∧b6 B Hx q x (ae.getD i []++aw.getD i [])) (fun D i y Ha Hb ys ⟨x,h1,h2,vs,e1,e2,e3⟩ e f=>⟨x,h1,h2,vs,f _ _ h2 e1,e2,fun j v p x y=>(e3 j v p x y).cP e f⟩) ?_ ?_)
 ·rintro zs H1 ⟨rfl,rfl⟩ _ D i x y g8 Hc R sc ⟨ys,eD⟩ kc
  obtain ⟨h1,h2⟩:=mX.mp g8;have i1:i<vs.length:=(aW.mp h1).1;have i2:i<us.length:=(aW.mp h2).1;have p1:i<ae.length:=by lia
  have p2:i<aw.length:=by lia
  obtain ⟨rx,rfl,xs,ex,lx,fx⟩:=fv i x ae[i] h1 (by simp [p1])
  obtain ⟨ry,rfl,KY,ey,ly,fy⟩:=fu i y aw[i] h2 (by simp [p2])
  have l1:=hm _ (a7 p1);have l2:=hu _ (a7 p2);refine ⟨_,rfl,_,rfl,rx,ry,xs,KY,rfl,rfl,sc _ _ ex,sc _ _ ey,aN (show _≤100 by lia) (by decide),fun p np=>?_⟩
  have sp:af Hc (upd Hc p (.lst (xs++KY))):=aK np;refine kc _ _ sp ⟨p,rfl,(fun e=>by rw [e,eD] at np;cases np),?_⟩
  rw [getD_at p1,getD_at p2];exact b6.cat (B:=B) aB lx ly (fun j v p' h1 h2=>((fx j v p' h1 h2).mono sc).mono sp) (fun j v p' h1 h2=>((fy j v p' h1 h2).mono sc).mono sp)
 ·rintro zs H1 ⟨rfl,rfl⟩ _ D ws Hc nD sc ko hP eD
  have lz:ws.length=ae.length:=by rw [ko,jI];lia
  refine k D Hc sc nD ⟨ws,eD,by rw [lz,List.length_zipWith];lia,fun i v ps h1 h2=>?_⟩
  have i1:i<ws.length:=(aW.mp h1).1;have p1:i<ae.length:=by lia
  have p2:i<aw.length:=by lia
  obtain ⟨x,e1,_,e2⟩:=hP i v h1;refine ⟨x,e1,?_⟩;rw [getD_at p1,getD_at p2] at e2;have e3:ps=ae[i]++aw[i]:=by rw [AV] at h2;simp [p1,p2] at h2;exact h2.symm
  rw [e3];exact e2
def TM(N:Addr):Sp:=fun vs H Q E=>∃(n:Nat) (a:Addr) (xs:List V),vs=[.int (n:Int),.ref a]∧H a=some (.lst xs)∧(xs.length≠n→E (.ref N) none H)∧(xs.length=n→Q .aO H)
theorem TN:bB ["n","aim"] ["n","aim"] (aR zh):=bU
theorem KZ(T:Txt K mg t):aT P w K mg base (dE P w) 1 t.pZ t.sR ["n","aim"] (TM t.br):=by
 have S:=TN;refine T.qx.dF S (fun _ _ _ _ H _ _ _ hr h L=>?_);obtain ⟨n,a,xs,rfl,ea,kE,k⟩:=h;refine ⟨_,(az (bL (bJ jQ (bc df rfl T.cS cV (aa (pv 1) ag)) (pv 0)) (az (vc L rfl rg T.Ah rfl T.Ag (aa fZ ag))) bS)),?_⟩;refine ⟨_,rfl,a,xs,rfl,.inl (.of ea),_,rfl,rfl,_,rfl,cG (fun iw=>?_) (fun iw=>?_)⟩
 ·have iw:xs.length≠n:=fun z=>by
   have:(xs.length:Int)=(n:Int):=by lia
   rw [kU,cN this] at iw;cases iw
  exact ⟨by show 1≤sizeLine;decide,kE iw⟩
 ·have heq:xs.length=n:=by
   by_cases z:(xs.length:Int)=(n:Int);·lia
   ·exact absurd (by rw [kU,dI z];rfl) iw
  exact k heq
theorem TQ:bB ["table","place"] ["table","place"] (aR zi):=bU
theorem TU(T:Txt K mg t):aT P w K mg base bV 1 t.p3 t.sS ["table","place"] Rc:=by
 have S:=TQ;refine T.ua.cA S (fun _ _ _ _ H vs _ _ hr h=>?_);obtain ⟨a,q,B,j,ae,m,rfl,⟨vs,ea,hl,hn⟩,wt,hm,hj,k⟩:=h;refine ⟨_,(az (aV (e9 (N:=["row","place"]) (ρ:=(fun σ=>[σ[1]?.join])) (dO [1] rfl) rfl (eL (pv 0)) (fun _ _ _=>.nil) (fun _ _ _=>(aG (nX (K:=K)) (pv 0) (pv 1)))))),?_⟩;refine kf (e_ (xs:=vs) (fun R h=>⟨_,rfl,a,rfl,⟨_,.of ea⟩,h _ _ (af.refl _) (fL (.of ea))⟩) (by rw [hl];exact b_ (by lia)) (fun D i y Hx=>∃ps,ae[i]?=some ps∧dj B Hx q y (ps.getD j (0,1)).1 (ps.getD j (0,1)).2) (fun _ _ _ _ _ _ ⟨ps,h1,h2⟩ e f=>⟨ps,h1,h2.cP e f⟩) ?_ ?_)
 ·intro D i v hi Hc R sc _ kc
  have bH:i<ae.length:=by rw [←hl];exact (aW.mp hi).1
  have ep:ae[i]?=some ae[i]:=by simp [bH]
  obtain ⟨r,rfl,us,er,lr,f⟩:=hn i v ae[i] hi ep;have hlen:=hm ae[i] (a7 ..);have K0:j<us.length:=by lia
  have K3:j<ae[i].length:=by lia
  refine ⟨_,rfl,_,rfl,r,us,_,us[j],rfl,rfl,.of (sc _ _ er),e8 (by simp [K0]),kc _ Hc (af.refl _) ⟨ae[i],ep,?_⟩⟩
  have eg:ae[i].getD j (0,1)=ae[i][j]:=by simp [K3]
  rw [eg];exact (f j us[j] ae[i][j] (by simp [K0]) (by simp [K3])).mono sc
 ·intro D ys Hc nD sc mP hP eD
  refine k D Hc sc nD ⟨ys,eD,by rw [mP,hl,aD],fun i v p h1 h2=>?_⟩
  obtain ⟨ps,e1,e2⟩:=hP i v h1;rw [bo,e1] at h2;cases h2;exact e2
theorem TV:bB ["table"] ["table"] (aR zj):=bU
theorem TZ(T:Txt K mg t):aT P w K mg base bV 2 t.p4 t.sU ["table"] (Rf t.br):=by
 have S:=TV;refine T.ub.cA S (fun _ _ _ _ H vs _ _ hr h=>?_);obtain ⟨a,q,B,ae,m,rfl,hA,h1,wt,hm,TK,k⟩:=h;refine ⟨_,(az (aV (e9 (N:=["place","table"]) (ρ:=(fun σ=>[σ[0]?.join])) (dO [0] rfl) rfl (gS rfl T.gs (aa (aQ (Am T) hr T.we T.mF.kp T.wc jj (aa (pv 0) ag)) ag)) (fun _ _ _=>.nil) (fun _ _ _=>(aQ (TU T) hr T.JN T.ua.kp T.JM aX (aa (pv 1) (aa (pv 0) ag))))))),?_⟩;refine kf (e_ (xs:=(List.range m).map fun i:Nat=>V.int (0+(i:Int))) (fun R h=>⟨_,rfl,a,q,B,ae,m,rfl,hA,h1,wt,hm,fun H1 s1=>⟨(m:Int),rfl,by lia,by lia,h _ _ s1 (by rw [cU];exact k4)⟩⟩) (by rw [aD,fQ];exact b_ (by lia)) (fun D i y Hx=>∃r,y=.ref r∧r≠D∧b6 B Hx q r (ae.map fun ps:List (Int×Int)=>ps.getD i ((0:Int),(1:Int)))) (fun D i y Ha Hb ys ⟨r,h1,h2,vs,e1,e2,e3⟩ e f=>⟨r,h1,h2,vs,f _ _ h2 e1,e2,fun j v p x y=>(e3 j v p x y).cP e f⟩) ?_ ?_)
 ·intro D i v hi Hc R sc ⟨zs,eD⟩ kc
  have bH:i<m:=by have:=(aW.mp hi).1;simpa using this
  have ev:v=.int (i:Int):=by rw [bo] at hi;simp [bH] at hi;exact hi.symm
  subst ev;refine ⟨_,rfl,_,rfl,a,q,B,i,ae,m,rfl,hA.mono sc,wt,hm,bH,fun b H' s' nb hb=>kc _ H' s' ⟨b,rfl,fun z=>by (rw [z,eD] at nb;cases nb),hb⟩⟩
 ·intro D ys Hc nD sc mP hP eD
  refine k D Hc sc nD ⟨ys,eD,by unfold jw;rw [mP,aD,aD],fun i v ps h1 h2=>?_⟩
  obtain ⟨r,e1,_,e3⟩:=hP i v h1;have bH:i<m:=by have:=(aW.mp h2).1;simpa [jw] using this
  unfold jw at h2;rw [bo] at h2;simp [bH] at h2;subst h2;exact ⟨r,e1,e3⟩
theorem T1:bB ["world","table","rows","leads","last","lead","turn","found","head"] ["world","table"] (aR zp):=bU
theorem Dj(T:Txt K mg t):aT P w K mg base bV 5 t.p_ t.sZ ["world","table"] (Rp t.bN t.br):=by
 have S:=T1;have T2:=TB (P:=P) (w:=w) (base:=base) T;refine T.og.cA S (fun _ _ _ _ H vs _ _ hr h=>?_);obtain ⟨z,a,q,B,PP,W,ae,G,rfl,⟨dz,hd⟩,hq,hA,B1,T3,n1,C0,hW,Dk,hE,hG,hP,An,k⟩:=h
 refine ⟨_,(ao (yo (i0:=2) (N:=["row","world"]) (ρ:=(fun σ=>[σ[0]?.join])) (dO [0] rfl) rfl S.nd rfl (Or.inl rfl) (eL (pv 1)) (fun _ _ _=>.nil) (fun _ _ _=>(aG (yu (K:=K)) (l5 (pv 1) T.fb T.Ae T2 (hr.mono (by decide)) T.Kd .nil aX (aa (pv 0) ag)) aj)))
  (ao (putL 3 S.nd (dD ag))
  (ao (di 4 S.nd aj)
  (ao (jO gQ rfl (gS rfl T.gs (aa (aQ (Am T) hr T.we T.mF.kp T.wc jj (aa (pv 1) ag)) ag)) (e7 (i:=5) S.nd rfl (Or.inr rfl))
   (ao (putL 6 S.nd (bc df rfl T.cS cV (aa (pv 3) ag)))
  (ao (putL 7 S.nd (aQ (Tf T) hr T.JT T.ud.kp T.JS aX (aa (pv 2) (aa (pv 6) (aa (pv 5) ag)))))
  (az (bL (bJ Na (pv 7) oY) (ao (putL 2 S.nd (aQ (Ti T) hr T.JV T.ue.kp T.JU aX (aa (pv 2) (aa (pv 6) (aa (pv 7) ag)))))
  (ao (di 8 S.nd (aG dc (pv 2) (pv 6)))
  (ao (yo (i0:=2) (N:=["row","world","head","lead","last"]) (ρ:=(fun σ=>[σ[0]?.join,σ[8]?.join,σ[5]?.join,σ[4]?.join])) (dO [0,8,5,4] rfl) rfl S.nd rfl (Or.inl rfl) (eL (pv 2)) (fun _ _ _=>.nil) (fun _ _ _=>(aQ (Tn T) hr T.JR T.uc.kp T.JQ aX (aa (pv 1) (aa (pv 0) (aa (pv 2) (aa (pv 3) (aa (pv 4) ag))))))))
  (ao (@nj _ _ _ _ _ _ (pv 8) (nh (pv 2) (pv 6) set_list) (by rfl) (by rfl) (by rfl))
  (ao (di 4 S.nd (aG dc (pv 8) (pv 5)))
  (az (oZ (Bz uT AZ A3 l8 (pv 3) (aa (pv 5) ag))))))))) bS)))))
  (az (aV (gF (aa (rZ (N:=["row","lead","world"]) (ρ:=(fun σ=>[σ[0]?.join])) (nW [0] rfl) rfl (nV rfl T.mO (aa (pv 2) (aa (pv 3) ag))) (fun _ _ _=>.nil) (fun _ _ _=>(aQ (Tu T) hr T.JX T.uf.kp T.JW aX (aa (pv 2) (aa (pv 0) (aa (pv 1) ag)))))) (aa (pv 3) ag))))))))),?_⟩
 obtain ⟨vs,ea,lv,fv⟩:=id hA;refine bK (fM (e_ (xs:=vs) (fun R h=>⟨_,rfl,a,rfl,⟨_,.of ea⟩,h _ _ (af.refl _) (fL (.of ea))⟩) (by rw [lv];exact b_ (by lia)) (fun D i y Hx=>∃(x:Addr) (ts:List Int) (b:Int),y=.ref x∧x≠D∧H x=none∧Hx x=some (.lst (ts.map V.int))∧Co q (G i) W (ae.getD i []) ts b) (fun D i y Ha Hb ys ⟨x,ts,b,h1,h2,h3,h4,h5⟩ e f=>⟨x,ts,b,h1,h2,h3,f _ _ h2 h4,h5⟩) ?_ ?_))
 ·intro D i v hi Hc R sc ⟨zs,eD⟩ kc
  have bH:i<vs.length:=(aW.mp hi).1;have hp:i<ae.length:=by lia
  obtain ⟨r,rfl,cm⟩:=fv i v ae[i] hi (by simp [hp])
  obtain ⟨D',x,mq,bD,dv,hx⟩:=hE i hp;have ep:ae.getD i []=ae[i]:=getD_at hp;rw [ep] at dv hx kc;have lW:=hW _ (a7 hp);refine ⟨_,rfl,z,dz,_,rfl,sc _ _ hd,ma (by decide +kernel),_,rfl,z,r,q,ae[i],B,D',rfl,⟨dz,sc _ _ hd⟩,hq,cm.mono sc,by rw [lW];exact Dk,mq,dv,T3,B1,eK bD (hG i).2,fun v H' ts b s' hn wd=>?_⟩
  obtain ⟨tp,l,rfl,T4,el,nl⟩:=hn;exact ⟨tp,_,_,_,rfl,rfl,.of T4,rfl,kc _ H' s' ⟨l,ts,b,rfl,(fun e=>by rw [e,eD] at nl;cases nl),none_of sc nl,el,Q5 hq wd lW cm mq hx⟩⟩
 intro D ys H1 nD s1 dU T5 eD;have hn:ys.length=ae.length:=by rw [dU,lv]
 obtain ⟨f,hf⟩:=vN (n:=ae.length) (α:=List Int×Int) (R:=fun i y=>∃x:Addr,ys[i]?=some (.ref x)∧x≠D∧H1 x=some (.lst (y.1.map V.int))∧Co q (G i) W (ae.getD i []) y.1 y.2) fun i hi=>by
  have bH:i<ys.length:=by lia
  obtain ⟨x,ts,b,e1,h2,h3,h4,h5⟩:=T5 i ys[i] (by simp [bH])
  exact ⟨(ts,b),x,by rw [←e1];simp [bH],h2,h4,h5⟩
 obtain ⟨AA,Ao,T6⟩:∃AA:Nat→Nat→Int,(∀i,i<ae.length→∀k,AA i k=(f i).1.getD k 0)∧∀i k,ae.length≤i→AA i k=0:=⟨fun i k=>if i<ae.length then (f i).1.getD k 0 else 0,fun i hi k=>aq hi,fun i k hi=>ar (by lia)⟩
 dsimp only [aS];simp only [L2.start,cx,mZ,gu,lH,List.replicate,m5,lF,dW,dY];refine ⟨by show 0≤sizeLine;decide,fun l nl=>?_⟩
 have s2:af H (upd H1 l (.lst [])):=s1.trans (aK nl);have el:upd H1 l (.lst []) l=some (.lst (cf [])):=aB;have iR:i5 (upd H1 l (.lst [])) D l ae.length W AA:=by
  refine ⟨ys,aK nl _ _ eD,hn,(fun e=>by rw [e,nl] at eD;cases eD),fun i v hv=>?_⟩
  have bH:i<ae.length:=by rw [←hn];exact (aW.mp hv).1
  obtain ⟨x,e1,e2,e3,e4⟩:=hf i bH;rw [e1] at hv;cases hv;refine ⟨x,rfl,e2,(fun e=>by rw [e,nl] at e3;cases e3),?_⟩
  rw [show AA i=fun k=>(f i).1.getD k 0 from funext fun k=>Ao i bH k,Q4 _ e4.len];exact aK nl _ _ e3
 generalize upd H1 l (.lst [])=H2 at s2 el iR ⊢;dsimp only [aS];simp only [dW,dY];have T7:H l=none:=none_of s1 nl;refine ⟨_,rfl,a,q,B,ae,W,rfl,hA.mono s2,n1,C0,hW,fun H3 s3=>⟨(W:Int),rfl,by lia,by lia,?_⟩⟩
 rw [cU];obtain ⟨A0,T8,T9⟩:∃A0:Nat→Nat→Int,A0=AA∧∀i k,(A0 i k).natAbs≤G i:=⟨AA,rfl,fun i k=>by
  by_cases hi:i<ae.length
  ·obtain ⟨x,e1,e2,e3,e4⟩:=hf i hi
   rw [Ao i hi k];exact e4.bd k
  ·rw [T6 i k (by lia)]
   exact cT _⟩
 have I0:fY q PP ae.length W AA AA [] 1 0:=by refine fY.start hq (G:=G) (T8▸T9) (fun i=>(hG i).1) hP An n1 fun z i k hi hk=>?_;obtain ⟨x,e1,e2,e3,e4⟩:=hf i hi;rw [Ao i hi k];exact e4.rem z k hk
 refine u3 (fun i σ Hc=>af H Hc∧∃(rr:Addr) (M:aE) (L:List Nat) (last:Int) (v5 v6 v7 v8:Option V),σ=[some (.ref z),some (.ref a),some (.ref rr),some (.ref l),some (.int last),v5,v6,v7,v8]∧Hc l=some (.lst (cf L))∧i5 Hc rr l ae.length W M∧fY q PP ae.length W AA M L last i) ⟨s2.trans s3,D,AA,[],1,none,none,none,none,rfl,s3 _ _ el,iR.mono s3,I0⟩ ?_ ?_
 ·rintro i σ Hc hi ⟨sc,rr,M,L,last,v5,v6,v7,v8,rfl,el,iR,I⟩
  rw [show (0:Int)+(i:Int)=(i:Int) by lia]
  refine ⟨_,rfl,l,cf L,rfl,.inl (.of el),?_⟩;rw [show ((cf L).length:Int)=(L.length:Int) by simp [cf]]
  dsimp only [aS];simp only [dW,dY];refine ⟨_,rfl,_,rfl,_,rfl,rr,ae.length,W,L.length,i,M,rfl,iR.rows,I.rd.len,by lia,hi,fun s' hs sn ns=>?_,fun hz=>?_⟩
  ·dsimp only [aS]
   simp only [dW,dY];obtain ⟨Ef,Dm,I'⟩:=I.next hq hi hs sn ns;obtain ⟨ml,Dn⟩:=I.last hq;have md:∀i' k',i'<ae.length→k'<W→bE (dQ M L.length s' i' k'):=fun i' k' h1 h2=>by
    have b:∀j,j<ae.length→bE (M j k'):=fun j hj=>eK (I.bd hq hj h2) I.mid;unfold dQ
    split
    ·exact b _ (by lia)
    ·split
     ·exact b _ sn
     ·exact b _ h1
   have rn:L.length<ae.length:=by lia
   refine ⟨_,rfl,rfl,_,rfl,dh ?_⟩;refine ⟨_,rfl,_,rfl,_,rfl,rr,l,ae.length,W,L.length,s',M,rfl,iR,⟨_,el⟩,rn,sn,fun b H4 s4 nb K4=>?_⟩;dsimp only [aS];simp only [dW,dY];have Dp:=s4 _ _ el;generalize dQ M L.length s'=M1 at Dm I' K4 md;obtain ⟨wu,eb,K5,bl,K6⟩:=id K4;have K7:L.length<wu.length:=by lia
   obtain ⟨hx,T_,ZZ,Ua,eh⟩:=K6 L.length wu[L.length] (by simp [K7])
   refine ⟨_,rfl,_,rfl,b,wu,_,.ref hx,rfl,rfl,.of eb,e8 (by rw [←T_];simp [K7]),?_⟩
   dsimp only [aS];simp only [dW,dY];have Dq:=sc.trans s4;refine bK (fM (e_ (xs:=wu) (fun R h=>⟨_,rfl,b,rfl,⟨_,.of eb⟩,h _ _ (af.refl _) (fL (.of eb))⟩) (by rw [K5];exact b_ (by lia)) (fun D i y Hx=>∃x:Addr,y=.ref x∧x≠D∧x≠l∧Hx x=some (.lst (((List.range W).map (Ef i)).map V.int))) (fun D i y Ha Hb ys ⟨x,h1,h2,h3,h4⟩ e f=>⟨x,h1,h2,h3,f _ _ h2 h4⟩) ?_ ?_))
   ·intro D i' v bH Hd R sd ⟨zs,eD⟩ kd
    have f_:i'<wu.length:=(aW.mp bH).1;have hp:i'<ae.length:=by lia
    obtain ⟨x,rfl,_,_,ex⟩:=K6 i' v bH;exact ⟨_,rfl,_,rfl,_,rfl,_,rfl,_,rfl,z,x,hx,q,last,W,i,M1 i',M1 L.length,Ef i',rfl,⟨dz,sd _ _ (Dq _ _ hd)⟩,hq,sd _ _ ex,sd _ _ eh,hi,Dk,fun k' cZ=>⟨md i' k' hp cZ,md _ k' rn cZ⟩,ml,Dn,fun z k' _=>(Dm i' hp).1 z k',fun z k' _=>(Dm i' hp).2 z k',fun r H' s' nr er=>kd _ H' s' ⟨r,rfl,(fun e=>by rw [e,eD] at nr;cases nr),(fun e=>by rw [e,sd _ _ Dp] at nr;cases nr),er⟩⟩
   intro D qF H5 Ap s5 Ub Uc Ud;dsimp only [aS];simp only [dW,dY];have Ue:L.length<qF.length:=by lia
   have Dl:D≠l:=fun e=>by rw [e,Dp] at Ap;cases Ap
   refine ⟨_,rfl,_,rfl,_,rfl,D,qF,_,L.length,rfl,rfl,Ud,(by unfold gU;rw [aq (by lia),aq (by lia),cU]),?_⟩
   have Ug:H D=none:=none_of Dq Ap;have s6:af H (upd H5 D (.lst (qF.set L.length (.ref hx)))):=d_ (Dq.trans s5) Ug;have K8:hx≠D:=fun e=>by rw [e,Ap] at eh;cases eh
   have Dr:upd H5 D (.lst (qF.set L.length (.ref hx))) hx=some (.lst (((List.range W).map (M1 L.length)).map V.int)):=by rw [aH K8];exact s5 _ _ eh
   have Ds:upd H5 D (.lst (qF.set L.length (.ref hx))) l=some (.lst (cf L)):=by rw [aH (Ne.symm Dl)];exact s5 _ _ Dp
   have K9:i5 (upd H5 D (.lst (qF.set L.length (.ref hx)))) D l ae.length W (fun i=>if i=L.length then M1 L.length else Ef i):=by
    refine ⟨_,aB,by rw [jD,Ub,K5],Dl,fun j v hv=>?_⟩
    by_cases ej:j=L.length
    ·subst ej
     rw [ku Ue] at hv;cases hv;refine ⟨hx,rfl,K8,Ua,?_⟩;dsimp only;rw [aq rfl];exact Dr
    ·rw [kz (fun e=>ej e.symm)] at hv
     obtain ⟨x,e1,e2,e3,e4⟩:=Uc j v hv;refine ⟨x,e1,e2,e3,?_⟩;dsimp only;rw [ar ej,aH e2];exact e4
   dsimp only;generalize upd H5 D (.lst (qF.set L.length (.ref hx)))=H6 at s6 Dr Ds K9 ⊢;refine ⟨_,rfl,_,rfl,hx,_,_,_,rfl,rfl,.of Dr,vM hi (M1 L.length),?_⟩;dsimp only [aS];simp only [dW,dY];refine ⟨_,rfl,.inl ⟨rfl,_,.of Ds⟩,_,rfl,l,cf L,_,rfl,rfl,Ds,eK (show (cf L).length≤100 by simp [cf];lia) (by decide),?_⟩
   have eN:cf L++[.int (i:Int)]=cf (L++[i]):=by simp [cf]
   rw [eN];exact ⟨d_ s6 T7,D,_,L++[i],M1 L.length i,_,_,_,_,rfl,aB,K9.off _,I'⟩
  ·dsimp only [aS]
   simp only [dW,dY];refine ⟨_,rfl,rfl,_,rfl,bW ?_⟩;exact ⟨sc,rr,M,L,last,_,_,_,_,rfl,el,iR,I.skip hz⟩
 ·rintro σ Hc ⟨sc,rr,M,L,last,v5,v6,v7,v8,rfl,el,iR,I⟩
  obtain ⟨Uh,er,Z0,rl,Ui⟩:=id iR;have lN:(cf L).length=L.length:=by simp [cf]
  have ln:=I.rd.len;dsimp only;refine kf (Hq (yB (Z:=fun zs Hx=>zs=Uh.zip (cf L)∧Hx=Hc) (fun R h=>⟨_,rfl,_,rfl,rr,l,rfl,⟨_,.of er⟩,⟨_,.of el⟩,h _ _ _ (af.refl _) (pD (.of er) (.of el)) (b_ (by rw [jI];lia)) ⟨rfl,rfl⟩⟩) (fun D j y Hx=>∃(x:Addr) (ps:a8),y=.ref x∧x≠D∧b6 (ae.length*(bO ae.length*PP)) Hx q x ps∧ps.length=W∧∀k,k<W→bM q (ps.getD k o1) (M j k,M j (L.getD j 0))) (fun D j y Ha Hb ys ⟨x,ps,h1,h2,⟨ws,e1,e2,e3⟩,h4,h5⟩ e f=>⟨x,ps,h1,h2,⟨ws,f _ _ h2 e1,e2,fun j v p x y=>(e3 j v p x y).cP e f⟩,h4,h5⟩) ?_ ?_))
  ·rintro zs Uj ⟨rfl,rfl⟩ _ D' j x y g8 Hd R sd ⟨ws,jx⟩ kd
   obtain ⟨h1,h2⟩:=mX.mp g8;have j2:j<L.length:=by rw [←lN];exact (aW.mp h2).1
   have j1:j<ae.length:=by lia
   obtain ⟨rx,rfl,_,_,ex⟩:=Ui j x h1;have ey:y=.int ((L.getD j 0:Nat):Int):=by unfold cf at h2;rw [bo,bo] at h2;simp [j2] at h2;rw [getD_at j2];exact h2.symm
   subst ey;have cW:L.getD j 0<W:=I.rd.lt _ (by rw [getD_at j2];exact a7 _)
   exact ⟨_,rfl,_,rfl,_,rfl,z,rx,q,W,L.getD j 0,M j,ae.length*(bO ae.length*PP),rfl,⟨dz,sd _ _ (sc _ _ hd)⟩,hq,sd _ _ ex,cW,Dk,I.rd.lead j j2,eK (I.bd hq j1 cW) I.mid,fun k' cZ=>I.bd hq j1 cZ,fun r ps H' s' nr cm lp hw=>kd _ H' s' ⟨r,ps,rfl,(fun e=>by rw [e,jx] at nr;cases nr),cm,lp,hw⟩⟩
  ·rintro zs Uj ⟨rfl,rfl⟩ _ D' ws H7 Z1 s7 ko Uk Ul
   have lz:ws.length=L.length:=by rw [ko,jI];lia
   obtain ⟨aw,lr,wx⟩:=pick (R:=fun(j:Nat) (y:V) (ps:a8)=>∃x:Addr,y=.ref x∧b6 (ae.length*(bO ae.length*PP)) H7 q x ps∧ps.length=W∧∀k,k<W→bM q (ps.getD k o1) (M j k,M j (L.getD j 0))) (fun j y hy=>by obtain ⟨x,ps,h1,_,h3,h4,h5⟩:=Uk j y hy;exact ⟨ps,x,h1,h3,h4,h5⟩)
   refine ⟨_,rfl,by show 2≤sizeLine;decide,fun p np=>?_⟩
   have sp:af H7 (upd H7 p (.tup [.ref D',.ref l])):=aK np;refine k p D' l _ AA M (fun i=>(f i).2) L last aw (sc.trans (s7.trans sp)) aB (sp _ _ (s7 _ _ el)) ⟨ws,sp _ _ Ul,lr.symm,fun j v ps h1 h2=>?_⟩ ⟨I,fun i hi=>?_,fun i k' hi cZ=>?_,by lia,fun ps Um=>?_,fun j k' hj cZ=>?_⟩
   ·obtain ⟨x,e1,e2,_⟩:=wx j v ps h1 h2
    exact ⟨x,e1,e2.mono sp⟩
   ·obtain ⟨x,e1,e2,e3,e4⟩:=hf i hi
    exact e4.ok
   ·obtain ⟨x,e1,e2,e3,e4⟩:=hf i hi
    rw [Ao i hi k'];exact e4.eq k' cZ
   ·obtain ⟨j,hj,e⟩:=gO.mp Um
    have j1:j<ws.length:=by lia
    obtain ⟨x,_,_,e3,_⟩:=wx j ws[j] ps (by simp [j1]) (by simp [hj,e])
    exact e3
   ·have j1:j<ws.length:=by lia
    have j2:j<aw.length:=by lia
    obtain ⟨x,_,_,_,e4⟩:=wx j ws[j] aw[j] (by simp [j1]) (by simp [j2])
    unfold atT;rw [getD_at j2];exact e4 k' cZ
theorem Uo:bB ["world","rows","leads","wide","answer","row","lead"] ["world","rows","leads","wide"] (aR zr):=bU
theorem Dt(T:Txt K mg t):aT P w K mg base bV 4 t.qb t.tf ["world","rows","leads","wide"] (Rl t.bN):=by
 have S:=Uo;have lj:=Ak (P:=P) (w:=w) (base:=base) T;obtain ⟨dv,fD,ou⟩:=T.Ac;refine T.oi.cA S (fun _ _ _ _ H vs _ _ hr h=>?_);obtain ⟨z,ra,la,q,B,W,wide,aw,L,rfl,hz,hq,hR,B1,hW,el,lr,Up,up,hL,Du,wW,k⟩:=h
 refine ⟨_,(ao (putL 4 S.nd (av xZ (dD (aa (l5 (pv 0) T.fb T.oq lj (hr.mono (by decide)) ou fD jj (aa aj ag)) ag)) (pv 3)))
  (ao (jO gQ rfl (nV rfl T.mO (aa (pv 1) (aa (pv 2) ag))) (xG rfl (ng (e7 (i:=5) S.nd rfl (Or.inl rfl)) (ng (e7 (i:=6) S.nd rfl (Or.inl rfl)) xF)))
   (az (@nj _ _ _ _ _ _ (aG dc (pv 5) (pv 3)) (nh (pv 4) (pv 6) set_list) (by rfl) (by rfl) (by rfl))))
  (az (aV (pv 4))))),?_⟩
 obtain ⟨dz,hd⟩:=id hz;have nv:=B9 hq;refine ⟨_,rfl,z,dz,_,rfl,hd,ma (by decide +kernel),z,q,0,1,rfl,⟨dz,hd⟩,hq,bE.of_lt (by decide) (by decide),fun h=>absurd h nv,fun _ v0 H1 s1 ho=>?_⟩
 refine ⟨by show 1≤sizeLine;decide,fun l nl=>?_⟩
 have sl:af H1 (upd H1 l (.lst [v0])):=aK nl;have wy:upd H1 l (.lst [v0]) l=some (.lst [v0]):=aB;have h0:=r9 (B:=B) (by lia) (ho.mono sl) hq (.inl rfl)
 generalize upd H1 l (.lst [v0])=H2 at sl wy h0 ⊢;refine ⟨_,rfl,l,(wide:Int),[v0],rfl,rfl,wy,by lia,by lia,?_,fun r nr=>?_⟩
 ·rw [cU]
  exact aN (show [v0].length*wide≤40 by simp;exact Du) (by decide)
 rw [cU,show (List.replicate wide [v0]).flatten=List.replicate wide v0 by
  clear wW hL k
  induction wide with
  | zero=>rfl
  | succ n ih=>simp [mT]]
 have sr:af H2 (upd H2 r (.lst (List.replicate wide v0))):=aK nr;have er:upd H2 r (.lst (List.replicate wide v0)) r=some (.lst (List.replicate wide v0)):=aB;have h0:=h0.mono sr;generalize upd H2 r (.lst (List.replicate wide v0))=H3 at sr er h0 ⊢;have s3:=s1.trans (sl.trans sr);have uq:H r=none:=none_of (s1.trans sl) nr;dsimp only [aS];simp only [L2.start,cx,mZ,gu,lH,List.replicate,m5,lF,dW,dY];have qE:b6 B H3 q r (List.replicate wide ((0:Int),(1:Int))):=by
  refine ⟨_,er,by simp,fun j v p hv hp=>?_⟩
  have hj:j<wide:=by have:=(aW.mp hv).1;simpa using this
  simp [hj] at hv hp;subst hv hp;exact h0
 obtain ⟨vs,ea,lv,fv⟩:=id hR;have lN:(cf L).length=L.length:=by simp [cf]
 refine ⟨_,rfl,_,rfl,ra,la,rfl,⟨_,.of (s3 _ _ ea)⟩,⟨_,.of (s3 _ _ el)⟩,?_⟩;refine Hm (K:=K) (xs:=vs) (ys:=cf L) (fun i σ Hc=>af H Hc∧∃(ps:a8) (v5 v6:Option V),σ=[some (.ref z),some (.ref ra),some (.ref la),some (.int (wide:Int)),some (.ref r),v5,v6]∧b6 B Hc q r ps∧ps.length=wide∧(∀j,j<i→j<L.length→ps.getD (L.getD j 0) o1=atT aw j wide)∧(∀k,k<wide→(∀j,j<i→k≠L.getD j 0)→ps.getD k o1=(0,1))) ⟨s3,_,none,none,rfl,qE,by simp,(fun j hj=>by lia),fun k hk _=>by rw [getD_at (by simpa using hk)];simp⟩ (fun i σ Hc ⟨sc,_⟩=>⟨.of (sc _ _ ea),.of (sc _ _ el)⟩) ?_ ?_
 ·rintro i x y σ Hc Tt g8 ⟨sc,ps,v5,v6,rfl,cm,lp,pw,p0⟩ nT
  obtain ⟨e1,e2⟩:=mX.mp g8;have i1:i<vs.length:=(aW.mp e1).1;have i2:i<aw.length:=by lia
  have i3:i<L.length:=by lia
  obtain ⟨rx,rfl,ws,ew,lw,fw⟩:=fv i x aw[i] e1 (by simp [i2])
  have ey:y=.int ((L.getD i 0:Nat):Int):=by unfold cf at e2;rw [bo,bo] at e2;simp [i3] at e2;rw [getD_at i3];exact e2.symm
  subst ey;have cW:L.getD i 0<wide:=hL _ (by rw [getD_at i3];exact a7 _)
  have sT:af Hc (upd Hc Tt (.tup [.ref rx,.int ((L.getD i 0:Nat):Int)])):=aK nT;have eT:upd Hc Tt (.tup [.ref rx,.int ((L.getD i 0:Nat):Int)]) Tt=some (.tup [.ref rx,.int ((L.getD i 0:Nat):Int)]):=aB;generalize upd Hc Tt (.tup [.ref rx,.int ((L.getD i 0:Nat):Int)])=Hd at sT eT ⊢;have sd:=sc.trans sT;refine ⟨Tt,_,rfl,.of eT,rfl,_,_,rfl,_,_,rfl,rfl,?_⟩;have lW:=hW _ (a7 i2);have f1:wide<ws.length:=by lia
  have f2:wide<aw[i].length:=by lia
  have zf:=(fw wide ws[wide] aw[i][wide] (by simp [f1]) (by simp [f2])).mono sd
  have Dv:eO ws (wide:Int)=some ws[wide]:=e8 (by simp [f1])
  obtain ⟨us,eu,lu,fu⟩:=cm.mono sT;refine ⟨_,rfl,_,rfl,rx,ws,_,_,rfl,rfl,.of (sd _ _ ew),Dv,_,rfl,_,rfl,r,us,_,L.getD i 0,rfl,rfl,eu,?_,?_⟩
  ·unfold gU
   rw [aq (by lia),aq (by lia),cU]
  ·refine ⟨d_ sd uq,ps.set (L.getD i 0) aw[i][wide],_,_,rfl,⟨_,aB,by rw [jD,jD];exact lu,fun j v p h1 h2=>?_⟩,by rw [jD];exact lp,?_,?_⟩
   ·by_cases y:j=L.getD i 0
    ·subst y
     rw [ku (by lia)] at h1 h2
     cases h1;cases h2;exact zf.cP eu yI
    ·rw [kz (fun e=>y e.symm)] at h1 h2
     exact (fu j v p h1 h2).cP eu yI
   ·intro j hj wz
    by_cases y:j=i
    ·subst y
     rw [Cy (by lia)]
     unfold atT;rw [getD_at i2,getD_at f2]
    ·rw [sh (fun e=>y (Cz up wz i3 e))]
     exact pw j (by lia) wz
   ·intro k' cZ hj
    rw [sh (hj i (by lia))]
    exact p0 k' cZ fun j eP=>hj j (by lia)
 ·rintro σ Hc ⟨sc,ps,v5,v6,rfl,cm,lp,pw,p0⟩
  have lz:(vs.zip (cf L)).length=L.length:=by rw [jI];lia
  rw [lz] at pw p0;refine ⟨_,rfl,k r ps Hc sc uq cm lp (fun j hj=>pw j hj hj) fun k' cZ wB=>p0 k' cZ fun j hj e=>wB ?_⟩;rw [e,getD_at hj];exact a7 _
theorem Uq:bB ["world","rows","leads","wide","free","move","row","lead"] ["world","rows","leads","wide","free"] (aR zt):=bU
theorem K_(T:Txt K mg t):aT P w K mg base bV 5 t.qc t.tj ["world","rows","leads","wide","free"] (Rm t.bN):=by
 have S:=Uq;have lj:=Ak (P:=P) (w:=w) (base:=base) T;have Ur:=Tc (P:=P) (w:=w) (base:=base) T;obtain ⟨dv,fD,ou⟩:=T.Ac;refine T.qy.cA S (fun _ _ _ _ H vs _ _ hr h=>?_);obtain ⟨z,ra,la,q,B,W,wide,free,aw,L,rfl,hz,hq,hR,B1,B2,hW,el,lr,Up,up,hL,Du,wW,hf,nf,k⟩:=h
 refine ⟨_,(ao (putL 5 S.nd (av xZ (dD (aa (l5 (pv 0) T.fb T.oq lj (hr.mono (by decide)) ou fD jj (aa aj ag)) ag)) (pv 3)))
  (ao (@nj _ _ _ _ _ _ (l5 (pv 0) T.fb T.oq lj (hr.mono (by decide)) ou fD jj (aa aj ag)) (nh (pv 5) (pv 4) set_list) (by rfl) (by rfl) (by rfl))
  (ao (jO gQ rfl (nV rfl T.mO (aa (pv 1) (aa (pv 2) ag))) (xG rfl (ng (e7 (i:=6) S.nd rfl (Or.inl rfl)) (ng (e7 (i:=7) S.nd rfl (Or.inl rfl)) xF)))
   (az (@nj _ _ _ _ _ _ (l5 (pv 0) T.fb T.Ad Ur (hr.mono (by decide)) T.Kc .nil aX (aa (l5 (pv 0) T.fb T.oq lj (hr.mono (by decide)) ou fD jj (aa aj ag)) (aa (aG dc (pv 6) (pv 4)) ag))) (nh (pv 5) (pv 7) set_list) (by rfl) (by rfl) (by rfl))))
  (az (aV (pv 5)))))),?_⟩
 obtain ⟨dz,hd⟩:=id hz;have nv:=B9 hq;refine ⟨_,rfl,z,dz,_,rfl,hd,ma (by decide +kernel),z,q,0,1,rfl,⟨dz,hd⟩,hq,bE.of_lt (by decide) (by decide),fun h=>absurd h nv,fun _ v0 H1 s1 ho=>?_⟩
 refine ⟨by show 1≤sizeLine;decide,fun l nl=>?_⟩
 have sl:af H1 (upd H1 l (.lst [v0])):=aK nl;have wy:upd H1 l (.lst [v0]) l=some (.lst [v0]):=aB;have h0:=r9 (B:=B) (by lia) (ho.mono sl) hq (.inl rfl)
 generalize upd H1 l (.lst [v0])=H2 at sl wy h0 ⊢;refine ⟨_,rfl,l,(wide:Int),[v0],rfl,rfl,wy,by lia,by lia,?_,fun r nr=>?_⟩
 ·rw [cU]
  exact aN (show [v0].length*wide≤40 by simp;exact Du) (by decide)
 rw [cU,show (List.replicate wide [v0]).flatten=List.replicate wide v0 by
  clear hf wW hL k nf
  induction wide with
  | zero=>rfl
  | succ n ih=>simp [mT]]
 have sr:af H2 (upd H2 r (.lst (List.replicate wide v0))):=aK nr;have er:upd H2 r (.lst (List.replicate wide v0)) r=some (.lst (List.replicate wide v0)):=aB;have h0:=h0.mono sr;generalize upd H2 r (.lst (List.replicate wide v0))=H3 at sr er h0 ⊢;have s3:=s1.trans (sl.trans sr);have uq:H r=none:=none_of (s1.trans sl) nr;dsimp only [aS];simp only [L2.start,cx,mZ,gu,lH,List.replicate,m5,lF,dW,dY];refine ⟨_,rfl,z,dz,_,rfl,s3 _ _ hd,ma (by decide +kernel),z,q,1,1,rfl,⟨dz,s3 _ _ hd⟩,hq,bE.of_lt (by decide) (by decide),fun h=>absurd h nv,fun _ v1 H4 s4 Dw=>?_⟩
 have h1:=r9 (B:=B) (by lia) Dw hq (.inr rfl)
 refine ⟨_,rfl,_,rfl,r,_,_,free,rfl,rfl,s4 _ _ er,?_,?_⟩
 ·unfold gU
  rw [aq (by lia),aq (by simp;exact hf),cU]
 have qE:b6 B (upd H4 r (.lst ((List.replicate wide v0).set free v1))) q r (((List.replicate wide ((0:Int),(1:Int)))).set free (1,1)):=by
  refine ⟨_,aB,by simp,fun j v p hv hp=>?_⟩
  have cP:∀b o,b≠r→H4 b=some o→upd H4 r (.lst ((List.replicate wide v0).set free v1)) b=some o:=fun b o nb e=>by rw [aH nb];exact e
  have hj:j<wide:=by have:=(aW.mp hv).1;simpa using this
  by_cases y:j=free
  ·subst y
   rw [ku (by simpa using hj)] at hv hp
   cases hv;cases hp;exact h1.cP (s4 _ _ er) cP
  ·rw [kz (by lia)] at hv hp
   simp [hj] at hv hp;subst hv hp;exact (h0.mono s4).cP (s4 _ _ er) cP
 have s5:af H (upd H4 r (.lst ((List.replicate wide v0).set free v1))):=d_ (s3.trans s4) uq;dsimp only;generalize upd H4 r (.lst ((List.replicate wide v0).set free v1))=H5 at qE s5 ⊢;obtain ⟨vs,ea,lv,fv⟩:=id hR;have lN:(cf L).length=L.length:=by simp [cf]
 refine ⟨_,rfl,_,rfl,ra,la,rfl,⟨_,.of (s5 _ _ ea)⟩,⟨_,.of (s5 _ _ el)⟩,?_⟩;refine Hm (K:=K) (xs:=vs) (ys:=cf L) (fun i σ Hc=>af H Hc∧∃(ps:a8) (v6 v7:Option V),σ=[some (.ref z),some (.ref ra),some (.ref la),some (.int (wide:Int)),some (.int (free:Int)),some (.ref r),v6,v7]∧b6 B Hc q r ps∧ps.length=wide∧ps.getD free o1=(1,1)∧(∀j,j<i→j<L.length→bM q (ps.getD (L.getD j 0) o1) (-(atT aw j free).1,(atT aw j free).2))∧(∀k,k<wide→k≠free→(∀j,j<i→k≠L.getD j 0)→ps.getD k o1=(0,1))) ⟨s5,_,none,none,rfl,qE,by simp,Cy (by simpa using hf),(fun j hj=>by lia),fun k hk nk _=>by rw [sh nk,getD_at (by simpa using hk)];simp⟩ (fun i σ Hc ⟨sc,_⟩=>⟨.of (sc _ _ ea),.of (sc _ _ el)⟩) ?_ ?_
 ·rintro i x y σ Hc Tt g8 ⟨sc,ps,v6,v7,rfl,cm,lp,pf,pw,p0⟩ nT
  obtain ⟨e1,e2⟩:=mX.mp g8;have i1:i<vs.length:=(aW.mp e1).1;have i2:i<aw.length:=by lia
  have i3:i<L.length:=by lia
  obtain ⟨rx,rfl,ws,ew,lw,fw⟩:=fv i x aw[i] e1 (by simp [i2])
  have ey:y=.int ((L.getD i 0:Nat):Int):=by unfold cf at e2;rw [bo,bo] at e2;simp [i3] at e2;rw [getD_at i3];exact e2.symm
  subst ey;have cW:L.getD i 0<wide:=hL _ (by rw [getD_at i3];exact a7 _)
  have sT:af Hc (upd Hc Tt (.tup [.ref rx,.int ((L.getD i 0:Nat):Int)])):=aK nT;have eT:upd Hc Tt (.tup [.ref rx,.int ((L.getD i 0:Nat):Int)]) Tt=some (.tup [.ref rx,.int ((L.getD i 0:Nat):Int)]):=aB;generalize upd Hc Tt (.tup [.ref rx,.int ((L.getD i 0:Nat):Int)])=Hd at sT eT ⊢;have sd:=sc.trans sT;refine ⟨Tt,_,rfl,.of eT,rfl,_,_,rfl,_,_,rfl,rfl,?_⟩;have lW:=hW _ (a7 i2);have f1:free<ws.length:=by lia
  have f2:free<aw[i].length:=by lia
  have zf:=(fw free ws[free] aw[i][free] (by simp [f1]) (by simp [f2])).mono sd
  have Dv:eO ws (free:Int)=some ws[free]:=e8 (by simp [f1])
  refine ⟨_,rfl,z,dz,_,rfl,sd _ _ hd,ma (by decide +kernel),_,rfl,z,dz,_,rfl,sd _ _ hd,ma (by decide +kernel),z,q,0,1,rfl,⟨dz,sd _ _ hd⟩,hq,bE.of_lt (by decide) (by decide),fun h=>absurd h nv,fun _ v2 H6 s6 Us=>?_⟩
  have h2:=r9 (B:=B) (by lia) Us hq (.inl rfl)
  refine ⟨_,rfl,_,rfl,rx,ws,_,_,rfl,rfl,.of (s6 _ _ (sd _ _ ew)),Dv,?_⟩;obtain ⟨b1,b2⟩:=zf.both B1;have big:∀{x:Int},x.natAbs≤B→cj x:=fun h=>aN h (aN B2 (by decide +kernel))
  dsimp only [xS,m5,lF];refine P_ (hz.mono (sd.trans s6)) hq (h2.G5 hq) ((zf.mono s6).G5 hq) (big (by simp)) (big (by show 1≤B;lia)) (big b1) (big b2) fun v' H7 s7 hN=>?_
  obtain ⟨p',Ut,La⟩:=Qz (B:=B) hN hq (by rw [show (0:Int)*aw[i][free].2-aw[i][free].1*1=-aw[i][free].1 by lia,oQ];exact b1) (by rw [jH];exact b2)
  have Lb:=sT.trans (s6.trans s7);have wx:=cm.mono Lb;obtain ⟨us,eu,lu,fu⟩:=wx;refine ⟨_,rfl,_,rfl,r,us,_,L.getD i 0,rfl,rfl,eu,?_,?_⟩
  ·unfold gU
   rw [aq (by lia),aq (by lia),cU]
  ·refine ⟨d_ (sc.trans Lb) uq,ps.set (L.getD i 0) p',_,_,rfl,⟨_,aB,by rw [jD,jD];exact lu,fun j v p h1 h2=>?_⟩,by rw [jD];exact lp,?_,?_,?_⟩
   ·by_cases y:j=L.getD i 0
    ·subst y
     rw [ku (by lia)] at h1 h2
     cases h1;cases h2;exact Ut.cP eu yI
    ·rw [kz (fun e=>y e.symm)] at h1 h2
     exact (fu j v p h1 h2).cP eu yI
   ·have Uu:free≠L.getD i 0:=fun e=>nf (by rw [e,getD_at i3];exact a7 _)
    rw [sh Uu];exact pf
   ·intro j hj wz
    by_cases y:j=i
    ·subst y
     rw [Cy (by lia)]
     have Uv:atT aw j free=aw[j][free]:=by unfold atT;rw [getD_at i2,getD_at f2]
     rw [Uv];rw [show (0:Int)*aw[j][free].2-aw[j][free].1*1=-aw[j][free].1 by lia,jH] at La
     exact La
    ·rw [sh (fun e=>y (Cz up wz i3 e))]
     exact pw j (by lia) wz
   ·intro k' cZ wB hj
    rw [sh (hj i (by lia))]
    exact p0 k' cZ wB fun j eP=>hj j (by lia)
 ·rintro σ Hc ⟨sc,ps,v6,v7,rfl,cm,lp,pf,pw,p0⟩
  have lz:(vs.zip (cf L)).length=L.length:=by rw [jI];lia
  rw [lz] at pw p0;refine ⟨_,rfl,k r ps Hc sc uq cm lp pf (fun j hj=>pw j hj hj) fun k' cZ wB ne=>p0 k' cZ ne fun j hj e=>wB ?_⟩;rw [e,getD_at hj];exact a7 _
theorem Uw:bB ["world","table","aim","asked","wanted","told"] ["world","table","aim"] (aR zu):=bU
theorem Lc(T:Txt K mg t):aT P w K mg base bV 6 t.qd t.tq ["world","table","aim"] (RA t.bN):=by
 have S:=Uw;have lj:=Ak (P:=P) (w:=w) (base:=base) T;obtain ⟨dv,fD,ou⟩:=T.Ac;refine T.qz.cA S (fun _ _ _ _ H _ _ _ hr h=>?_);obtain ⟨z,a,b,q,B,PP,m,ae,as,G,rfl,hz,hq,hA,hb,B1,B2,n1,Dy,hm,Dz,la,hE,hG,hP,An,⟨P0,A0,M0,c0,L0,Z2,Z3,R0,mL⟩,k⟩:=h
 refine ⟨_,(ao (putL 3 S.nd (av xY (aQ (TZ T) hr T.JP T.ub.kp T.JO aX (aa (pv 1) ag)) (dD (aa (pv 2) ag))))
  (ao (putL 4 S.nd (av xY (av xZ (dD (aa (dD (aa (l5 (pv 0) T.fb T.oq lj (hr.mono (by decide)) ou fD jj (aa aj ag)) ag)) ag)) (av o5 (bc df rfl T.cS cV (aa (pv 3) ag)) aj)) (dD (aa (dD (aa (l5 (pv 0) T.fb T.oq lj (hr.mono (by decide)) ou fD jj (aa aj ag)) ag)) ag))))
  (ao (putL 5 S.nd (aQ (Dj T) hr T.zR T.og.kp T.zQ aX (aa (pv 0) (aa (aQ (Di T) hr T.zT T.oh.kp T.zS aX (aa (pv 3) (aa (pv 4) ag))) ag))))
  (az (aV (aQ (Dt T) hr T.zV T.oi.kp T.zU aX (aa (pv 0) (aa (aG bC (pv 5) aj) (aa (aG bC (pv 5) aj) (aa (bc df rfl T.cS cV (aa (pv 1) ag)) ag)))))))))),?_⟩
 obtain ⟨dz,hd⟩:=id hz;have nv:=B9 hq;refine ⟨_,rfl,a,q,B,ae,m,rfl,hA,n1,by lia,hm,by lia,fun b1 H1 s1 nb hC=>?_⟩
 refine ⟨_,rfl,by show 1≤sizeLine;decide,fun l nl=>?_⟩
 obtain ⟨mQ,e1,l1,f1⟩:=id hC;have lc:mQ.length=m:=by rw [l1,pG]
 have sl:af H1 (upd H1 l (.lst [.ref b])):=aK nl;refine ⟨b1,l,mQ,_,rfl,rfl,sl _ _ e1,aB,aN (show _≤100 by simp;lia) (by decide),fun p np=>?_⟩
 have sp:=sl.trans (aK (o:=.lst (mQ++[.ref b])) np);have hT:cn B (upd (upd H1 l (.lst [.ref b])) p (.lst (mQ++[.ref b]))) q p (eS m ae as):=by
  refine cn.cat aB l1 rfl (fun i v ps h1 h2=>?_) (fun i v ps h1 h2=>?_)
  ·obtain ⟨r,e,cm⟩:=f1 i v ps h1 h2
   exact ⟨r,e,cm.mono sp⟩
  ·cases i with
   | zero=>cases h1;cases h2;exact ⟨b,rfl,hb.mono (s1.trans sp)⟩
   | succ i=>simp at h1
 have ep:upd (upd H1 l (.lst [.ref b])) p (.lst (mQ++[.ref b])) p=some (.lst (mQ++[.ref b])):=aB;generalize upd (upd H1 l (.lst [.ref b])) p (.lst (mQ++[.ref b]))=H2 at sp hT ep ⊢;have s2:=s1.trans sp;have lp:(mQ++[V.ref b]).length=m+1:=by simp [lc]
 dsimp only [aS];simp only [L2.start,cx,mZ,gu,lH,List.replicate,m5,lF,dW,dY];refine ⟨_,rfl,z,dz,_,rfl,s2 _ _ hd,ma (by decide +kernel),z,q,0,1,rfl,⟨dz,s2 _ _ hd⟩,hq,bE.of_lt (by decide) (by decide),fun h=>absurd h nv,fun _ v0 H3 s3 ho=>?_⟩
 refine ⟨by show 1≤sizeLine;decide,fun l0 Dn=>?_⟩
 refine ⟨by show 1≤sizeLine;decide,fun l2 kq=>?_⟩
 have s4:af H3 (upd (upd H3 l0 (.lst [v0])) l2 (.lst [.ref l0])):=(aK Dn).trans (aK kq);have e0:upd (upd H3 l0 (.lst [v0])) l2 (.lst [.ref l0]) l0=some (.lst [v0]):=aK kq _ _ aB;have e2:upd (upd H3 l0 (.lst [v0])) l2 (.lst [.ref l0]) l2=some (.lst [.ref l0]):=aB;have h0:=r9 (B:=B) (by lia) (ho.mono s4) hq (.inl rfl)
 generalize upd (upd H3 l0 (.lst [v0])) l2 (.lst [.ref l0])=H4 at s4 e0 e2 h0 ⊢;have Le:=s3.trans s4;refine ⟨_,rfl,p,_,rfl,.inl (.of (Le _ _ ep)),_,_,rfl,rfl,?_⟩;dsimp only;have eM:(((mQ++[V.ref b]).length:Nat):Int)-1=(m:Int):=by lia
 rw [eM];refine ⟨l2,_,_,rfl,rfl,e2,by lia,by lia,aN (show [V.ref l0].length*(m:Int).toNat≤40 by simp;lia) (by decide),fun r nr=>?_⟩
 rw [cU,show (List.replicate m [V.ref l0]).flatten=List.replicate m (V.ref l0) by
  clear An hP hE hm hC l1 lc hT lp R0 mL k
  induction m with
  | zero=>rfl
  | succ n ih=>simp [mT]]
 have s5:af H4 (upd H4 r (.lst (List.replicate m (V.ref l0)))):=aK nr;have er:upd H4 r (.lst (List.replicate m (V.ref l0))) r=some (.lst (List.replicate m (V.ref l0))):=aB;generalize upd H4 r (.lst (List.replicate m (V.ref l0)))=H5 at s5 er ⊢;have Lf:=Le.trans s5;have qG:=s2.trans Lf;refine ⟨_,rfl,z,dz,_,rfl,qG _ _ hd,ma (by decide +kernel),z,q,1,1,rfl,⟨dz,qG _ _ hd⟩,hq,bE.of_lt (by decide) (by decide),fun h=>absurd h nv,fun _ v1 H6 s6 Dw=>?_⟩
 refine ⟨by show 1≤sizeLine;decide,fun l3 Ux=>?_⟩
 refine ⟨by show 1≤sizeLine;decide,fun l4 Lg=>?_⟩
 have s7:af H6 (upd (upd H6 l3 (.lst [v1])) l4 (.lst [.ref l3])):=(aK Ux).trans (aK Lg);have e3:upd (upd H6 l3 (.lst [v1])) l4 (.lst [.ref l3]) l3=some (.lst [v1]):=aK Lg _ _ aB;have e4:upd (upd H6 l3 (.lst [v1])) l4 (.lst [.ref l3]) l4=some (.lst [.ref l3]):=aB;have h1:=r9 (B:=B) (by lia) (Dw.mono s7) hq (.inr rfl)
 generalize upd (upd H6 l3 (.lst [v1])) l4 (.lst [.ref l3])=H7 at s7 e3 e4 h1 ⊢;have DA:=s6.trans s7;refine ⟨r,l4,_,_,rfl,rfl,DA _ _ er,e4,aN (show _≤100 by simp;lia) (by decide),fun r2 Uy=>?_⟩
 have s8:af H7 (upd H7 r2 (.lst (List.replicate m (V.ref l0)++[.ref l3]))):=aK Uy;have hU:cn B (upd H7 r2 (.lst (List.replicate m (V.ref l0)++[.ref l3]))) q r2 (gY (gq m)):=by
  unfold gY gq;rw [oV];have Lh:=s5.trans (DA.trans s8);refine cn.cat aB (by simp) rfl (fun i v ps nR h2=>?_) (fun i v ps nR h2=>?_)
  ·have hi:i<m:=by have:=(aW.mp nR).1;simpa using this
   simp [hi] at nR h2;subst nR h2;exact ⟨l0,rfl,CF (p:=(0,1)) (Lh _ _ e0) (h0.mono Lh)⟩
  ·cases i with
   | zero=>cases nR;cases h2;exact ⟨l3,rfl,CF (p:=(1,1)) (s8 _ _ e3) (h1.mono s8)⟩
   | succ i=>simp at nR
 generalize upd H7 r2 (.lst (List.replicate m (V.ref l0)++[.ref l3]))=H8 at s8 hU ⊢;have DB:=Lf.trans (DA.trans s8);have Uz:=s2.trans DB;dsimp only [aS];simp only [dW,dY];have lW:(eQ (eS m ae as) (gq m)).length=m+1:=by rw [CH (by rw [sj,mw]),mw]
 have wA:=Ih (m:=m) (as:=as) rfl la;have wW:=Ir (ae:=eS m ae as) (as:=gq m) (by rw [sj,mw]) wA
 refine ⟨_,rfl,_,rfl,_,rfl,p,r2,q,B,eS m ae as,gY (gq m),ae.length,1,rfl,hT.mono DB,hU,by rw [mr,mw,sj],by rw [mw];lia,wA,H_ _,by lia,by decide,fun bs H9 s9 UA hB=>?_⟩
 refine ⟨z,bs,q,B,PP,ae.length+1,eQ (eS m ae as) (gq m),G,rfl,hz.mono (Uz.trans s9),hq,hB,B1,B2,by rw [lW];lia,by rw [lW];lia,wW,by lia,fun i hi=>?_,hG,by rw [lW];exact hP,by rw [lW];exact An,fun pt rr l Aq AA M c L last aw wC wD el hR R=>?_⟩
 ·rw [lW] at hi
  rw [CG (by rw [sj,mw]) (by rw [mw];exact hi)]
  refine Rz (hE i hi) ?_;by_cases y:i<m;·exact .inl (Ii y)
  ·have:i=m:=by lia
   subst this;exact .inr Ij
 dsimp only [aS];simp only [dW,dY];rw [lW] at hR;have nums:=hA.nums hq;have qD:∀ps∈ae,∀p∈ps,a9 q p.2:=fun ps h1 p h2=>(nums ps h1 p h2).2.1;have iB:∀p∈as,a9 q p.2:=fun p hp=>(hb.nums hq p hp).2.1;obtain ⟨T0,D0,rT⟩:=hA.rep hq rfl hm;obtain ⟨a0,F0,ra⟩:=Q1 iB la;have hL:=fq.Rw hq R0 R rfl la hm qD iB rT ra mL;have UB:=DB.trans (s9.trans wC);have Ar:=s2.trans UB;have lL:=R.red.rd.len;rw [lW] at lL;have iA:=R.red.iA;rw [lW] at iA;have As:=hR.nums hq;obtain ⟨wF,eA,lA,fA⟩:=id hA;refine ⟨_,rfl,_,rfl,pt,_,_,_,rfl,rfl,.of wD,rfl,_,rfl,pt,_,_,_,rfl,rfl,.of wD,rfl,_,rfl,a,wF,rfl,.inl (.of (Ar _ _ eA)),?_⟩;rw [lA];refine ⟨z,rr,l,q,(m+1)*(bO (m+1)*PP),ae.length+1,ae.length,aw,L,rfl,hz.mono Ar,hq,hR,iA,R.mm,el,R.len,by lia,R.red.rd.up,hL,by lia,by lia,fun r' ys UC UD wG cm dU h1 h0=>?_⟩
 refine k r' ys UC (Ar.trans UD) (none_of Ar wG) cm dU (Ru hq rfl (R.sol hq mw sj wA (Im hm qD iB) Ik (fun ps h1 p h2=>(As ps h1 p h2).2.1) hL h1 h0)) ?_;have w:=R.Iq hq (wide:=ae.length) (f:=ae.length) dU (fun p hp=>(cm.nums hq p hp).1) (by lia) (fun k' cZ=>?_) (by rw [lW];exact iA)
 ·rw [lW] at w
  exact w
 ·by_cases y:k'∈L
  ·obtain ⟨j,hj,e⟩:=gO.mp y
   have e':L.getD j 0=k':=by rw [getD_at hj,e]
   obtain ⟨ps,p1,p2⟩:=vP R.len R.mm hj (show ae.length<ae.length+1 by lia)
   refine .inl ⟨j,hj,.inl ?_,fun z0=>(As ps p1 _ p2).2.1.nz hq ⟨0,by rw [z0];simp⟩⟩
   rw [←e',h1 j hj];exact bM.refl _
  ·exact .inr (.inl (h0 k' cZ y))
theorem Li:bB ["world","table","aim","wide","told","rows","leads","answer","moves"] ["world","table","aim"] (aR zw):=bU
theorem UE(T:Txt K mg t):aT P w K mg base (dE P w) 7 t.mz t.n9 ["world","table","aim"] (I_ t.bN t.br):=by
 have S:=Li;refine T.mG.dF S (fun _ _ _ _ H _ _ _ hr h L=>?_);obtain ⟨z,a,b,q,B,PP,P2,m,ae,as,G,G2,rfl,hz,hq,hA,hb,B1,B2,n1,Dy,hm,Dz,la,hE,hG,hP,hX,UG,DC,UH,UI,kB,k1,kM⟩:=h
 refine ⟨_,(ao (di 3 S.nd (aQ (Am T) hr T.we T.mF.kp T.wc (pe L) (aa (pv 1) ag)))
  (ao (oZ (aQ (KZ T) hr T.C2 T.qx.kp T.C1 (pe L) (aa (bc df rfl T.cS cV (aa (pv 1) ag)) (aa (pv 2) ag))))
  (ao (putL 4 S.nd (aQ (Dj T) hr T.zR T.og.kp T.zQ aX (aa (pv 0) (aa (aQ (Di T) hr T.zT T.oh.kp T.zS aX (aa (pv 1) (aa (e9 (N:=["number"]) (ρ:=(fun σ=>[])) (dO [] rfl) rfl (eL (pv 2)) (fun _ _ _=>.nil) (fun _ _ _=>(dD (aa (pv 0) ag)))) ag))) ag))))
  (ao (di 5 S.nd (aG bC (pv 4) aj))
  (ao (di 6 S.nd (aG bC (pv 4) aj))
  (ao (bL (rE Gj (pv 3) (pv 6) rfl) (az (aV (gF (aa fZ (aa (aQ (Lc T) hr T.C6 T.qz.kp T.C5 aX (aa (pv 0) (aa (pv 1) (aa (pv 2) ag)))) ag))))) bS)
  (ao (putL 7 S.nd (aQ (Dt T) hr T.zV T.oi.kp T.zU aX (aa (pv 0) (aa (pv 5) (aa (pv 6) (aa (pv 3) ag))))))
  (ao (bL (bJ dN (bc df rfl T.cS cV (aa (pv 6) ag)) (pv 3)) (az (aV (gF (aa fZ (aa (pv 7) ag))))) bS)
  (ao (yo (i0:=8) (N:=["free","world","rows","leads","wide"]) (ρ:=(fun σ=>[σ[0]?.join,σ[5]?.join,σ[6]?.join,σ[3]?.join])) (dO [0,5,6,3] rfl) rfl S.nd rfl (Or.inl rfl) (gS rfl T.gs (aa (pv 3) ag)) (fun _ _ _=>(.one (rE (IJ (K:=K)) (pv 0) (pv 3) rfl))) (fun _ _ _=>(aQ (K_ T) hr T.C4 T.qy.kp T.C3 aX (aa (pv 1) (aa (pv 2) (aa (pv 3) (aa (pv 4) (aa (pv 0) ag))))))))
  (az (aV (gF (aa fZ (aa (pv 7) (aa (pv 8) ag))))))))))))))),?_⟩
 obtain ⟨wF,eA,lA,fA⟩:=id hA;obtain ⟨DD,eB,lB,fB⟩:=id hb;have nums:=hA.nums hq;have qD:∀ps∈ae,∀p∈ps,a9 q p.2:=fun ps h1 p h2=>(nums ps h1 p h2).2.1;have iB:∀p∈as,a9 q p.2:=fun p hp=>(hb.nums hq p hp).2.1;have lW:(eQ ae as).length=ae.length:=CH la;have wW:=Ir (ae:=ae) (as:=as) la hm;refine ⟨_,rfl,a,q,B,ae,m,rfl,hA,n1,by lia,hm,fun H1 s1=>?_⟩
 dsimp only [aS];simp only [L2.start,cx,mZ,gu,lH,List.replicate,m5,lF,dW,dY];refine ⟨_,rfl,a,wF,rfl,.inl (.of (s1 _ _ eA)),?_⟩;rw [lA];refine ⟨_,rfl,ae.length,b,DD,rfl,s1 _ _ eB,fun ne=>absurd (by lia) ne,fun _=>?_⟩
 dsimp only;refine bK (fM ?_);refine ⟨_,rfl,_,rfl,e_ (xs:=DD) (fun R h=>⟨_,rfl,b,rfl,⟨_,.of (s1 _ _ eB)⟩,h _ _ (af.refl _) (fL (.of (s1 _ _ eB)))⟩) (by rw [lB,la];exact b_ (by lia)) (fun D i y Hx=>∃x:Addr,y=.ref x∧x≠D∧b6 B Hx q x [as.getD i o1]) (fun D i y Ha Hb ys ⟨x,h1,h2,ws,e1,e2,e3⟩ e f=>⟨x,h1,h2,ws,f _ _ h2 e1,e2,fun j v p x y=>(e3 j v p x y).cP e f⟩) ?_ ?_⟩
 ·intro D i v hi Hc R sc ⟨zs,eD⟩ kc
  have i1:i<DD.length:=(aW.mp hi).1;have i2:i<as.length:=by lia
  have hv:=fB i v as[i] hi (by simp [i2])
  refine ⟨_,rfl,by show 1≤sizeLine;decide,fun x nx=>?_⟩
  have sx:af Hc (upd Hc x (.lst [v])):=aK nx;refine kc _ _ sx ⟨x,rfl,(fun e=>by rw [e,eD] at nx;cases nx),CF aB ?_⟩
  rw [getD_at i2];exact ((hv.mono s1).mono sc).mono sx
 intro D ws H2 nD s2 ko UJ eD;have Lj:=s1.trans s2;have hU:cn B H2 q D (gY as):=⟨ws,eD,by rw [ko,lB,mr],fun i v ps h1 h2=>by
  obtain ⟨x,e1,_,e3⟩:=UJ i v h1;have i1:i<ws.length:=(aW.mp h1).1;have i2:i<as.length:=by lia
  unfold gY at h2;rw [bo] at h2;simp [i2] at h2;subst h2;rw [getD_at i2] at e3;exact ⟨x,e1,e3⟩⟩
 refine ⟨a,D,q,B,ae,gY as,m,1,rfl,hA.mono Lj,hU,by rw [mr];lia,by lia,hm,H_ _,by lia,by decide,fun bs H3 s3 UA hB=>?_⟩
 have ox:=Lj.trans s3;refine ⟨z,bs,q,B,PP,m+1,eQ ae as,G,rfl,hz.mono ox,hq,hB,B1,B2,by rw [lW];lia,by rw [lW];lia,wW,by lia,fun i hi=>hE i (by lia),hG,by rw [lW];exact hP,by rw [lW];exact eK hX (by decide +kernel),fun pt rr l H4 AA M c LL last aw s4 wD el hR R=>?_⟩
 rw [lW] at hR;have oy:=ox.trans s4;dsimp only [aS];simp only [dW,dY];refine ⟨_,rfl,pt,_,_,_,rfl,rfl,.of wD,rfl,?_⟩;dsimp only [aS];simp only [dW,dY];refine ⟨_,rfl,pt,_,_,_,rfl,rfl,.of wD,rfl,?_⟩;dsimp only [aS];simp only [dW,dY];refine ⟨_,rfl,_,rfl,l,cf LL,rfl,.inl (.of el),rfl,Iu,_,rfl,?_⟩;have DE:=hz.mono oy;refine cG (fun y=>?_) (fun y=>?_)
 ·have mL:m∈LL:=by rw [CI] at y;simpa using y
  refine ⟨_,rfl,_,rfl,_,rfl,z,a,b,q,B,P2,m,ae,as,G2,rfl,DE,hq,hA.mono oy,hb.mono oy,B1,B2,n1,Dy,hm,Dz,la,UG,DC,UH,UI,⟨PP,AA,M,c,LL,last,aw,R,mL⟩,fun r ys H5 s5 nr cm dU UK Z4=>⟨by show 2≤sizeLine;decide,fun p np=>?_⟩⟩
  have sp:af H5 (upd H5 p (.tup [.str (Str.ofString "barred"),.ref r])):=aK np;exact kB p r ys _ (oy.trans (s5.trans sp)) (none_of oy nr) aB (cm.mono sp) dU UK
 have nL:m∉LL:=by rw [CI] at y;simpa using y
 have hL:∀x∈LL,x<m:=fun x hx=>by have h1:=R.red.rd.lt x hx;have h2:x≠m:=fun e=>nL (e▸hx);lia
 have lL:=R.red.rd.len;rw [lW] at lL;have iA:=R.red.iA;rw [lW] at iA;have As:=hR.nums hq;have pH:∀ps∈aw,∀p∈ps,a9 q p.2:=fun ps h1 p h2=>(As ps h1 p h2).2.1;have LP:=R.Rq hq rfl lW hm (fun i k hi hk=>yJ rfl la hm hi hk) (fP m) qD hL;dsimp only [f9];refine ⟨_,rfl,_,rfl,_,rfl,_,rfl,z,rr,l,q,ae.length*(bO ae.length*PP),m+1,m,aw,LL,rfl,DE,hq,hR,iA,R.mm,el,R.len,by lia,R.red.rd.up,hL,by lia,by lia,fun r xs H5 s5 nr cm Lk h1 h0=>?_⟩
 have sol:=R.sol hq rfl la hm qD iB pH hL h1 h0;have qG:=oy.trans s5;dsimp only [aS];simp only [dW,dY];refine ⟨_,rfl,l,cf LL,rfl,.inl (.of (s5 _ _ el)),_,rfl,rfl,_,rfl,?_⟩;rw [RB];by_cases full:LL.length=m
 ·rw [kU,cN (by lia)]
  refine dh ⟨_,rfl,by show 2≤sizeLine;decide,fun p np=>?_⟩
  have sp:af H5 (upd H5 p (.tup [.str (Str.ofString "one"),.ref r])):=aK np;exact k1 p r xs LL _ (qG.trans sp) (none_of oy nr) aB (cm.mono sp) Lk sol LP full
 rw [kU,dI (by lia)]
 refine bW ?_;dsimp only [f9];refine bK (fM (Rk (xs:=(List.range m).map fun i:Nat=>V.int (0+(i:Int))) (by rw [aD,fQ]) (fun i=>!decide (i∈LL)) (fun R h=>⟨_,rfl,(m:Int),rfl,by lia,by lia,h _ _ (af.refl _) (by rw [cU];exact k4)⟩) (b_ (by lia)) (fun D i y Hx=>∃(x:Addr) (ps:a8),y=.ref x∧x≠D∧H5 x=none∧b6 (ae.length*(bO ae.length*PP)) Hx q x ps∧ps.length=m∧ps.getD i o1=(1,1)∧(∀j,j<LL.length→bM q (ps.getD (LL.getD j 0) o1) (-(atT aw j i).1,(atT aw j i).2))∧(∀k,k<m→k∉LL→k≠i→ps.getD k o1=(0,1))) (fun D i y Ha Hb ys ⟨x,ps,h1,h2,h5,⟨ws,e1,e2,e3⟩,h4⟩ e f=>⟨x,ps,h1,h2,h5,⟨ws,f _ _ h2 e1,e2,fun j v p x y=>(e3 j v p x y).cP e f⟩,h4⟩) ?_ ?_ ?_))
 ·intro i x hx Hc R' sc h
  obtain ⟨hi,rfl⟩:=k7 hx;refine ⟨_,rfl,_,rfl,l,cf LL,rfl,.inl (.of (sc _ _ (s5 _ _ el))),rfl,Iu,_,rfl,?_⟩;rw [aq rfl,CI];exact h
 ·intro D i x hx hf Hc R' sc ⟨zs,eD⟩ kc
  obtain ⟨hi,rfl⟩:=k7 hx;have ni:i∉LL:=by simpa using hf
  have DF:=s5.trans sc;exact ⟨_,rfl,_,rfl,_,rfl,_,rfl,_,rfl,z,rr,l,q,ae.length*(bO ae.length*PP),m+1,m,i,aw,LL,rfl,DE.mono DF,hq,hR.mono DF,iA,hX,R.mm,DF _ _ el,R.len,by lia,R.red.rd.up,hL,by lia,by lia,hi,ni,fun r' ps H6 s6 wG UL UM g1 g2 g3=>kc _ _ s6 ⟨r',ps,rfl,(fun e=>by rw [e,eD] at wG;cases wG),none_of sc wG,UL,UM,g1,g2,g3⟩⟩
 ·intro D ws H6 DG s6 ko Ll Lm
  have ko:ws.length=(cu m LL).length:=ko;have UN:(cu m LL).Pairwise (· < ·):=List.Pairwise.filter _ AW;dsimp only [aS];simp only [dW,dY];refine ⟨_,rfl,_,rfl,by show 3≤sizeLine;decide,fun p np=>?_⟩
  have sp:af H6 (upd H6 p (.tup [.str (Str.ofString "many"),.ref r,.ref D])):=aK np;obtain ⟨cR,lv,hv⟩:=pick (R:=fun(j:Nat) (y:V) (ps:a8)=>∃x:Addr,y=.ref x∧b6 (ae.length*(bO ae.length*PP)) H6 q x ps∧ps.length=m∧ps.getD ((cu m LL).getD j 0) o1=(1,1)∧(∀i,i<LL.length→bM q (ps.getD (LL.getD i 0) o1) (-(atT aw i ((cu m LL).getD j 0)).1,(atT aw i ((cu m LL).getD j 0)).2))∧(∀k,k<m→k∉LL→k≠(cu m LL).getD j 0→ps.getD k o1=(0,1))) (fun j y hy=>by
   have j1:j<ws.length:=(aW.mp hy).1;have j2:j<(cu m LL).length:=by rw [←ko];exact j1
   obtain ⟨x,ps,h1,_,_,h3⟩:=Ll j y ((cu m LL).getD j 0) hy (by rw [getD_at j2];exact bw j2)
   exact ⟨ps,x,h1,h3⟩)
  have lf:cR.length=(cu m LL).length:=by rw [lv,ko]
  have DH:∀j,j<cR.length→(cu m LL).getD j 0<m∧(cu m LL).getD j 0∉LL:=fun j hj=>vR.mp (by rw [getD_at (by lia)];exact a7 _)
  have UO:∀i j,i<cR.length→j<cR.length→i≠j→(cu m LL).getD j 0≠(cu m LL).getD i 0:=fun i j hi hj ne e=>ne (Cz UN (by rw [←lf];exact hj) (by rw [←lf];exact hi) e).symm
  have row:∀j,(hj:j<cR.length)→∃x:Addr,b6 (ae.length*(bO ae.length*PP)) H6 q x cR[j]∧cR[j].length=m∧cR[j].getD ((cu m LL).getD j 0) o1=(1,1)∧(∀i,i<LL.length→bM q (cR[j].getD (LL.getD i 0) o1) (-(atT aw i ((cu m LL).getD j 0)).1,(atT aw i ((cu m LL).getD j 0)).2))∧(∀k,k<m→k∉LL→k≠(cu m LL).getD j 0→cR[j].getD k o1=(0,1)):=fun j hj=>by
   have j1:j<ws.length:=by lia
   obtain ⟨x,_,h3⟩:=hv j ws[j] cR[j] (by simp [j1]) (by simp [hj])
   exact ⟨x,h3⟩
  obtain ⟨wr,Ln,_,_⟩:=id cm;have UP:yS H r D ws:=⟨none_of qG DG,(fun e=>by rw [e,Ln] at DG;cases DG),fun v hv=>by
   obtain ⟨j,hj⟩:=m4 hv;have j2:j<(cu m LL).length:=by rw [←ko];exact (aW.mp hj).1
   obtain ⟨x,ps,h1,_,h5,_⟩:=Ll j v ((cu m LL).getD j 0) hj (by rw [getD_at j2];exact bw j2)
   exact ⟨x,h1,none_of qG h5,fun e=>by rw [e,Ln] at h5;cases h5⟩⟩
  refine kM p r D ws xs LL cR _ (qG.trans (s6.trans sp)) (none_of oy nr) aB ((cm.mono s6).mono sp) Lk sol LP full (sp _ _ Lm) UP (cn.mono ⟨ws,Lm,lv.symm,fun j v ps h1 h2=>?_⟩ sp) ⟨lf,fun ps hp=>?_,fun ps hp=>?_,fun j hj=>?_,fun j hj=>?_,fun i j hi hj ne=>?_⟩
  ·obtain ⟨x,e1,e2,_⟩:=hv j v ps h1 h2
   exact ⟨x,e1,e2⟩
  ·obtain ⟨j,hj,e⟩:=gO.mp hp
   obtain ⟨x,_,h4,_⟩:=row j hj;rw [←e];exact h4
  ·obtain ⟨j,hj,e⟩:=gO.mp hp
   obtain ⟨x,h3,h4,h5,h6,h7⟩:=row j hj;rw [←e];have f1:=DH j hj;exact R.CD hq rfl lW hm (fun i k hi hk=>yJ rfl la hm hi hk) (fP m) qD pH hL f1.1 f1.2 (fun k hk=>(h3.nums hq _ (by rw [getD_at (by lia)];exact a7 _)).2.1) h5 h6 h7
  ·obtain ⟨x,h3,h4,h5,h6,h7⟩:=row j hj
   have f1:=DH j hj;rw [getD_at hj];have w:=R.Iq hq (wide:=m) (f:=(cu m LL).getD j 0) h4 (fun p hp=>(h3.nums hq p hp).1) (by lia) (fun k' cZ=>?_) (by rw [lW];exact iA)
   ·rw [lW] at w
    exact w
   ·by_cases y:k'∈LL
    ·obtain ⟨i,hi,e⟩:=gO.mp y
     have e':LL.getD i 0=k':=by rw [getD_at hi,e]
     obtain ⟨ps,p1,p2⟩:=vP R.len R.mm hi (show (cu m LL).getD j 0<m+1 by lia)
     refine .inl ⟨i,hi,.inr ?_,fun z0=>(pH ps p1 _ p2).nz hq ⟨0,by rw [z0];simp⟩⟩
     rw [←e'];exact h6 i hi
    ·by_cases y2:k'=(cu m LL).getD j 0
     ·rw [y2]
      exact .inr (.inr h5)
     ·exact .inr (.inl (h7 k' cZ y y2))
  ·obtain ⟨x,h3,h4,h5,h6,h7⟩:=row j hj
   unfold atT;rw [getD_at hj];exact h5
  ·obtain ⟨x,h3,h4,h5,h6,h7⟩:=row i hi
   unfold atT;rw [getD_at hi];have f1:=DH j hj;exact h7 _ f1.1 f1.2 (UO i j hi hj ne)
theorem UQ(T:Txt K mg t):aT P w K mg base (dE P w) 7 t.mz t.n9 ["world","table","aim"] (Ja t.bN t.br):=by
 have S:=Li;refine T.mG.dF S (fun _ _ _ _ H _ _ _ hr h L=>?_);obtain ⟨z,a,b,q,B,m,ae,ws,rfl,hA,n1,Dy,hm,Dz,eB,ne,kE⟩:=h
 refine ⟨_,(ao (di 3 S.nd (aQ (Am T) hr T.we T.mF.kp T.wc (pe L) (aa (pv 1) ag)))
  (ao (oZ (aQ (KZ T) hr T.C2 T.qx.kp T.C1 (pe L) (aa (bc df rfl T.cS cV (aa (pv 1) ag)) (aa (pv 2) ag))))
  (ao (putL 4 S.nd (aQ (Dj T) hr T.zR T.og.kp T.zQ aX (aa (pv 0) (aa (aQ (Di T) hr T.zT T.oh.kp T.zS aX (aa (pv 1) (aa (e9 (N:=["number"]) (ρ:=(fun σ=>[])) (dO [] rfl) rfl (eL (pv 2)) (fun _ _ _=>.nil) (fun _ _ _=>(dD (aa (pv 0) ag)))) ag))) ag))))
  (ao (di 5 S.nd (aG bC (pv 4) aj))
  (ao (di 6 S.nd (aG bC (pv 4) aj))
  (ao (bL (rE Gj (pv 3) (pv 6) rfl) (az (aV (gF (aa fZ (aa (aQ (Lc T) hr T.C6 T.qz.kp T.C5 aX (aa (pv 0) (aa (pv 1) (aa (pv 2) ag)))) ag))))) bS)
  (ao (putL 7 S.nd (aQ (Dt T) hr T.zV T.oi.kp T.zU aX (aa (pv 0) (aa (pv 5) (aa (pv 6) (aa (pv 3) ag))))))
  (ao (bL (bJ dN (bc df rfl T.cS cV (aa (pv 6) ag)) (pv 3)) (az (aV (gF (aa fZ (aa (pv 7) ag))))) bS)
  (ao (yo (i0:=8) (N:=["free","world","rows","leads","wide"]) (ρ:=(fun σ=>[σ[0]?.join,σ[5]?.join,σ[6]?.join,σ[3]?.join])) (dO [0,5,6,3] rfl) rfl S.nd rfl (Or.inl rfl) (gS rfl T.gs (aa (pv 3) ag)) (fun _ _ _=>(.one (rE (IJ (K:=K)) (pv 0) (pv 3) rfl))) (fun _ _ _=>(aQ (K_ T) hr T.C4 T.qy.kp T.C3 aX (aa (pv 1) (aa (pv 2) (aa (pv 3) (aa (pv 4) (aa (pv 0) ag))))))))
  (az (aV (gF (aa fZ (aa (pv 7) (aa (pv 8) ag))))))))))))))),?_⟩
 obtain ⟨wF,eA,lA,fA⟩:=id hA;refine ⟨_,rfl,a,q,B,ae,m,rfl,hA,n1,by lia,hm,fun H1 s1=>?_⟩
 dsimp only [aS];simp only [L2.start,cx,mZ,gu,lH,List.replicate,m5,lF,dW,dY];refine ⟨_,rfl,a,wF,rfl,.inl (.of (s1 _ _ eA)),?_⟩;rw [lA];exact ⟨_,rfl,ae.length,b,ws,rfl,s1 _ _ eB,fun _=>kE _ s1,fun e=>absurd e ne⟩
theorem DI(T:Txt K mg t):aT P w K mg base (dE P w) 7 t.mz t.n9 ["world","table","aim"] (Jb t.bN t.br):=aT.imp (aT.or (UE T) (UQ T)) fun _ _ _ _ h=>Sd h
theorem UR:bB ["script","k","mixed","cell"] ["script","k"] (aR zx):=bU
theorem oz(T:Txt K mg t):aT P w K mg base bV 1 t.qe t.tu ["script","k"] (PF K):=by
 have S:=UR;refine T.i_.cA S (fun _ _ _ _ H _ _ _ hr h=>?_);obtain ⟨a,ns,j,rfl,hS,h0,h1,k⟩:=h
 refine ⟨_,(ao (bL (bJ rC (pv 1) (bc df rfl T.cS cV (aa (pv 0) ag))) (az (aV (av cp (aG dc (pv 0) (pv 1)) (av M7 aj aj)))) bS)
  (ao (putL 2 S.nd (av iN aj (av ik (pv 1) aj)))
  (ao (jO gQ rfl (eL (NU N3 (pv 0) NR (NS aj))) (e7 (i:=3) S.nd rfl (Or.inl rfl))
   (az (putL 2 S.nd (av cp (av ik (av ik (av iN (pv 2) aj) (av cp (pv 3) aj)) aj) aj))))
  (ao (putL 2 S.nd (av cp (av iN (pv 2) (pv 2)) aj))
  (ao (putL 2 S.nd (av cp (av iN (av ik (pv 2) (av iN (av iN aj (pv 1)) (pv 1))) aj) aj))
  (az (aV (av FG (av cp (av iN (pv 2) (pv 2)) aj) aj)))))))),?_⟩
 refine ⟨_,rfl,_,rfl,a,_,rfl,.inl hS,_,_,rfl,rfl,_,rfl,cG (fun hj=>?_) (fun hj=>?_)⟩
 ·have hj:j<(ns.map V.int).length:=hJ hj
  rw [aD] at hj;have hz:eO (ns.map V.int) j=some (.int (ns.getD j.toNat 0)):=by
   have e:j=(j.toNat:Int):=by lia
   rw [e];refine e8 ?_;rw [bo,bw (by lia),cU,bq,bw (by lia)]
   rfl
  refine ⟨_,rfl,_,rfl,a,_,j,_,rfl,rfl,hS,hz,_,_,rfl,rfl,⟨by decide,by decide,by decide⟩,_,_,rfl,rfl,(by show (0:Int)<10 ^ 40;decide),?_⟩
  have z:=k H (af.refl H);unfold iW at z;rw [aq hj] at z;exact z
 ·have hj:¬j<ns.length:=fun z=>hj (cN (by rw [aD];exact z))
  refine ⟨_,rfl,_,_,rfl,rfl,_,_,rfl,rfl,.inl ⟨by decide,by decide⟩,?_⟩
  refine ⟨_,rfl,_,rfl,a,_,rfl,hS,fun c nc=>⟨c,rfl,⟨_,.of aB⟩,?_⟩⟩
  refine xI (K:=K) (a:=c) (xs:=(ns.take 7).map V.int) (fun i σ H'=>H'=upd H c (.lst (l7 (ns.map V.int) none (some 7)))∧∃(m:Int) (v:Option V),σ=[some (.ref a),some (.int j),some (.int m),v]∧m=((ns.take 7).take i).foldl GY (1000003*(j+1))∧-(2 ^ 64)<m∧m<2 ^ 64)
   ⟨rfl,_,_,rfl,rfl,by lia,by lia⟩ ?_ ?_ ?_
  ·rintro i σ H' _ ⟨rfl,_⟩
   have e:l7 (ns.map V.int) none (some 7)=(ns.take 7).map V.int:=by have:=PH (ns.map V.int) 7;rw [←List.map_take] at this;exact this
   rw [e];exact .of aB
  ·rintro i y σ H' hi ⟨rfl,m,v,rfl,hm,_,_⟩
   rw [bo] at hi;cases ez:(ns.take 7)[i]? with
   | none=>rw [ez] at hi;cases hi
   | some z=>
    rw [ez] at hi;cases hi;refine ⟨_,rfl,_,_,rfl,rfl,.inr ⟨by decide,by decide⟩,_,rfl,_,_,rfl,rfl,(by show (0:Int)<998244353;decide),_,_,rfl,rfl,_,_,rfl,rfl,_,_,rfl,rfl,(by show (0:Int)<1000000007;decide),rfl,_,_,rfl,?_,?_,?_⟩
    ·rw [List.take_succ,ez,Option.toList_some,List.foldl_append,←hm]
     rfl
    ·have:=gy (m*69621+z % 998244353+1) (show (1000000007:Int)≠0 by decide)
     show -(2 ^ 64)<(m*69621+z % 998244353+1) % 1000000007;lia
    ·have:=gN (m*69621+z % 998244353+1) (show (0:Int)<1000000007 by decide)
     show (m*69621+z % 998244353+1) % 1000000007<2 ^ 64;lia
  ·rintro σ H' ⟨rfl,m,v,rfl,hm,US,UT⟩
   rw [aD,uP] at hm;refine ⟨_,rfl,_,rfl,_,_,rfl,rfl,.inl ⟨US,UT⟩,_,_,rfl,rfl,(by show (0:Int)<1000000007;decide),?_⟩
   refine ⟨_,rfl,_,rfl,_,_,rfl,rfl,.inl ⟨by decide,by decide⟩,_,rfl,_,_,rfl,rfl,.inr ⟨by lia,by lia⟩,_,_,rfl,rfl,_,_,rfl,rfl,.inr ⟨by decide,by decide⟩,_,_,rfl,rfl,(by show (0:Int)<2147483647;decide),?_⟩
   have b0:=gy ((m*m % 1000000007+7919*j*j)*48271) (show (2147483647:Int)≠0 by decide)
   have b1:=gN ((m*m % 1000000007+7919*j*j)*48271) (show (0:Int)<2147483647 by decide)
   refine ⟨_,rfl,_,rfl,_,_,rfl,rfl,.inl ⟨?_,?_⟩,_,_,rfl,rfl,(by show (0:Int)<2147483647;decide),_,_,rfl,rfl,⟨by decide,by decide⟩,?_⟩
   ·show -(2 ^ 64)<(m*m % 1000000007+7919*j*j)*48271 % 2147483647
    lia
   ·show (m*m % 1000000007+7919*j*j)*48271 % 2147483647<2 ^ 64
    lia
   ·have z:=k (upd H c (.lst (l7 (ns.map V.int) none (some 7)))) (aK nc)
    unfold iW yl at z;rw [ar hj,←hm] at z;exact z
theorem UU:bB ["top","bottom","one","other"] ["top","bottom"] (aR zy):=bU
theorem UW(T:Txt K mg t):aT P w K mg base bV 1 t.qf t.tE ["top","bottom"] Q_:=by
 have S:=UU;refine T.ug.cA S (fun _ _ _ _ H _ Q _ hr h=>?_);obtain ⟨a,b,rfl,hb,mb,k⟩:=h
 refine ⟨_,(ao (putL 2 S.nd (bc xP rfl T.wo boot_abs (aa (pv 0) ag)))
  (ao (putL 3 S.nd (bc xP rfl T.wo boot_abs (aa (pv 1) ag)))
  (ao (xH gQ (FT (pv 3) (fun _=>rfl)) (az (ML (i:=2) (j:=3) rfl S.nd rfl rfl (by decide) rfl rfl (aa (pv 3) (aa (av cp (pv 2) (pv 3)) ag)) rfl)))
  (ao (bL (bJ rC (pv 1) aj) (az (putL 2 S.nd (av o5 aj (pv 2)))) bS)
  (az (aV (gF (aa (av HX (pv 0) (pv 2)) (aa (av HX (pv 1) (pv 2)) ag))))))))),?_⟩
 have ok:=Q9 (a:=a) hb mb;refine ⟨_,rfl,a,rfl,_,rfl,b,rfl,fun m σ H'=>H'=H∧∃(x y:Nat),σ=[some (.int a),some (.int b),some (.int (x:Int)),some (.int (y:Int))]∧m=y∧Nat.gcd x y=Int.gcd a b,⟨b.natAbs,rfl,a.natAbs,b.natAbs,?_,rfl,rfl⟩,?_⟩
 ·show [some (V.int a),some (V.int b),some (V.int (if a<0 then -a else a)),some (V.int (if b<0 then -b else b))]=_
  rw [yk,yk]
 ·rintro m σ H' ⟨rfl,x,y,rfl,em,hg⟩
  refine ⟨_,rfl,_,rfl,cG (fun hy=>?_) (fun hy=>?_)⟩
  ·have hy:y≠0:=fun z=>by subst z;cases hy
   refine ⟨fun σ' H2=>H2=H'∧σ'=[some (.int a),some (.int b),some (.int (y:Int)),some (.int (((x % y:Nat)):Int))],?_,?_⟩
   ·rintro σ' H2 ⟨rfl,rfl⟩
    exact ⟨x % y,by rw [em];exact Nat.mod_lt _ (by lia),rfl,y,x % y,rfl,rfl,by rw [GW];exact hg⟩
   ·exact ⟨_,rfl,_,rfl,_,rfl,_,_,rfl,rfl,(show (0:Int)<y by lia),_,_,rfl,rfl,rfl⟩
  ·have y0:y=0:=by
    by_cases z:y=0;·exact z
    ·exact absurd (by simpa using z) hy
   subst y0;rw [Nat.gcd_zero_right] at hg;have Lo:∀(g:Int),g=lowG a b→∀(p:Addr),H' p=none→Q (.ref p) (upd H' p (.tup [.int (a.fdiv g),.int (b.fdiv g)])):=fun g e p hp=>by rw [e];exact k p _ (aK hp) aB
   refine ⟨_,rfl,_,_,rfl,rfl,_,rfl,cG (fun hn=>?_) (fun hn=>?_)⟩
   ·have hn:b<0:=hJ hn
    have eg:0-(x:Int)=lowG a b:=by unfold lowG;rw [aq hn,hg]
    have wH:yH 0 (0-(x:Int)):=by rw [eg];exact ok
    exact ⟨_,rfl,_,_,rfl,rfl,_,rfl,_,rfl,_,_,rfl,rfl,wH,_,rfl,_,rfl,_,_,rfl,rfl,wH,by show 2≤sizeLine;decide,Lo _ eg⟩
   ·have hn:¬b<0:=fun z=>hn (cN z)
    have eg:(x:Int)=lowG a b:=by unfold lowG;rw [ar hn,hg]
    have wH:yH 0 (x:Int):=by rw [eg];exact ok
    exact ⟨_,rfl,_,rfl,_,_,rfl,rfl,wH,_,rfl,_,rfl,_,_,rfl,rfl,wH,by show 2≤sizeLine;decide,Lo _ eg⟩
theorem UX:bB ["thing"] ["thing"] (aR zA):=bU
theorem DJ(T:Txt K mg t):aT P w K mg base bV 1 t.qg t.tF ["thing"] GX:=by
 have S:=UX;refine T.oj.cA S (fun _ _ _ _ H _ Q _ hr h=>?_);obtain ⟨v,rfl,ha,k⟩:=h;refine ⟨_,(az (aV (fS (bc (fJ (K:=K)) rfl T.fz boot_isinstance (aa (pv 0) (aa (jM (v:=.ty "int") rfl T.Df boot_int rfl) ag))) (kO (lQ (bc (fJ (K:=K)) rfl T.fz boot_isinstance (aa (pv 0) (aa (jM (v:=.ty "bool") rfl T.Dg boot_bool rfl) ag)))))))),?_⟩;obtain ⟨Ty,ty,k1,k2,_⟩:=ha.vd (K:=K);refine ⟨_,rfl,_,_,_,_,rfl,rfl,ty,k1,_,rfl,cG (fun h1=>?_) (fun h1=>?_)⟩
 ·refine ⟨_,rfl,_,_,_,_,rfl,rfl,ty,k2,_,rfl,?_⟩
  have e:(!l_ v)=iV v:=by
   cases h2:l_ v with
   | true=>rw [GV h2];rfl
   | false=>rw [h2,Bool.or_false] at h1;rw [h1];rfl
  show Q (.bl (!l_ v)) H;rw [e];exact k
 ·have e:iV v=false:=by
   cases h2:iV v with
   | true=>rw [h2] at h1;exact absurd rfl h1
   | false=>rfl
  rw [e] at k;exact k
theorem UY:bB ["p","thing"] ["p","thing"] (aR zB):=bU
theorem UZ(T:Txt K mg t):aT P w K mg base bV 2 t.qh t.tG ["p","thing"] PD:=by
 have S:=UY;refine T.uh.cA S (fun _ _ _ _ H _ _ _ hr h=>?_);obtain ⟨q,v,rfl,hv,k⟩:=h;have hu:=hr.NA
 refine ⟨_,(ao (bL (FT (pv 0) (fun _=>rfl)) (az (aV (fS (aQ (DJ T) hr T.zZ T.oj.kp T.zY aX (aa (pv 1) ag)) (kO (FP xM rC aj (pv 1) (pv 0)))))) bS)
  (ao (bL (PW.pt (pw_or (iK (gC (bc (fJ (K:=K)) rfl T.fz boot_isinstance (aa (pv 1) (aa (jM (v:=.ty "tuple") rfl T.qC boot_tuple rfl) ag))))) (pw_or1 (bJ jQ (bc df rfl T.cS cV (aa (pv 1) ag)) aj)))) (az (aV gR)) bS)
  (ao (bL (PW.pt (pw_or (iK (gC (aQ (DJ T) hr T.zZ T.oj.kp T.zY aX (aa (aG bC (pv 1) aj) ag)))) (pw_or (iK (gC (aQ (DJ T) hr T.zZ T.oj.kp T.zY aX (aa (aG bC (pv 1) aj) ag)))) (pw_or1 (bJ rC (aG bC (pv 1) aj) aj))))) (az (aV gR)) bS)
  (az (aV (jR (Pf hu) (aQ (UW T) hr T.JZ T.ug.kp T.JY aX (aa (aG bC (pv 1) aj) (aa (aG bC (pv 1) aj) ag))) (pv 1))))))),?_⟩
 have k0:=k H (af.refl H);refine ⟨_,rfl,_,rfl,cG (fun hq=>?_) (fun hq=>?_)⟩
 ·have hq:q≠0:=by simpa using hq
  unfold vi at k0;rw [ar hq] at k0;refine ⟨_,rfl,v,rfl,hv.any,_,rfl,cG (fun h1=>?_) (fun h1=>?_)⟩
  ·cases v with
   | int i=>
    refine ⟨_,rfl,_,_,rfl,rfl,_,rfl,cG (fun h2=>?_) (fun h2=>?_)⟩
    ·have e:yj q (.int i)=decide (i<q):=by show (decide (0≤i) && decide (i<q))=_;rw [h2,Bool.true_and]
     rw [e] at k0;exact ⟨_,rfl,_,_,rfl,rfl,k0⟩
    ·have e:yj q (.int i)=false:=by
      show (decide (0≤i) && decide (i<q))=_;have h2:decide (0≤i)=false:=by simpa using h2
      rw [h2,Bool.false_and]
     rw [e] at k0;exact k0
   | _=>cases h1
  ·have e:yj q v=false:=by cases v <;> first | rfl | exact absurd rfl h1
   rw [e] at k0;exact k0
 ·have hq:q=0:=by simpa using hq
  unfold vi at k0 k;rw [aq hq] at k0;obtain ⟨Ty,ty,_,_,k3⟩:=hv.any.vd (K:=K);refine ⟨_,rfl,_,_,_,_,rfl,rfl,ty,k3,_,rfl,cG (fun h1=>?_) (fun h1=>?_)⟩
  ·have h1:kW H v=false:=by simpa using h1
   rw [Pp h1] at k0;exact dh k0
  ·have h1:kW H v=true:=by simpa using h1
   obtain ⟨a,xs,rfl,e⟩:∃a xs,v=.ref a∧H a=some (.tup xs):=by
    cases hv.any with
    | @tup a xs e=>exact ⟨a,xs,rfl,e⟩
    | @lst a xs e=>unfold kW at h1;dsimp only at h1;rw [e] at h1;cases h1
    | @ph a e=>unfold kW at h1;dsimp only at h1;rw [e] at h1;cases h1
    | _=>cases h1
   refine ⟨_,rfl,a,xs,rfl,.inr (.of e),rfl,_,rfl,cG (fun h2=>?_) (fun h2=>?_)⟩
   ·have h2:xs.length≠2:=fun z=>by rw [z] at h2;cases h2
    rw [Po e h2] at k0;exact k0
   ·have h2:xs.length=2:=by
     by_cases z:xs.length=2;·exact z
     ·refine absurd ?_ h2
      have z':¬V.int (xs.length:Int)=V.int 2:=fun y=>z (by have:=V.int.inj y;lia)
      rw [dI z'];rfl
    match xs,h2,e,k0 with
    | [x,y],_,e,k0=>
     obtain ⟨ax,ay,my⟩:=hv.two a x y rfl e;rw [BS e] at k0;refine ⟨_,rfl,a,_,0,x,rfl,rfl,.of e,rfl,x,rfl,ax,_,rfl,cG (fun h3=>?_) (fun h3=>?_)⟩
     ·have h3:iV x=false:=by simpa using h3
      have e1:vh x y=false:=by cases x <;> first | rfl | cases h3
      rw [e1] at k0;exact dh k0
     ·have h3:iV x=true:=by simpa using h3
      refine ⟨_,rfl,a,_,1,y,rfl,rfl,.of e,rfl,y,rfl,ay,_,rfl,cG (fun h4=>?_) (fun h4=>?_)⟩
      ·have h4:iV y=false:=by simpa using h4
       have e1:vh x y=false:=by cases y <;> first | (cases x <;> rfl) | cases h4
       rw [e1] at k0;exact dh k0
      ·have h4:iV y=true:=by simpa using h4
       cases x with
       | int i=>
        cases y with
        | int j=>
         refine ⟨_,rfl,a,_,1,.int j,rfl,rfl,.of e,rfl,_,_,rfl,rfl,_,rfl,cG (fun h5=>?_) (fun h5=>?_)⟩
         ·have h5:j<1:=hJ h5
          have e1:vh (.int i) (.int j)=false:=by show (decide (1≤j) && decide (Int.gcd i j=1))=_;rw [dI (by lia)];rfl
          rw [e1] at k0;exact k0
         ·have h5:¬j<1:=fun z=>h5 (cN z)
          refine ⟨_,rfl,a,_,0,.int i,rfl,rfl,.of e,rfl,_,rfl,a,_,1,.int j,rfl,rfl,.of e,rfl,i,j,rfl,by lia,(my j rfl).wide,fun p H2 s2 hp=>?_⟩
          refine ⟨_,rfl,p,a,_,_,rfl,rfl,.of hp,.of (s2 _ _ e),rfl,rfl,?_⟩;have z:=k H2 s2;rw [aq hq,BS e] at z;have e1:vh (.int i) (.int j)=jV [.int (i.fdiv (lowG i j)),.int (j.fdiv (lowG i j))] [.int i,.int j]:=by show (decide (1≤j) && decide (Int.gcd i j=1))=((i.fdiv (lowG i j) == i) && ((j.fdiv (lowG i j) == j) && true));rw [cN (show 1≤j by lia),Bool.true_and,Bool.and_true,PJ (by lia)]
          rw [e1] at z;exact z
        | _=>cases h4
       | _=>cases h3
theorem U0:bB ["p","thing","many"] ["p","thing","many"] (aR zE):=bU
theorem DK(T:Txt K mg t):aT P w K mg base bV 3 t.qk t.tJ ["p","thing","many"] Qx:=by
 have S:=U0;refine T.oo.cA S (fun _ _ _ _ H vs _ _ hr h=>?_);obtain ⟨q,a,tb,n,rfl,⟨vs,ea,hl,hn⟩,en,wt,hb,k⟩:=h
 refine ⟨_,(ao (bL (PW.pt (pw_or (iK (gC (bc (fJ (K:=K)) rfl T.fz boot_isinstance (aa (pv 1) (aa (jM (v:=.ty "list") rfl T.ot boot_list rfl) ag))))) (pw_or1 (bJ jQ (bc df rfl T.cS cV (aa (pv 1) ag)) (pv 2))))) (az (aV gR)) bS)
  (az (aV (bc (yh (K:=K) rfl) rfl T.wq boot_all (aa (e9 (N:=["number","p"]) (ρ:=(fun σ=>[σ[0]?.join])) (dO [0] rfl) rfl (eL (pv 1)) (fun _ _ _=>.nil) (fun _ _ _=>(aQ (UZ T) hr T.J1 T.uh.kp T.J0 aX (aa (pv 1) (aa (pv 0) ag))))) ag))))),?_⟩
 refine ⟨_,rfl,_,_,_,true,rfl,rfl,.of (.lst ea),yi,true,rfl,bW ?_⟩;refine ⟨_,rfl,a,vs,rfl,.inl (.of ea),_,rfl,rfl,false,by rw [kU,cN (by lia)];rfl,bW ?_⟩
 dsimp only [f9];refine kf (r6 (G8 (xs:=vs) (fun R h=>⟨_,rfl,a,rfl,⟨_,.of ea⟩,h _ _ (af.refl _) (fL (.of ea))⟩) (by rw [hl];exact b_ (by lia)) (fun _ i y _=>y=.bl true) (fun _ _ _ _ _ _ h _ _=>h) ?_ ?_))
 ·intro D i v hi Hc R sc _ kc
  have bH:i<tb.length:=by rw [←hl];exact (aW.mp hi).1
  have hv:=(hn i v tb[i] hi (by simp [bH])).mono sc
  refine ⟨_,rfl,_,rfl,q,v,rfl,Qy hv (hb _ (a7 ..)),fun H' s'=>?_⟩;rw [Qb hv];exact kc _ H' s' rfl
 ·intro D ys Hc sc mP hP eD
  refine ⟨D,List.replicate ys.length true,rfl,.of (by rw [eD];exact dR _ (dR _ (vC hP))),?_⟩
  rw [yz];exact k Hc sc
theorem U1:bB ["p","draw"] ["p","draw"] (aR zC):=bU
theorem DL(T:Txt K mg t):aT P w K mg base bV 1 t.qi t.tH ["p","draw"] Se:=by have S:=U1;refine T.om.cA S (fun _ _ _ _ H _ _ _ hr h=>?_);obtain ⟨p,c,rfl,hp,k⟩:=h;exact ⟨_,(az (aV (av cp (pv 1) (pv 0)))),⟨_,rfl,_,rfl,_,_,rfl,rfl,hp,k⟩⟩
theorem U2:bB ["p","one","other"] ["p","one","other"] (aR zD):=bU
theorem oA(T:Txt K mg t):aT P w K mg base bV 2 t.qj t.tI ["p","one","other"] Sf:=by
 have S:=U2;refine T.ja.cA S (fun _ _ _ _ H _ _ _ hr h=>?_);obtain ⟨p,a,b,t0,u0,rfl,hp,ea,eb,it,lt,lu,k⟩:=h;refine ⟨_,(az (aV (av cp (bc (Qm (K:=K) rfl) rfl T.Km boot_sum (aa (rZ (N:=["a","b"]) (ρ:=(fun σ=>[])) (nW [] rfl) rfl (nV rfl T.mO (aa (pv 1) (aa (pv 2) ag))) (fun _ _ _=>.nil) (fun _ _ _=>(av iN (pv 0) (pv 1)))) ag)) (pv 0)))),?_⟩;refine kf (Qw (r6 (Qp (zs:=(t0.map V.int).zip (u0.map V.int)) (fun R h=>⟨_,rfl,_,rfl,a,b,rfl,⟨_,.of ea⟩,⟨_,.of eb⟩,h _ _ (af.refl _) (pD (.of ea) (.of eb))⟩) (b_ (by rw [jI,aD];lia)) (fun i v=>∃w:Int,(List.zipWith (· * ·) t0 u0)[i]?=some w∧v=.int w) ?_ ?_)))
 ·intro i x y g8 Hc R sc kc
  obtain ⟨a1,b1,rfl,rfl,ha,e⟩:=zipWith_map i x y g8;have:=it a1 ha;exact ⟨_,rfl,_,rfl,_,_,rfl,rfl,.inl ⟨by lia,by lia⟩,kc _ Hc (af.refl _) ⟨a1*b1,e,rfl⟩⟩
 ·intro D ws Hc sc hl hP eD
  have ev:ws=(List.zipWith (· * ·) t0 u0).map V.int:=yy (by rw [hl,jI,List.length_zipWith,aD,aD]) hP
  subst ev;refine ⟨D,_,rfl,.of eD,_,rfl,_,_,rfl,rfl,hp,?_⟩;exact k Hc sc
variable {σ:St}
theorem Au{c:TT}{t u:TS}{D:Ends}(b:Bool)(hc:∀Q:Bool→Hp→Prop,Q b H→c σ H Q)(ht:b=true→t D σ H)(hu:b=false→u D σ H):Bd c t u D σ H:=hc _ (by
 cases b with
 | true=>rw [aq rfl];exact ht rfl
 | false=>rw [ar cJ];exact hu rfl)
variable {i:Nat} {Q:Bool→Hp→Prop}
theorem eq_test{w:Int}(e:σ[i]?=some (some (.int w)))(h:Q (decide (w=a)) H):u4 (jP xK (oX i) (tC (.int a))) σ H Q:=⟨.int w,e,rfl,_,rfl,by rw [kU];exact h⟩
theorem Lp{w:Int}(e:σ[i]?=some (some (.int w)))(h:Q (decide (w=a) || decide (w=b)) H):Ft (u4 (jP xK (oX i) (tC (.int a)))) (u4 (jP xK (oX i) (tC (.int b)))) σ H Q:=by
 refine eq_test e ?_;cases z:decide (w=a) with
 | true=>rw [z,Bool.true_or] at h;rw [aq rfl];exact h
 | false=>rw [z,uJ] at h;rw [ar cJ];exact eq_test e h
theorem U3:bB ["script","p","n","m","at","table","way","rest","by","two","i","row"] ["script","p","n","m","at"] (aR zF):=bU
theorem U4(T:Txt K mg t):aT P w K mg base bV 3 t.ql t.tK ["script","p","n","m","at"] (Si K):=by
 have S:=U3;refine T.ui.cA S (fun _ A _ _ H _ Q _ hr h=>?_);obtain ⟨sa,ns,p,n,m,k_,rfl,hS,p2,p7,n1,n6,m1,m6,Z5,k⟩:=h;have hp:0<p:=by lia
 refine ⟨_,(ao (di 5 S.nd (B4 (N:=["i","m","p","script","at"]) (ρ:=(fun σ=>[σ[3]?.join,σ[1]?.join,σ[0]?.join,σ[4]?.join])) ⟨rfl,rfl,(fun _=>rfl),(fun _=>rfl),by decide +kernel,(gw.mpr ⟨rfl,(gw.mpr ⟨rfl,(gw.mpr ⟨rfl,(gw.mpr ⟨rfl,(oI _)⟩)⟩)⟩)⟩),vt (by rfl),rfl,by decide +kernel,rfl,(fun σ j v h=>match j,h with | 0,h=>⟨3,_,rfl,rfl,join_some h,Or.inr (Or.inl rfl),.inl rfl,.inl rfl⟩ | 1,h=>⟨1,_,rfl,rfl,join_some h,Or.inr (Or.inl rfl),.inl rfl,.inl rfl⟩ | 2,h=>⟨0,_,rfl,rfl,join_some h,Or.inr (Or.inl rfl),.inl rfl,.inl rfl⟩ | 3,h=>⟨4,_,rfl,rfl,join_some h,Or.inr (Or.inl rfl),.inl rfl,.inl rfl⟩ | j+4,h=>by cases h),(fun _ _=>rfl)⟩ rfl (gS rfl T.gs (aa (pv 2) ag)) (fun _ _ _=>.nil) (fun _ _ _=>(e9 (N:=["j","p","script","at","i","m"]) (ρ:=(fun σ=>[σ[2]?.join,σ[3]?.join,σ[4]?.join,σ[0]?.join,σ[1]?.join])) (dO [2,3,4,0,1] rfl) rfl (gS rfl T.gs (aa (pv 1) ag)) (fun _ _ _=>.nil) (fun _ _ _=>(aQ (DL T) hr T.z9 T.om.kp T.z8 aX (aa (pv 1) (aa (aQ (oz T) hr T.mI T.i_.kp T.mH aX (aa (pv 2) (aa (av ik (av ik (pv 3) (av iN (pv 4) (pv 5))) (pv 0)) ag))) ag))))))))
  (ao (putL 6 S.nd (av cp (aQ (oz T) hr T.mI T.i_.kp T.mH aX (aa (pv 0) (aa aj ag))) aj))
  (ao (di 7 S.nd (av fU (aQ (oz T) hr T.mI T.i_.kp T.mH aX (aa (pv 0) (aa aj ag))) aj))
  (ao (di 8 S.nd (dD (aa (aQ (DL T) hr T.z9 T.om.kp T.z8 aX (aa (pv 1) (aa (av fU (pv 7) aj) ag))) (aa (aQ (DL T) hr T.z9 T.om.kp T.z8 aX (aa (pv 1) (aa (av fU (pv 7) aj) ag))) ag))))
  (ao (bL (PW.pt (pw_or (bJ dN (pv 6) aj) (pw_or1 (bJ dN (pv 6) aj)))) (ao (putL 9 S.nd (dD (aa (aG dc (pv 5) (av cp (av fU (pv 7) aj) (pv 2))) (aa (aG dc (pv 5) (av cp (av fU (pv 7) aj) (pv 2))) ag))))
  (az (@nj _ _ _ _ _ _ (rZ (N:=["a","b","p","by"]) (ρ:=(fun σ=>[σ[1]?.join,σ[8]?.join])) (nW [1,8] rfl) rfl (nV rfl T.mO (aa (aG dc (pv 9) aj) (aa (aG dc (pv 9) aj) ag))) (fun _ _ _=>.nil) (fun _ _ _=>(aQ (oA T) hr T.mK T.ja.kp T.mJ aX (aa (pv 2) (aa (pv 3) (aa (dD (aa (pv 0) (aa (pv 1) ag))) ag)))))) (nh (pv 5) (av cp (pv 7) (pv 2)) set_list) (by rfl) (by rfl) (by rfl)))) bS)
  (ao (bL (PW.pt (pw_or (bJ dN (pv 6) aj) (pw_or1 (bJ dN (pv 6) aj)))) (az (jO gQ rfl (gS rfl T.gs (aa (pv 2) ag)) (e7 (i:=10) S.nd rfl (Or.inl rfl))
   (ao (putL 11 S.nd (aG dc (pv 5) (pv 10)))
  (az (@nj _ _ _ _ _ _ (aQ (oA T) hr T.mK T.ja.kp T.mJ aX (aa (pv 1) (aa (pv 8) (aa (dD (aa (aG dc (pv 11) (av cp (av fU (pv 7) aj) (pv 3))) (aa (aG dc (pv 11) (av cp (av fU (pv 7) aj) (pv 3))) ag))) ag)))) (nh (pv 11) (av cp (av fU (pv 7) aj) (pv 3)) set_list) (by rfl) (by rfl) (by rfl)))))) bS)
  (ao (bL (bJ dN (pv 6) aj) (az (di 5 S.nd (B4 (N:=["row","table","p"]) (ρ:=(fun σ=>[σ[5]?.join,σ[1]?.join])) ⟨rfl,rfl,(fun _=>rfl),(fun _=>rfl),by decide +kernel,(gw.mpr ⟨rfl,(gw.mpr ⟨rfl,(oI _)⟩)⟩),vt (by rfl),rfl,by decide +kernel,rfl,(fun σ j v h=>match j,h with | 0,h=>⟨5,_,rfl,rfl,join_some h,Or.inr (Or.inl rfl),.inl rfl,.inl rfl⟩ | 1,h=>⟨1,_,rfl,rfl,join_some h,Or.inr (Or.inl rfl),.inl rfl,.inl rfl⟩ | j+2,h=>by cases h),(fun _ _=>rfl)⟩ rfl (eL (pv 5)) (fun _ _ _=>.nil) (fun _ _ _=>(e9 (N:=["number","p","row"]) (ρ:=(fun σ=>[σ[2]?.join,σ[0]?.join])) (dO [2,0] rfl) rfl (yw (K:=K) (aG (nX (K:=K)) (pv 1) aj)) (fun _ _ _=>.nil) (fun _ _ _=>(aQ (oA T) hr T.mK T.ja.kp T.mJ aX (aa (pv 1) (aa (dD (aa (aG (nX (K:=K)) (pv 2) aj) ag)) (aa (dD (aa (pv 0) ag)) ag)))))))))) bS)
  (ao (bL (bJ dN (pv 6) aj) (az (di 5 S.nd (e9 (N:=["i","table","rest","n"]) (ρ:=(fun σ=>[σ[5]?.join,σ[7]?.join,σ[2]?.join])) (dO [5,7,2] rfl) rfl (gS rfl T.gs (aa (pv 2) ag)) (fun _ _ _=>.nil) (fun _ _ _=>(o_ (Ho (K:=K)) rfl T.ot boot_list (aa (aG (nX (K:=K)) (pv 1) (bc (Ng rfl) rfl T.Kn boot_min (aa (pv 0) (aa (av cp (pv 2) (pv 3)) ag)))) ag)))))) bS)
  (az (aV (pv 5))))))))))),?_⟩
 have im:∀i:Nat,i<n→(i:Int)*(m:Int)≤36∧0≤(i:Int)*(m:Int):=fun i hi=>by
  have:=kF (show i≤6 by lia) m6
  have e:(i:Int)*(m:Int)=((i*m:Nat):Int):=by simp
  lia
 refine bK (fM (Cs (n:=n) (xs:=(List.range n).map fun i:Nat=>V.int (0+(i:Int))) (by simp) (fun R h=>⟨_,rfl,(n:Int),rfl,by lia,by lia,h _ _ (af.refl _) (by rw [cU];exact k4)⟩) (b_ (by lia)) (fun D i y Hx=>∃t:List Int,H y=none∧Hx y=some (.lst (t.map V.int))∧t.length=m∧bP p t) (fun D i y Ha Hb ys ⟨t,h0,h1,h2,h3⟩ nD e f=>⟨t,h0,f _ _ nD h1,h2,h3⟩) ?_ ?_))
 ·intro D i v hi Hc R sc ⟨zs,eD⟩ kc
  obtain ⟨bH,rfl⟩:=k7 hi;obtain ⟨Z6,Z7⟩:=im i bH;refine e_ (xs:=(List.range m).map fun i:Nat=>V.int (0+(i:Int))) (fun R h=>⟨_,rfl,(m:Int),rfl,by lia,by lia,h _ _ (af.refl _) (by rw [cU];exact k4)⟩) (by rw [aD,fQ];exact b_ (by lia)) (fun D j y Hx=>∃x:Int,y=.int x∧0≤x∧x<p) (fun _ _ _ _ _ _ h _ _=>h) ?_ ?_
  ·intro D' j v hj Hd R' sd _ kd
   obtain ⟨eP,rfl⟩:=k7 hj;refine ⟨_,rfl,_,rfl,_,rfl,_,rfl,_,rfl,_,_,rfl,rfl,.inl ⟨by lia,by lia⟩,_,_,rfl,rfl,_,rfl,_,_,rfl,rfl,sa,ns,_,rfl,(sc.trans sd).seq hS,by lia,by lia,fun H3 s3=>⟨p,_,rfl,hp,kd _ H3 s3 ⟨_,rfl,gZ hp⟩⟩⟩
  ·intro D' ys Hd uu sd dU hP jx
   obtain ⟨t0,rfl,it,lt⟩:=ints_of hP;rw [aD,aD,fQ] at dU;exact kc D' Hd sd uu ⟨_,jx⟩ ⟨t0,none_of sc uu,jx,dU,it⟩
 intro tb A1 H1 Lq s1 inj hA qH;obtain ⟨f,hf⟩:=vN (n:=n) (α:=List Int) (R:=fun i t=>H (A1 i)=none∧H1 (A1 i)=some (.lst (t.map V.int))∧t.length=m∧bP p t) fun i hi=>(hA i hi).1;have Lr:∀i,i<n→A1 i≠tb:=fun i hi=>(hA i hi).2;clear hA;have d0:=BU ns 2;have d1:=BV ns 2;dsimp only [aS];refine bK ⟨_,rfl,sa,ns,2,rfl,s1.seq hS,by decide,by decide,fun H2 s2=>⟨_,_,rfl,rfl,(by show (0:Int)<8;decide),?_⟩⟩
 dsimp only [aS];refine bK ⟨_,rfl,sa,ns,2,rfl,(s1.trans s2).seq hS,by decide,by decide,fun H3 s3=>⟨_,_,rfl,rfl,⟨by decide,bE.of_lt (by decide) (by decide)⟩,?_⟩⟩
 dsimp only [aS];generalize iW ns 2 % 8=way;have r0:0≤iW ns 2 / 8:=Int.ediv_nonneg d0 (by decide)
 generalize iW ns 2 / 8=rest at r0;have qI:∀c:Int,0<c→c<10000→BP rest c:=fun c h1 h2=>⟨h1,bE.of_lt (by lia) (by lia)⟩
 refine bK ⟨_,rfl,_,rfl,_,_,rfl,rfl,qI 1000 (by decide) (by decide),p,_,rfl,hp,?_⟩
 refine ⟨_,rfl,_,rfl,_,_,rfl,rfl,qI 7000 (by decide) (by decide),p,_,rfl,hp,?_⟩
 have i0:=gZ (c:=rest / 1000) hp;have i1:=gZ (c:=rest / 7000) hp;generalize rest / 1000 % p=b0 at i0;generalize rest / 7000 % p=b1 at i1;refine ⟨by show 2≤sizeLine;decide,fun yb wI=>?_⟩
 have eJ:=s2.trans s3;have Ls:tb≠yb:=fun e=>by rw [←e,eJ _ _ qH] at wI;cases wI
 have s6:af H3 (upd H3 yb (.lst [.int b0,.int b1])):=aK wI;have D6:DZ H (upd H3 yb (.lst [.int b0,.int b1])) p tb yb n m [b0,b1] A1 f:=by refine ⟨s1.trans (eJ.trans s6),s6 _ _ (eJ _ _ qH),Lq,inj,fun i hi=>?_,aB,Ls⟩;obtain ⟨h1,h2,h3,h4⟩:=hf i hi;exact ⟨h1,Lr i hi,(fun e=>by rw [←e,eJ _ _ h2] at wI;cases wI),s6 _ _ (eJ _ _ h2),h3,h4⟩
 have Lu:bP 1000 [b0,b1]:=fun x hx=>by
  rcases dq.mp hx with rfl | hx;·lia
  ·rw [g_.mp hx]
   lia
 generalize upd H3 yb (.lst [.int b0,.int b1])=H6 at D6 ⊢;clear s6 eJ s2 s3 s1 hf Lr qH Lq inj Ls;have nn:(n:Int)≠0:=by lia
 have np:(0:Int)<(n:Int):=by lia
 have mp:(0:Int)<(m:Int):=by lia
 have modn:∀e:Int,∃u:Nat,u<n∧e % (n:Int)=(u:Int):=fun e=>by have:=gZ (c:=e) np;exact ⟨(e % (n:Int)).toNat,by lia,by lia⟩
 have DM:∀e:Int,∃u:Nat,u<m∧e % (m:Int)=(u:Int):=fun e=>by have:=gZ (c:=e) mp;exact ⟨(e % (m:Int)).toNat,by lia,by lia⟩
 obtain ⟨kk,DN,Lv⟩:=modn rest;dsimp only [aS];have Av:∀{A:Nat→Addr} (j:Nat),j<n→eO ((List.range n).map fun i=>V.ref (A i)) (j:Int)=some (.ref (A j)):=fun{A} j hj=>e8 (by simp [hj])
 refine n8 (yU H sa p n m k_ way rest yb [b0,b1]) (fun R hR=>?_) (fun σ Hc J=>?_)
 ·refine Au (decide (way=1) || decide (way=5)) (fun Q h=>Lp rfl h) (fun hw=>?_) (fun hw=>hR _ _ ⟨tb,A1,f,_,_,_,rfl,D6⟩)
  obtain ⟨u,un,eu⟩:=modn (rest / 6);obtain ⟨v,vn,ev⟩:=modn (rest / 36);refine ⟨_,rfl,_,rfl,_,_,rfl,rfl,qI 6 (by decide) (by decide),_,rfl,_,_,rfl,rfl,np,tb,_,_,_,rfl,rfl,.of D6.tab,by rw [eu];exact Av u un,?_⟩
  refine ⟨_,rfl,_,rfl,_,_,rfl,rfl,qI 36 (by decide) (by decide),_,rfl,_,_,rfl,rfl,np,tb,_,_,_,rfl,rfl,.of D6.tab,by rw [ev];exact Av v vn,?_⟩
  refine ⟨by show 2≤sizeLine;decide,fun tw U5=>?_⟩
  have s7:af H6 (upd H6 tw (.lst [.ref (A1 u),.ref (A1 v)])):=aK U5;have DO:upd H6 tw (.lst [.ref (A1 u),.ref (A1 v)]) tw=some (.lst [.ref (A1 u),.ref (A1 v)]):=aB;generalize upd H6 tw (.lst [.ref (A1 u),.ref (A1 v)])=H7 at s7 DO ⊢;have D7:=D6.mono s7;dsimp only [aS];obtain ⟨_,_,_,Lw,U6,Z8⟩:=D7.rows u un;obtain ⟨_,_,_,Lx,Ck,Z9⟩:=D7.rows v vn;have uw:eO [V.ref (A1 u),V.ref (A1 v)] 0=some (.ref (A1 u)):=by exact e8 (j:=0) rfl
  have Aw:eO [V.ref (A1 u),V.ref (A1 v)] 1=some (.ref (A1 v)):=by exact e8 (j:=1) rfl
  have lz:(((f u).map V.int).zip ((f v).map V.int)).length=m:=by rw [jI,aD,aD,U6,Ck,Nat.min_self]
  refine fM (yB (Z:=fun zs Hx=>zs=((f u).map V.int).zip ((f v).map V.int)∧Hx=H7) (fun R h=>⟨_,rfl,tw,_,_,_,rfl,rfl,.of DO,uw,_,rfl,tw,_,_,_,rfl,rfl,.of DO,Aw,A1 u,A1 v,rfl,⟨_,.of Lw⟩,⟨_,.of Lx⟩,h _ _ _ (af.refl _) (pD (.of Lw) (.of Lx)) (b_ (by lia)) ⟨rfl,rfl⟩⟩) (fun D i y _=>∃x:Int,y=.int x∧0≤x∧x<p) (fun _ _ _ _ _ _ h _ _=>h) ?_ ?_)
  ·rintro zs Hx ⟨rfl,rfl⟩ _ D i x y g8 Hc R sc _ kc
   obtain ⟨a1,c1,rfl,rfl,_,_⟩:=zipWith_map i x y g8;refine ⟨_,rfl,_,rfl,_,rfl,_,rfl,by show 2≤sizeLine;decide,fun l nl=>?_⟩
   exact ⟨p,yb,l,[b0,b1],[a1,c1],rfl,hp,(sc.trans (aK nl)) _ _ D7.y,aB,Lu,by show 2≤40;decide,by show 2≤40;decide,fun H' s'=>kc _ _ ((aK nl).trans s') ⟨_,rfl,gZ hp⟩⟩
  ·rintro zs Hx ⟨rfl,rfl⟩ _ D ys H8 nD s8 dU hP eD
   obtain ⟨t0,rfl,it,lt⟩:=ints_of hP;have lt:t0.length=m:=by rw [dU,lz] at lt;exact lt
   have D8:=D7.mono s8;refine ⟨_,rfl,_,rfl,_,rfl,_,_,rfl,rfl,np,tb,_,_,kk,rfl,rfl,D8.tab,?_,hR _ _ ⟨tb,_,_,_,_,_,rfl,D8.put DN eD lt it (none_of D7.same nD) (fun e=>by rw [e,D7.tab] at nD;cases nD) (fun e=>by rw [e,D7.y] at nD;cases nD) fun i hi e=>by rw [←e,(D7.rows i hi).2.2.2.1] at nD;cases nD⟩⟩
   rw [Lv];unfold gU;rw [aq (by lia),aq (by simp;exact DN),cU]
 obtain ⟨tb,A1,f,v9,v10,v11,rfl,D6⟩:=J;refine n8 (yU H sa p n m k_ way rest yb [b0,b1]) (fun R hR=>?_) (fun σ Hc J=>?_)
 ·refine Au (decide (way=2) || decide (way=5)) (fun Q h=>Lp rfl h) (fun hw=>?_) (fun hw=>hR _ _ ⟨tb,A1,f,_,_,_,rfl,D6⟩)
  obtain ⟨cc,Z_,U7⟩:=DM (rest / 3);obtain ⟨dd,U8,U9⟩:=DM (rest / 18);obtain ⟨ee,U_,Va⟩:=DM (rest / 108);refine ⟨_,rfl,(n:Int),rfl,by lia,by lia,?_⟩
  rw [cU];refine u3 (fun i σ Hx=>∃(f3:Nat→List Int) (v10 v11:Option V),σ=[some (.ref sa),some (.int p),some (.int (n:Int)),some (.int (m:Int)),some (.int (k_:Int)),some (.ref tb),some (.int way),some (.int rest),some (.ref yb),v9,v10,v11]∧DZ H Hx p tb yb n m [b0,b1] A1 f3) ⟨f,_,_,rfl,D6⟩ ?_ ?_
  ·rintro i σ Hx hi ⟨f3,v10,v11,rfl,Dx⟩
   rw [show (0:Int)+(i:Int)=(i:Int) by lia]
   dsimp only [aS];refine bK ⟨_,rfl,_,rfl,tb,_,_,_,rfl,rfl,.of Dx.tab,Av i hi,?_⟩;dsimp only [aS];obtain ⟨r1,r2,r3,er,lr,ir⟩:=Dx.rows i hi;have gx:∀c,c<m→eO ((f3 i).map V.int) (c:Int)=some (.int (gz (f3 i) c)):=fun c hc=>e8 (by
    have dJ:c<(f3 i).length:=by lia
    unfold gz;rw [bo,bq,bw dJ];rfl)
   refine ⟨_,rfl,_,rfl,_,rfl,_,rfl,_,_,rfl,rfl,qI 18 (by decide) (by decide),_,rfl,_,_,rfl,rfl,mp,A1 i,_,_,_,rfl,rfl,.of er,by rw [U9];exact gx dd U8,?_⟩
   refine ⟨_,rfl,_,rfl,_,_,rfl,rfl,qI 108 (by decide) (by decide),_,rfl,_,_,rfl,rfl,mp,A1 i,_,_,_,rfl,rfl,.of er,by rw [Va];exact gx ee U_,by show 2≤sizeLine;decide,fun l nl=>?_⟩
   have sl:af Hx (upd Hx l (.lst [.int (gz (f3 i) dd),.int (gz (f3 i) ee)])):=aK nl;have el:upd Hx l (.lst [.int (gz (f3 i) dd),.int (gz (f3 i) ee)]) l=some (.lst ([gz (f3 i) dd,gz (f3 i) ee].map V.int)):=aB;generalize upd Hx l (.lst [.int (gz (f3 i) dd),.int (gz (f3 i) ee)])=Hd at sl el ⊢;have Dd:=Dx.mono sl;refine ⟨p,yb,l,[b0,b1],[gz (f3 i) dd,gz (f3 i) ee],rfl,hp,Dd.y,el,Lu,by show 2≤40;decide,by show 2≤40;decide,fun H' s'=>?_⟩
   have De:=Dd.mono s';refine ⟨_,rfl,_,rfl,_,_,rfl,rfl,qI 3 (by decide) (by decide),_,rfl,_,_,rfl,rfl,mp,A1 i,_,_,cc,rfl,rfl,(De.rows i hi).2.2.2.1,?_,_,_,_,rfl,De.cell hi (gZ hp)⟩
   rw [U7];unfold gU;rw [aq (by lia),aq (by rw [aD];lia),cU]
  ·rintro σ Hx ⟨f3,v10,v11,rfl,Dx⟩
   exact hR _ _ ⟨tb,A1,f3,_,_,_,rfl,Dx⟩
 clear D6;obtain ⟨tb,A1,f,v9,v10,v11,rfl,D6⟩:=J;refine n8 (yU H sa p n m k_ way rest yb [b0,b1]) (fun R hR=>?_) (fun σ Hc J=>?_)
 ·refine Au (decide (way=3)) (fun Q h=>eq_test rfl h) (fun hw=>?_) (fun hw=>hR _ _ ⟨tb,A1,f,_,_,_,rfl,D6⟩)
  have n0:0<n:=by lia
  have uw:eO ((List.range n).map fun i=>V.ref (A1 i)) 0=some (.ref (A1 0)):=by exact e8 (j:=0) (by simp [n0])
  obtain ⟨_,_,_,e0,l0,_⟩:=D6.rows 0 n0;refine fM (Cs (n:=n) (xs:=(List.range n).map fun i=>V.ref (A1 i)) (by simp) (fun R h=>⟨_,rfl,tb,rfl,⟨_,.of D6.tab⟩,h _ _ (af.refl _) (fL (.of D6.tab))⟩) (b_ (by lia)) (fun D i y Hx=>∃t:List Int,Hc y=none∧Hx y=some (.lst (t.map V.int))∧t.length=m∧bP p t) (fun D i y Ha Hb ys ⟨t,h0,h1,h2,h3⟩ nD e f=>⟨t,h0,f _ _ nD h1,h2,h3⟩) ?_ ?_)
  ·intro D i v hi Hd R sc ⟨zs,eD⟩ kc
   have bH:i<n:=by simpa using (aW.mp hi).1
   have ev:v=.ref (A1 i):=by rw [bo,List.getElem?_range bH] at hi;exact (Option.some.inj hi).symm
   subst ev;obtain ⟨_,_,_,ei,li,ii⟩:=D6.rows i bH;have gx:eO ((f i).map V.int) 0=some (.int (gz (f i) 0)):=by
    refine e8 (j:=0) ?_;have dJ:0<(f i).length:=by lia
    unfold gz;rw [bo,bq,bw dJ];rfl
   have g0:=kj ii (k:=0) (by lia)
   refine e_ (xs:=(f 0).map V.int) (fun R h=>⟨_,rfl,tb,_,_,_,rfl,rfl,.of (sc _ _ D6.tab),uw,A1 0,rfl,⟨_,.of (sc _ _ e0)⟩,h _ _ (af.refl _) (fL (.of (sc _ _ e0)))⟩) (b_ (by rw [aD];lia)) (fun D j y Hx=>∃x:Int,y=.int x∧0≤x∧x<p) (fun _ _ _ _ _ _ h _ _=>h) ?_ ?_
   ·intro D' j x hj He R' sd _ kd
    rw [bo] at hj;cases ex:(f 0)[j]? with
    | none=>rw [ex] at hj;cases hj
    | some x0=>
     rw [ex] at hj;cases hj;refine ⟨_,rfl,_,rfl,A1 i,_,_,_,rfl,rfl,.of ((sc.trans sd) _ _ ei),gx,by show 1≤sizeLine;decide,fun l1 DP=>?_⟩
     refine ⟨_,rfl,by show 1≤sizeLine;decide,fun l2 kq=>?_⟩
     refine ⟨p,l1,l2,[gz (f i) 0],[x0],rfl,hp,aK kq _ _ aB,aB,fun y hy=>?_,by show 1≤40;decide,by show 1≤40;decide,fun H' s'=>kd _ _ ((aK DP).trans ((aK kq).trans s')) ⟨_,rfl,gZ hp⟩⟩
     rw [g_.mp hy];lia
   ·intro D' ys He uu sd dU hP jx
    obtain ⟨t0,rfl,it,lt⟩:=ints_of hP;rw [aD,aD,l0] at dU;exact kc D' He sd uu ⟨_,jx⟩ ⟨t0,none_of sc uu,jx,dU,it⟩
  ·intro DQ A5 Aq DR wC inj hA qH
   obtain ⟨f5,hf⟩:=vN (n:=n) (α:=List Int) (R:=fun i t=>Hc (A5 i)=none∧Aq (A5 i)=some (.lst (t.map V.int))∧t.length=m∧bP p t) fun i hi=>(hA i hi).1;exact hR _ _ ⟨DQ,A5,f5,_,_,_,rfl,D6.anew wC qH DR inj fun i hi=>⟨hf i hi,(hA i hi).2⟩⟩
 clear D6;obtain ⟨tb,A1,f,v9,v10,v11,rfl,D6⟩:=J;refine n8 (yU H sa p n m k_ way rest yb [b0,b1]) (fun R hR=>?_) (fun σ Hc J=>?_)
 ·refine Au (decide (way=4)) (fun Q h=>eq_test rfl h) (fun hw=>?_) (fun hw=>hR _ _ ⟨tb,A1,f,_,_,_,rfl,D6⟩)
  refine fM (Cs (n:=n) (xs:=(List.range n).map fun i:Nat=>V.int (0+(i:Int))) (by simp) (fun R h=>⟨_,rfl,(n:Int),rfl,by lia,by lia,h _ _ (af.refl _) (by rw [cU];exact k4)⟩) (b_ (by lia)) (fun D i y Hx=>∃t:List Int,Hc y=none∧Hx y=some (.lst (t.map V.int))∧t.length=m∧bP p t) (fun D i y Ha Hb ys ⟨t,h0,h1,h2,h3⟩ nD e f=>⟨t,h0,f _ _ nD h1,h2,h3⟩) ?_ ?_)
  ·intro D i v hi Hd R sc ⟨zs,eD⟩ kc
   obtain ⟨bH,rfl⟩:=k7 hi;obtain ⟨w,wn,ew⟩:∃w:Nat,w<n∧(if rest % (n:Int)<(i:Int) then rest % (n:Int) else (i:Int))=(w:Int):=by
    rw [Lv];by_cases y:(kk:Int)<(i:Int);·rw [aq y];exact ⟨kk,DN,rfl⟩
    ·rw [ar y];exact ⟨i,bH,rfl⟩
   obtain ⟨_,_,_,e4,l4,i4⟩:=D6.rows w wn;refine ⟨_,rfl,_,rfl,_,rfl,_,rfl,_,_,rfl,rfl,np,_,_,rfl,tb,_,_,.ref (A1 w),rfl,rfl,.of (sc _ _ D6.tab),by rw [ew];exact Av w wn,A1 w,_,rfl,.inl (.of (sc _ _ e4)),fun b nb=>?_⟩
   exact kc b _ (aK nb) nb ⟨_,aB⟩ ⟨f w,none_of sc nb,aB,l4,i4⟩
  ·intro DQ A5 Aq DR wC inj hA qH
   obtain ⟨f5,hf⟩:=vN (n:=n) (α:=List Int) (R:=fun i t=>Hc (A5 i)=none∧Aq (A5 i)=some (.lst (t.map V.int))∧t.length=m∧bP p t) fun i hi=>(hA i hi).1;exact hR _ _ ⟨DQ,A5,f5,_,_,_,rfl,D6.anew wC qH DR inj fun i hi=>⟨hf i hi,(hA i hi).2⟩⟩
 clear D6;obtain ⟨tb,A1,f,v9,v10,v11,rfl,D6⟩:=J;obtain ⟨t1,t2,t3⟩:=D6.Sh;exact ⟨_,rfl,k tb Hc _ D6.same t1 t2 t3⟩
theorem Vb:bB ["p","many","rows","k","longer","row","number"] ["p","many"] (aR zG):=bU
theorem Ly(T:Txt K mg t):aT P w K mg base bV 1 t.qm t.tL ["p","many"] Sg:=by
 have S:=Vb;refine T.qA.cA S (fun _ _ _ _ H vs _ _ hr h=>?_);obtain ⟨p,k,rfl,p7,k6,p1,pk,kk⟩:=h
 refine ⟨_,(ao (putL 2 S.nd (dD (aa (dD ag) ag)))
  (ao (jO gQ rfl (gS rfl T.gs (aa (pv 1) ag)) (e7 (i:=3) S.nd rfl (Or.inl rfl))
   (ao (putL 4 S.nd (dD ag))
  (ao (jO gQ rfl (eL (pv 2)) (e7 (i:=5) S.nd rfl (Or.inl rfl))
   (az (jO gQ rfl (gS rfl T.gs (aa (pv 0) ag)) (e7 (i:=6) S.nd rfl (Or.inl rfl))
   (az (oZ (Bz uT AZ A3 l8 (pv 4) (aa (av xY (pv 5) (dD (aa (pv 6) ag))) ag)))))))
  (az (putL 2 S.nd (pv 4))))))
  (az (aV (pv 2))))),?_⟩
 refine bK ⟨cT _,fun e0 Vc=>⟨by show 1≤sizeLine;decide,fun r0 DS=>?_⟩⟩
 have s0:af H (upd (upd H e0 (.lst [])) r0 (.lst [.ref e0])):=(aK Vc).trans (aK DS);have er:e0≠r0:=fun z=>by rw [z,aB] at DS;cases DS
 have T0:i8 (upd (upd H e0 (.lst [])) r0 (.lst [.ref e0])) r0 (bQ p 0):=⟨_,aB,rfl,fun i v t h1 h2=>by
  match i,h1,h2 with
  | 0,h1,h2=>cases h1;cases h2;exact ⟨e0,rfl,er,(aH er).trans aB⟩
  | i+1,h1,h2=>simp at h1⟩
 generalize upd (upd H e0 (.lst [])) r0 (.lst [.ref e0])=H0 at s0 T0 ⊢;dsimp only [aS];refine bK ⟨_,rfl,(k:Int),rfl,by lia,by lia,?_⟩
 rw [cU];have Lz:∀i,i≤k→(bQ p i).length≤128:=fun i hi=>by rw [pK];exact aN (oJ p1 hi) pk
 refine u3 (fun i σ Hc=>∃(R:Addr) (v3 v4 v5 v6:Option V),σ=[some (.int (p:Int)),some (.int (k:Int)),some (.ref R),v3,v4,v5,v6]∧af H Hc∧i8 Hc R (bQ p i)) ⟨r0,_,_,_,_,rfl,s0,T0⟩ ?_ ?_
 ·rintro i σ Hc hi ⟨R,v3,v4,v5,v6,rfl,sc,TR⟩
  have li:=Lz i (by lia)
  have Vd:=Lz (i+1) (by lia)
  dsimp only [aS];refine bK ⟨cT _,fun Ld nL=>?_⟩;have sL:af Hc (upd Hc Ld (.lst [])):=aK nL;have TL:i8 (upd Hc Ld (.lst [])) Ld []:=⟨[],aB,rfl,fun i v t h1 _=>by cases h1⟩
  have Ve:=TR.mono sL;have RL:R≠Ld:=fun z=>by obtain ⟨vs,e,_⟩:=TR;rw [z,nL] at e;cases e
  have Vf:∀(j:Nat) (v:V) (vs:List V),Hc R=some (.lst vs)→vs[j]?=some v→v≠.ref Ld:=fun j v vs e hv z=>by
   obtain ⟨Jf,e',l',k'⟩:=TR;rw [e] at e';cases e';have hj:j<(bQ p i).length:=by rw [←l'];exact (aW.mp hv).1
   obtain ⟨r,e1,_,e2⟩:=k' j v _ hv (bw hj);rw [z] at e1;cases e1;rw [nL] at e2;cases e2
  obtain ⟨rv,eR,lR,kR⟩:=id TR;have LA:af Hc (upd Hc Ld (.lst [])):=sL;generalize upd Hc Ld (.lst [])=H1 at sL TL Ve LA ⊢;dsimp only [aS];refine bK ⟨_,rfl,R,rfl,⟨_,.of (sL _ _ eR)⟩,?_⟩;refine xI (K:=K) (a:=R) (xs:=rv) (fun j σ Hx=>∃(v5 v6:Option V),σ=[some (.int (p:Int)),some (.int (k:Int)),some (.ref R),some (.int (0+(i:Int))),some (.ref Ld),v5,v6]∧(∀b o,b≠Ld→H1 b=some o→Hx b=some o)∧i8 Hx Ld (((bQ p i).take j).flatMap (grow p))) ⟨_,_,rfl,fun _ _ _ e=>e,TL⟩ (fun j σ Hx _ ⟨_,_,_,kx,_⟩=>.of (kx _ _ RL (sL _ _ eR))) ?_ ?_
  ·rintro j v σ Hx hv ⟨v5,v6,rfl,kx,TX⟩
   have hj:j<(bQ p i).length:=by rw [←lR];exact (aW.mp hv).1
   obtain ⟨r,rfl,rR,er⟩:=kR j v _ hv (bw hj);have rL:=Vf j _ rv eR hv;have rL:r≠Ld:=fun z=>rL (by rw [z])
   have LB:=kx _ _ rL (sL _ _ er);have ft:=Sj (p:=p) hj;have Vg:(bQ p i)[j].length≤6:=by have:=(kl.mp (a7 hj)).1;lia
   have Vh:((((bQ p i).take j).flatMap (grow p))).length≤128:=by
    have e2:(bQ p i).length*p≤128:=by rw [pK,←Nat.pow_succ,←pK];exact Vd
    have:∀l:List (List Int),(l.flatMap (grow p)).length=l.length*p:=fun l=>by
     induction l with
     | nil=>simp
     | cons a l ih=>rw [List.flatMap_cons,fe,ih,Sk,cx,Nat.succ_mul,Nat.add_comm]
    rw [this];exact aN (xl _ (by rw [w9];lia)) e2
   generalize (bQ p i)[j]=row at er LB ft Vg;generalize ((bQ p i).take j).flatMap (grow p)=done at TX ft Vh;dsimp only [aS];refine ⟨_,rfl,(p:Int),rfl,by lia,by lia,?_⟩
   rw [cU];refine u3 (fun x σ Hy=>∃(v6:Option V),σ=[some (.int (p:Int)),some (.int (k:Int)),some (.ref R),some (.int (0+(i:Int))),some (.ref Ld),some (.ref r),v6]∧(∀b o,b≠Ld→H1 b=some o→Hy b=some o)∧Hy r=some (.lst (row.map V.int))∧i8 Hy Ld (done++(List.range x).map fun y:Nat=>row++[(y:Int)])) ⟨_,rfl,kx,LB,by simpa using TX⟩ ?_ ?_
   ·rintro x σ Hy hx ⟨v6,rfl,ky,DT,TY⟩
    rw [show (0:Int)+(x:Int)=(x:Int) by lia]
    obtain ⟨yv,eY,lY,_⟩:=id TY;have lY':yv.length≤200:=by rw [lY,fe,aD,fQ];lia
    dsimp only [aS];refine ⟨_,rfl,.inl ⟨rfl,_,.of eY⟩,_,rfl,_,rfl,by show 1≤sizeLine;decide,fun q nq=>?_⟩
    have sq:af Hy (upd Hy q (.lst [.int (x:Int)])):=aK nq;refine ⟨r,q,_,_,rfl,rfl,sq _ _ DT,aB,aN (show _≤100 by simp;lia) (by decide),fun l2 kq=>?_⟩
    have s2:=sq.trans (aK (o:=.lst (row.map V.int++[V.int (x:Int)])) kq);have Vi:l2≠Ld:=fun z=>by rw [z,sq _ _ eY] at kq;cases kq
    have e2:upd (upd Hy q (.lst [.int (x:Int)])) l2 (.lst (row.map V.int++[V.int (x:Int)])) l2=some (.lst ((row++[(x:Int)]).map V.int)):=by rw [aB,oV];rfl
    generalize upd (upd Hy q (.lst [.int (x:Int)])) l2 (.lst (row.map V.int++[V.int (x:Int)]))=Hz at s2 e2 ⊢;refine ⟨Ld,yv,.ref l2,rfl,rfl,s2 _ _ eY,b_ (by lia),_,rfl,fun b o nb e=>(aH nb).trans (s2 _ _ (ky b o nb e)),(aH rL).trans (s2 _ _ DT),?_⟩
    have:=(TY.mono s2).snoc (s2 _ _ eY) e2 Vi;rw [xp,oV,←List.append_assoc];exact this
   ·rintro σ Hy ⟨v6,rfl,ky,DT,TY⟩
    exact ⟨_,_,rfl,ky,by rw [ft];exact TY⟩
  ·rintro σ Hx ⟨v5,v6,rfl,kx,TX⟩
   rw [lR,uP] at TX;refine ⟨_,rfl,Ld,_,_,_,_,rfl,fun b o e=>kx _ _ (fun z=>by rw [z] at e;rw [sc _ _ e] at nL;cases nL) (LA _ _ (sc _ _ e)),TX⟩
 ·rintro σ Hc ⟨R,v3,v4,v5,v6,rfl,sc,TR⟩
  exact ⟨_,rfl,kk R Hc sc TR.z⟩
theorem Vj:bB ["p","moves","gone","many","sums","count","by","row"] ["p","moves","gone","many"] (aR zH):=bU
theorem Vk(T:Txt K mg t):aT P w K mg base bV 3 t.qo t.tM ["p","moves","gone","many"] Sn:=by
 have S:=Vj;refine T.uj.cA S (fun _ _ _ _ H _ _ _ hr h=>?_);obtain ⟨p,m,M,G,ms,gone,rfl,p1,p7,m6,k6,pk,hM,Vl,hG,nd,pm,kk⟩:=h;have qJ:=hr.units;have Vm:=eK (uU (show 1≤64 by decide) _) hr.units
 have hu:=eK (uU (show 1≤64 by decide) _) hr.units
 refine ⟨_,(ao (di 4 S.nd RP)
  (ao (putL 5 S.nd aj)
  (ao (jO gQ rfl (eL (aQ (Ly T) hr T.C8 T.qA.kp T.C7 aX (aa (pv 0) (aa (bc df rfl T.cS cV (aa (pv 1) ag)) ag)))) (e7 (i:=6) S.nd rfl (Or.inr rfl))
   (ao (Hl (i0:=7) (N:=["j","p","by","moves"]) (ρ:=(fun σ=>[σ[0]?.join,σ[6]?.join,σ[1]?.join])) ⟨rfl,rfl,(fun _=>rfl),(fun _=>rfl),by decide +kernel,(gw.mpr ⟨rfl,(gw.mpr ⟨rfl,(gw.mpr ⟨rfl,(oI _)⟩)⟩)⟩),vt (by rfl),rfl,by decide +kernel,rfl,(fun σ j v h=>match j,h with | 0,h=>⟨0,_,rfl,rfl,join_some h,Or.inr (Or.inl rfl),.inl rfl,.inl rfl⟩ | 1,h=>⟨6,_,rfl,rfl,join_some h,Or.inr (Or.inl rfl),.inl rfl,.inl rfl⟩ | 2,h=>⟨1,_,rfl,rfl,join_some h,Or.inr (Or.inl rfl),.inl rfl,.inl rfl⟩ | j+3,h=>by cases h),(fun _ _=>rfl)⟩ rfl S.nd rfl (Or.inl rfl) (gS rfl T.gs (aa (pv 3) ag)) (fun _ _ _=>.nil) (fun _ _ _=>(aQ (oA T) hr T.mK T.ja.kp T.mJ aX (aa (pv 1) (aa (pv 2) (aa (e9 (N:=["move","j"]) (ρ:=(fun σ=>[σ[0]?.join])) (dO [0] rfl) rfl (yw (K:=K) (pv 3)) (fun _ _ _=>.nil) (fun _ _ _=>(aG (nX (K:=K)) (pv 0) (pv 1)))) ag))))))
  (ao (RM hu (pv 4) (o_ (Jh (K:=K)) rfl T.qC boot_tuple (aa (pv 7) ag)) gR rfl)
  (az (putL 5 S.nd (av ik (pv 5) aj))))))
  (az (aV (fS (jR dN (pv 5) (bc df rfl T.cS cV (aa (pv 2) ag))) (fS (jR dN (bc RY rfl T.cS cV (aa (pv 4) ag)) (pv 5)) (kO (bc (yh (K:=K) rfl) rfl T.wq boot_all (aa (e9 (N:=["row","sums"]) (ρ:=(fun σ=>[σ[4]?.join])) (dO [4] rfl) rfl (eL (pv 2)) (fun _ _ _=>.nil) (fun _ _ _=>(Mx (RK hu (o_ (Jh (K:=K)) rfl T.qC boot_tuple (aa (pv 0) ag)) (pv 1)) rfl))) ag)))))))))),?_⟩
 refine bK fun D nD=>?_;have sD:af H (upd H D (.dT [])):=aK nD;have eD:upd H D (.dT []) D=some (.dT (i9 (((bQ p ms.length).take 0).map (cI p m ms)))):=aB;generalize upd H D (.dT [])=H1 at sD eD ⊢;dsimp only [aS];refine bK (fM ?_);dsimp only [aS];obtain ⟨mv,eM,lM,_⟩:=id hM;obtain ⟨gv,eG,lG,_⟩:=id hG;refine bK ⟨_,rfl,_,rfl,M,mv,rfl,.inl (.of (sD _ _ eM)),p,ms.length,by rw [lM];rfl,p7,k6,p1,pk,fun R H2 s2 TR=>?_⟩
 obtain ⟨rv,eR,lR,_⟩:=id TR;have wJ:=sD.trans s2;have jB:=s2 _ _ eD;have DU:(bQ p ms.length).length≤128:=by rw [pK];exact pk
 refine ⟨R,rfl,⟨_,.of eR⟩,?_⟩;have keep:∀{b:Addr} {xs:List V} {Hx:Hp},(∀b o,b≠D→H2 b=some o→Hx b=some o)→H2 b=some (.lst xs)→Hx b=some (.lst xs):=fun{b xs Hx} k e=>k _ _ (fun z=>by rw [z,jB] at e;cases e) e
 refine xI (K:=K) (a:=R) (xs:=rv) (fun i σ Hx=>∃(v6 v7:Option V),σ=[some (.int (p:Int)),some (.ref M),some (.ref G),some (.int (m:Int)),some (.ref D),some (.int (i:Int)),v6,v7]∧(∀b o,b≠D→H2 b=some o→Hx b=some o)∧Hx D=some (.dT (i9 (((bQ p ms.length).take i).map (cI p m ms))))) ⟨_,_,rfl,fun _ _ _ e=>e,jB⟩ (fun i σ Hx _ ⟨_,_,_,kx,_⟩=>.of (keep kx eR)) ?_ ?_
 ·rintro i v σ Hx hv ⟨v6,v7,rfl,kx,wK⟩
  obtain ⟨_,hR⟩:=TR.at eR;obtain ⟨b,r,hb,bm,rfl,er⟩:=hR i v hv;have bz:=kl.mp bm;have tk:(bQ p ms.length).take (i+1)=(bQ p ms.length).take i++[b]:=by rw [List.take_succ,hb];rfl
  have Vn:cI p m ms b∉((bQ p ms.length).take i).map (cI p m ms):=fun z=>by have hi:i<(bQ p ms.length).length:=(aW.mp hb).1;have LC:=nd;rw [←List.take_append_drop i (bQ p ms.length),oV,List.nodup_append] at LC;refine LC.2.2 _ z _ (da.mpr ⟨b,?_,rfl⟩) rfl;exact mS (i:=0) (by rw [List.getElem?_drop,Nat.add_zero];exact hb)
  have ls:(i9 (((bQ p ms.length).take i).map (cI p m ms))).length≤128:=by unfold i9;rw [aD,aD,w9];lia
  dsimp only [aS];refine bK (fM (e_ (xs:=(List.range m).map fun i:Nat=>V.int (0+(i:Int))) (fun R h=>⟨_,rfl,(m:Int),rfl,by lia,by lia,h _ _ (af.refl _) (by rw [cU];exact k4)⟩) (by rw [aD,fQ];exact b_ (by lia)) (fun _ j y _=>y=.int (dZ b (ms.map fun v=>gz v j) % p)) (fun _ _ _ _ _ _ h _ _=>h) ?_ ?_))
  ·intro D' j x hj Hc R' sc _ kc
   obtain ⟨eP,rfl⟩:=k7 hj;have LD:=sc _ _ (keep kx (wJ _ _ eM));refine ⟨_,rfl,_,rfl,e_ (xs:=mv) (fun R h=>⟨_,rfl,M,rfl,⟨_,.of LD⟩,h _ _ (af.refl _) (fL (.of LD))⟩) (b_ (by lia)) (fun _ i y _=>∀v,ms[i]?=some v→y=.int (gz v j)) (fun _ _ _ _ _ _ h _ _=>h) ?_ ?_⟩
   ·intro D2 i2 x2 h2 Hd R2 sd _ kd
    obtain ⟨_,Vo⟩:=hM.at eM;obtain ⟨v2,r2,e2,m2,rfl,kr⟩:=Vo i2 x2 h2;refine ⟨_,rfl,_,rfl,r2,_,_,_,rfl,rfl,.of (sd _ _ (sc _ _ (keep kx (wJ _ _ kr)))),CZ (by rw [(Vl v2 m2).1];exact eP),kd _ _ (af.refl _) fun v hv=>?_⟩
    rw [e2] at hv;cases hv;rfl
   ·intro D2 ys Hd Ax sd dU hP jB
    have ey:ys=(ms.map fun v=>gz v j).map V.int:=by
     refine kG (by rw [dU,lM,aD,aD]) fun i h1 h2=>?_
     have hi:i<ms.length:=by simpa using h2
     rw [gP,gP];exact hP i _ (bw h1) _ (bw hi)
    refine ⟨p,r,D2,b,ms.map fun v=>gz v j,rfl,by lia,sd _ _ (sc _ _ (keep kx er)),by rw [jB,ey],bz.2.weak (by lia),by lia,by rw [aD];lia,fun H' s'=>kc _ _ (sd.trans s') rfl⟩
  ·intro D' ys Hc uu sc dU hP jx
   have ey:ys=(cI p m ms b).map V.int:=by
    unfold cI;rw [oU];refine kG (by rw [dU];simp) fun i h1 h2=>?_
    rw [gP,List.getElem_range];exact hP i _ (bw h1)
   subst ey;dsimp only [aS];refine bK ⟨_,rfl,_,rfl,D',_,rfl,.inl ⟨.of jx,fun l nl=>?_⟩⟩;have sl:af Hc (upd Hc l (.tup ((cI p m ms b).map V.int))):=aK nl;have el:upd Hc l (.tup ((cI p m ms b).map V.int)) l=some (.tup ((gL (cI p m ms b)).map kV)):=by rw [aB,Jg]
   generalize upd Hc l (.tup ((cI p m ms b).map V.int))=Hd at sl el ⊢;refine ⟨D,_,rfl,vU.t (k:=gL (cI p m ms b)) (sl _ _ (sc _ _ wK)) el (b_ (by lia)),?_⟩
   refine ⟨_,rfl,_,_,rfl,rfl,?_⟩;refine ⟨_,_,rfl,fun c o nc e=>(aH nc).trans (sl _ _ (sc _ _ (kx c o nc e))),?_⟩;rw [aB,Sm Vn,tk,oV];rfl
 ·rintro σ Hx ⟨v6,v7,rfl,kx,wK⟩
  rw [lR,uP] at wK;have DV:=keep kx (wJ _ _ eG);have lg:gone.length=(bQ p ms.length).length:=by rw [pm.length_eq,aD]
  have lD:(i9 ((bQ p ms.length).map (cI p m ms))).length=(bQ p ms.length).length:=by unfold i9;rw [aD,aD]
  dsimp only;refine kf ⟨_,rfl,_,rfl,G,gv,rfl,.inl (.of DV),rfl,true,by rw [lG,lR,lg];simp,dh ?_⟩
  refine ⟨_,rfl,D,_,rfl,.inl wK,by lia,_,rfl,rfl,true,by rw [lD,lR];simp,dh ?_⟩
  refine r6 (e_ (xs:=gv) (fun R h=>⟨_,rfl,G,rfl,⟨_,.of DV⟩,h _ _ (af.refl _) (fL (.of DV))⟩) (b_ (by lia)) (fun _ i y _=>y=.bl true) (fun _ _ _ _ _ _ h _ _=>h) ?_ ?_)
  ·intro D2 i2 x2 h2 Hd R2 sd _ kd
   obtain ⟨_,DC⟩:=hG.at eG;obtain ⟨v2,r2,e2,m2,rfl,kr⟩:=DC i2 x2 h2;refine ⟨_,rfl,r2,_,rfl,.inl ⟨.of (sd _ _ (keep kx (wJ _ _ kr))),fun l nl=>?_⟩⟩;have el:upd Hd l (.tup (v2.map V.int)) l=some (.tup ((gL v2).map kV)):=by rw [aB,Jg]
   refine ⟨_,rfl,D,_,rfl,vT.t (k:=gL v2) (aK nl _ _ (sd _ _ wK)) el,kd _ _ (aK nl) ?_⟩;rw [CY,cN (pm.mem_iff.mp m2)]
  ·intro D2 ys Hd Ax sd dU hP jB
   refine ⟨D2,List.replicate ys.length true,rfl,.of (by rw [jB];exact dR _ (dR _ (vC hP))),?_⟩
   rw [yz];exact kk _ (fun b o e=>sd _ _ (kx _ _ (fun z=>by rw [z,nD] at e;cases e) (wJ _ _ e)))
theorem Vp:bB ["p","table","aim","images","found","n","m","hits","gone"] ["p","table","aim","images","found"] (aR zI):=bU
theorem LF(T:Txt K mg t):aT P w K mg base bV 5 t.qp t.tN ["p","table","aim","images","found"] Sw:=by
 have S:=Vp;refine T.qB.cA S (fun _ _ _ _ H _ _ _ hr h=>?_);obtain ⟨p,m,tb,am,im,fo,tab,as,rfl,p2,p7,m1,m6,pm,hT,wd,n1,n4,qK,la,hI,hF,kk⟩:=h;have qJ:=hr.units;have Vm:=eK (uU (show 1≤64 by decide) _) hr.units
 have hu:=eK (uU (show 1≤64 by decide) _) hr.units
 refine ⟨_,(ao (di 5 S.nd (bc df rfl T.cS cV (aa (pv 1) ag)))
  (ao (di 6 S.nd (bc df rfl T.cS cV (aa (aG dc (pv 1) aj) ag)))
  (ao (Jq (i0:=7) (N:=["row","image","aim"]) (ρ:=(fun σ=>[σ[2]?.join])) (nW [2] rfl) rfl S.nd rfl (Or.inl rfl) (eL (pv 3)) (fun _ _ _=>(.one (bJ (Jk (K:=K) qJ) (pv 1) (pv 2)))) (fun _ _ _=>(pv 0)))
  (ao (bL (PW.pt (pw_or (iK (gC (bc (fJ (K:=K)) rfl T.fz boot_isinstance (aa (pv 4) (aa (jM (v:=.ty "tuple") rfl T.qC boot_tuple rfl) ag))))) (pw_or1 (bJ rC (bc df rfl T.cS cV (aa (pv 4) ag)) aj)))) (az (aV gR)) bS)
  (ao (bL (bJ (Sv qJ) (pv 7) (dD ag)) (ao (bL (PW.pt (pw_or (bJ jQ (bc df rfl T.cS cV (aa (pv 4) ag)) aj) (pw_or (bJ jQ (aG bC (pv 4) aj) fZ) (pw_or1 (iK (gC (aQ (DK T) hr T.Aa T.oo.kp T.z_ aX (aa (pv 0) (aa (aG bC (pv 4) aj) (aa (pv 5) ag)))))))))) (az (aV gR)) bS)
  (ao (bL (iK (gC (bc (yh (K:=K) rfl) rfl T.wq boot_all (aa (B4 (N:=["j","p","found","table"]) (ρ:=(fun σ=>[σ[0]?.join,σ[4]?.join,σ[1]?.join])) ⟨rfl,rfl,(fun _=>rfl),(fun _=>rfl),by decide +kernel,(gw.mpr ⟨rfl,(gw.mpr ⟨rfl,(gw.mpr ⟨rfl,(oI _)⟩)⟩)⟩),vt (by rfl),rfl,by decide +kernel,rfl,(fun σ j v h=>match j,h with | 0,h=>⟨0,_,rfl,rfl,join_some h,Or.inr (Or.inl rfl),.inl rfl,.inl rfl⟩ | 1,h=>⟨4,_,rfl,rfl,join_some h,Or.inr (Or.inl rfl),.inl rfl,.inl rfl⟩ | 2,h=>⟨1,_,rfl,rfl,join_some h,Or.inr (Or.inl rfl),.inl rfl,.inl rfl⟩ | j+3,h=>by cases h),(fun _ _=>rfl)⟩ rfl (gS rfl T.gs (aa (pv 6) ag)) (fun _ _ _=>.nil) (fun _ _ _=>(jR dN (aQ (oA T) hr T.mK T.ja.kp T.mJ aX (aa (pv 1) (aa (aG (yu (K:=K)) (pv 2) aj) (aa (e9 (N:=["row","j"]) (ρ:=(fun σ=>[σ[0]?.join])) (dO [0] rfl) rfl (yw (K:=K) (pv 3)) (fun _ _ _=>.nil) (fun _ _ _=>(aG (nX (K:=K)) (pv 0) (pv 1)))) ag)))) aj))) ag)))) (az (aV gR)) bS)
  (az (aV (jR dN (aQ (oA T) hr T.mK T.ja.kp T.mJ aX (aa (pv 0) (aa (aG bC (pv 4) aj) (aa (pv 2) ag)))) aj))))) bS)
  (ao (bL (PW.pt (pw_or (iK (gC (aQ (DK T) hr T.Aa T.oo.kp T.z_ aX (aa (pv 0) (aa (aG bC (pv 4) aj) (aa (pv 6) ag)))))) (pw_or1 (rE (Ss qJ) (aG bC (pv 4) aj) (pv 7) rfl)))) (az (aV gR)) bS)
  (ao (bL (bJ dN (bc df rfl T.cS cV (aa (pv 7) ag)) aj) (az (aV (fS (jR dN (bc df rfl T.cS cV (aa (pv 4) ag)) aj) (kO (jR dN (aG bC (pv 4) aj) fZ))))) bS)
  (ao (bL (PW.pt (pw_or (bJ jQ (bc df rfl T.cS cV (aa (pv 4) ag)) aj) (pw_or (bJ jQ (aG bC (pv 4) aj) fZ) (pw_or (iK (gC (bc (fJ (K:=K)) rfl T.fz boot_isinstance (aa (aG bC (pv 4) aj) (aa (jM (v:=.ty "list") rfl T.ot boot_list rfl) ag))))) (pw_or1 (bJ xN (bc df rfl T.cS cV (aa (aG bC (pv 4) aj) ag)) (pv 6))))))) (az (aV gR)) bS)
  (ao (bL (iK (gC (bc (yh (K:=K) rfl) rfl T.wq boot_all (aa (e9 (N:=["row","p","m"]) (ρ:=(fun σ=>[σ[0]?.join,σ[6]?.join])) (dO [0,6] rfl) rfl (eL (aG bC (pv 4) aj)) (fun _ _ _=>.nil) (fun _ _ _=>(aQ (DK T) hr T.Aa T.oo.kp T.z_ aX (aa (pv 1) (aa (pv 0) (aa (pv 2) ag)))))) ag)))) (az (aV gR)) bS)
  (ao (Jq (i0:=8) (N:=["row","image","n"]) (ρ:=(fun σ=>[σ[5]?.join])) (nW [5] rfl) rfl S.nd rfl (Or.inl rfl) (eL (pv 3)) (fun _ _ _=>(.one (bJ (Jk (K:=K) qJ) (pv 1) (av xZ (dD (aa aj ag)) (pv 2))))) (fun _ _ _=>(pv 0)))
  (az (aV (aQ (Vk T) hr T.J6 T.uj.kp T.J5 aX (aa (pv 0) (aa (aG bC (pv 4) aj) (aa (pv 8) (aa (pv 6) ag))))))))))))))))),?_⟩
 obtain ⟨tv,eT,lT,_⟩:=id hT;have q2:(2:Int)≤(p:Int):=by lia
 have t0:tv[0]?=some (tv[0]'(by lia)):=bw _
 obtain ⟨Vq,r0,_,m0,wL,e0⟩:=(hT.at eT).2 0 _ t0;have l0:=(wd Vq m0).1;have DU:(bQ p m).length≤128:=by rw [pK];exact pm
 refine bK (fM ⟨_,rfl,tb,tv,rfl,.inl (.of eT),?_⟩);dsimp only [aS];refine bK (fM ⟨_,rfl,tb,tv,0,_,rfl,rfl,.of eT,e8 (j:=0) t0,r0,_,by rw [wL],.inl (.of e0),?_⟩)
 rw [aD,l0,lT];dsimp only [aS];refine bK (fM (Jj (fun x=>decide (eV p tab x=as)) hI (fun R h=>by obtain ⟨iv,eI,_⟩:=id hI;exact ⟨_,rfl,im,rfl,⟨_,.of eI⟩,h⟩) (b_ (by lia)) (fun r m' x hx Hc R sc em hR=>?_) (fun r m' Hc R h=>⟨_,rfl,h⟩) fun D H1 nD s1 TD=>?_))
 ·exact ⟨_,rfl,_,rfl,m',am,_,as,rfl,rfl,.of em,.of (sc _ _ qK),_,rfl,hR _ (af.refl _)⟩
 have TD:dA H1 D (c_ p m tab as):=TD;obtain ⟨dv,eD,lD,_⟩:=id TD;have Vr:=hF.mono s1;have h2:∀{xs:List V},2≤xs.length→decide ((xs.length:Int)<2)=false:=fun h=>dI (by lia)
 have lh:(c_ p m tab as).length≤128:=aN (List.length_filter_le _ _) DU;dsimp only [aS];cases Vr with
 | no ef er ly iy bz b1=>
  rename_i r ys
  have hn:=Sa p2 (fun t ht=>(wd t ht).1) ly la bz b1;rw [hn] at lD;have dn:dv=[]:=List.eq_nil_of_length_eq_zero lD;refine bK ⟨_,rfl,_,_,_,_,rfl,rfl,.of (.tup ef),rfl,true,rfl,bW ?_⟩;refine ⟨_,rfl,fo,_,rfl,.inr (.of ef),_,_,rfl,rfl,false,rfl,bW ?_⟩;dsimp only [f9];refine bK ⟨_,rfl,cT _,fun e ne=>⟨D,e,dv,rfl,rfl,.of (aK ne _ _ eD),aB,_,rfl,?_⟩⟩;rw [dn];refine dh ?_;have s2:af H (upd H1 e (.lst [])):=s1.trans (aK ne);have jb:=aK (o:=.lst []) ne _ _ ef;have kr:=aK (o:=.lst []) ne _ _ er;generalize upd H1 e (.lst [])=H2 at s2 jb kr ⊢;refine bK ⟨_,rfl,fo,_,rfl,.inr (.of jb),rfl,false,rfl,bW ?_⟩;refine ⟨_,rfl,fo,_,_,_,rfl,rfl,.of jb,rfl,rfl,false,by simp,bW ?_⟩
  refine ⟨_,rfl,_,rfl,fo,_,_,_,rfl,rfl,.of jb,rfl,_,rfl,p,r,bX ys,_,rfl,yW q2 kr iy,by rw [i6,ly],by rw [i6,ly];lia,yX,fun H3 s3=>⟨true,rfl,bW ?_⟩⟩
  have DW:=s2.trans s3;have mR:=s3 _ _ jb;have LG:=s3 _ _ kr;dsimp only [f9];refine bK ?_;refine r6 (e_ (xs:=(List.range m).map fun i:Nat=>V.int (0+(i:Int))) (fun R h=>⟨_,rfl,(m:Int),rfl,by lia,by lia,h _ _ (af.refl _) (by rw [cU];exact k4)⟩) (by rw [aD,fQ];exact b_ (by lia)) (fun _ i y _=>y=.bl true) (fun _ _ _ _ _ _ h _ _=>h) ?_ ?_)
  ·intro D' j x hj Hc R' sc _ kc
   obtain ⟨eP,rfl⟩:=k7 hj;have wM:=(DW.trans sc) _ _ eT;refine ⟨_,rfl,_,rfl,fo,_,_,_,rfl,rfl,.of (sc _ _ mR),rfl,e_ (xs:=tv) (fun R h=>⟨_,rfl,tb,rfl,⟨_,.of wM⟩,h _ _ (af.refl _) (fL (.of wM))⟩) (b_ (by lia)) (fun _ i y _=>∀v,tab[i]?=some v→y=.int (gz v j)) (fun _ _ _ _ _ _ h _ _=>h) ?_ ?_⟩
   ·intro D2 i2 x2 h2 Hd R2 sd _ kd
    obtain ⟨v2,r2,e2,m2,rfl,kr⟩:=(hT.at eT).2 i2 x2 h2;refine ⟨_,rfl,_,rfl,r2,_,_,_,rfl,rfl,.of (sd _ _ ((DW.trans sc) _ _ kr)),CZ (by rw [(wd v2 m2).1];exact eP),kd _ _ (af.refl _) fun v hv=>?_⟩
    rw [e2] at hv;cases hv;rfl
   ·intro D2 zs Hd Ax sd dU hP jB
    have ey:zs=(tab.map fun v=>gz v j).map V.int:=by
     refine kG (by rw [dU,lT,aD,aD]) fun i h1 h2=>?_
     have hi:i<tab.length:=by simpa using h2
     rw [gP,gP];exact hP i _ (bw h1) _ (bw hi)
    refine ⟨p,r,D2,ys,tab.map fun v=>gz v j,rfl,by lia,sd _ _ (sc _ _ LG),by rw [jB,ey],iy.weak (by lia),by lia,by rw [aD];lia,fun H' s'=>⟨rfl,kc _ _ (sd.trans s') ?_⟩⟩
    rw [Sx ly,vW (bz j eP)];simp
  ·intro D2 zs Hd Ax sd dU hP jB
   refine ⟨D2,List.replicate zs.length true,rfl,.of (by rw [jB];exact dR _ (dR _ (vC hP))),_,rfl,?_⟩
   rw [yz];refine bW ?_;dsimp only [f9];have ux:=DW.trans sd;refine ⟨_,rfl,_,rfl,fo,_,_,_,rfl,rfl,.of (sd _ _ mR),rfl,_,rfl,p,r,am,ys,as,rfl,by lia,sd _ _ LG,ux _ _ qK,iy.weak (by lia),by lia,by lia,fun H' s'=>⟨rfl,?_⟩⟩
   have:=kk H' (ux.trans s');rw [vW b1,jf (by decide) (by lia)]
   simpa using this
 | one ef er hx h1=>
  rename_i r xs
  obtain ⟨⟨lx,ix⟩,_⟩:=kn.mp hx;have d1:dv.length=1:=lD.trans h1;have de:dv.isEmpty=false:=by
   cases dv with
   | nil=>cases d1
   | cons=>rfl
  refine bK ⟨_,rfl,_,_,_,_,rfl,rfl,.of (.tup ef),rfl,true,rfl,bW ?_⟩;refine ⟨_,rfl,fo,_,rfl,.inr (.of ef),_,_,rfl,rfl,false,rfl,bW ?_⟩;dsimp only [f9];refine bK ⟨_,rfl,cT _,fun e ne=>⟨D,e,dv,rfl,rfl,.of (aK ne _ _ eD),aB,_,rfl,?_⟩⟩;rw [de];refine bW ?_;have s2:af H1 (upd H1 e (.lst [])):=aK ne;generalize upd H1 e (.lst [])=H2 at s2 ⊢;dsimp only [f9];refine bK ⟨_,rfl,_,rfl,fo,_,_,_,rfl,rfl,.of (s2 _ _ ef),rfl,_,rfl,p,r,bX xs,_,rfl,yW q2 (s2 _ _ er) ix,by rw [i6,lx],by rw [i6,lx];lia,yX,fun H3 s3=>⟨true,rfl,bW ?_⟩⟩
  have eJ:=s2.trans s3;refine ⟨_,rfl,fo,_,_,_,rfl,rfl,.of (eJ _ _ ef),rfl,_,rfl,r,D,xs,c_ p m tab as,rfl,rfl,eJ _ _ er,TD.mono eJ,hx,false,rfl,bW ?_⟩;dsimp only [f9];refine bK ⟨_,rfl,D,dv,rfl,.inl (.of (eJ _ _ eD)),rfl,_,rfl,?_⟩;rw [d1];refine dh ?_;refine ⟨_,rfl,fo,_,rfl,.inr (.of (eJ _ _ ef)),rfl,true,rfl,dh ?_⟩;refine ⟨_,rfl,fo,_,_,_,rfl,rfl,.of (eJ _ _ ef),rfl,rfl,?_⟩;have:=kk H3 (s1.trans eJ);simpa using this
 | many ef er hx h1 LH M=>
  rename_i r u xs ms fs
  obtain ⟨⟨lx,ix⟩,_⟩:=kn.mp hx;have d1:dv.length≠1:=fun z=>h1 (lD.symm.trans z);have de:dv.isEmpty=false:=by
   cases dv with
   | nil=>have:=xq hx;rw [←lD] at this;cases this
   | cons=>rfl
  obtain ⟨uv,eU,lU,_⟩:=id LH;have lm:=Sy M;have Vs:=s1;refine bK ⟨_,rfl,_,_,_,_,rfl,rfl,.of (.tup ef),rfl,true,rfl,bW ?_⟩;refine ⟨_,rfl,fo,_,rfl,.inr (.of ef),_,_,rfl,rfl,false,rfl,bW ?_⟩;dsimp only [f9];refine bK ⟨_,rfl,cT _,fun e ne=>⟨D,e,dv,rfl,rfl,.of (aK ne _ _ eD),aB,_,rfl,?_⟩⟩;rw [de];refine bW ?_;have s2:af H1 (upd H1 e (.lst [])):=aK ne;generalize upd H1 e (.lst [])=H2 at s2 ⊢;dsimp only [f9];refine bK ⟨_,rfl,_,rfl,fo,_,_,_,rfl,rfl,.of (s2 _ _ ef),rfl,_,rfl,p,r,bX xs,_,rfl,yW q2 (s2 _ _ er) ix,by rw [i6,lx],by rw [i6,lx];lia,yX,fun H3 s3=>⟨true,rfl,bW ?_⟩⟩
  have eJ:=s2.trans s3;refine ⟨_,rfl,fo,_,_,_,rfl,rfl,.of (eJ _ _ ef),rfl,_,rfl,r,D,xs,c_ p m tab as,rfl,rfl,eJ _ _ er,TD.mono eJ,hx,false,rfl,bW ?_⟩;dsimp only [f9];refine bK ⟨_,rfl,D,dv,rfl,.inl (.of (eJ _ _ eD)),rfl,_,rfl,?_⟩;rw [kU,dI (show ¬((dv.length:Int)=1) by lia)]
  refine bW ?_;dsimp only [f9];have mR:=eJ _ _ ef;have wN:=eJ _ _ eU;have LI:=LH.mono eJ;refine bK ⟨_,rfl,fo,_,rfl,.inr (.of mR),rfl,false,rfl,bW ?_⟩;refine ⟨_,rfl,fo,_,_,_,rfl,rfl,.of mR,rfl,rfl,false,by simp,bW ?_⟩
  refine ⟨_,rfl,fo,_,_,_,rfl,rfl,.of mR,rfl,_,_,_,_,rfl,rfl,.of (.lst wN),yi,true,rfl,bW ?_⟩;refine ⟨_,rfl,fo,_,_,_,rfl,rfl,.of mR,rfl,u,uv,rfl,.inl (.of wN),_,rfl,_,_,rfl,rfl,false,dR V.bl (dI (by lia)),bW ?_⟩
  dsimp only [f9];refine bK ?_;refine r6 (e_ (xs:=uv) (fun R h=>⟨_,rfl,fo,_,_,_,rfl,rfl,.of mR,rfl,u,rfl,⟨_,.of wN⟩,h _ _ (af.refl _) (fL (.of wN))⟩) (b_ (by lia)) (fun _ i y _=>y=.bl true) (fun _ _ _ _ _ _ h _ _=>h) ?_ ?_)
  ·intro D' j x hj Hc R' sc _ kc
   obtain ⟨v2,r2,e2,m2,rfl,kr⟩:=(LI.at wN).2 j x hj;obtain ⟨lv,iv⟩:=M.row v2 m2;exact ⟨_,rfl,_,rfl,_,rfl,p,r2,bX v2,_,rfl,yW q2 (sc _ _ kr) iv,by rw [i6,lv],by rw [i6,lv];lia,yX,fun H' s'=>kc _ _ s' rfl⟩
  ·intro D2 zs Hd Ax sd dU hP jB
   refine ⟨D2,List.replicate zs.length true,rfl,.of (by rw [jB];exact dR _ (dR _ (vC hP))),_,rfl,?_⟩
   rw [yz];refine bW ?_;dsimp only [f9];have ux:=Vs.trans (eJ.trans sd);have LJ:∀t∈tab,t.length=m:=fun t ht=>(wd t ht).1;obtain ⟨nd,Vt⟩:=R4 M LJ (by lia)
   refine bK (fM (Jj (fun x=>decide (eV p tab x=List.replicate tab.length 0)) (hI.mono ux) (fun R h=>by obtain ⟨iv,eI,_⟩:=id (hI.mono ux);exact ⟨_,rfl,im,rfl,⟨_,.of eI⟩,h⟩) (b_ (by lia)) (fun r' m' x Fx Hc R sc em hR=>?_) (fun r' m' Hc R h=>⟨_,rfl,h⟩) fun D3 H5 nD3 s5 Vu=>?_))
   ·refine ⟨_,rfl,by show 1≤sizeLine;decide,fun e ne=>⟨_,rfl,e,(tab.length:Int),_,rfl,rfl,aB,by lia,by lia,aN (show _≤100 by simp;lia) (by decide),fun y ny=>?_⟩⟩
    have LK:=(aK (o:=.lst [.int 0]) ne).trans (aK (o:=.lst (List.replicate (tab.length:Int).toNat [V.int 0]).flatten) ny);refine ⟨m',y,eV p tab x,List.replicate tab.length 0,rfl,rfl,.of (LK _ _ em),.of ?_,_,rfl,hR _ LK⟩;rw [aB];simp
   ·dsimp only [aS]
    refine ⟨_,rfl,_,rfl,fo,_,_,_,rfl,rfl,.of (s5 _ _ (sd _ _ mR)),rfl,_,rfl,_,rfl,p,m,u,D3,ms,(bQ p m).filter fun x=>decide (eV p tab x=List.replicate tab.length 0),rfl,by lia,p7,m6,by lia,aN (oJ (by lia) lm) pm,(LI.mono sd).mono s5,M.row,Vu,nd,Vt,fun H6 s6=>kk H6 (ux.trans (s5.trans s6))⟩
theorem Txt.Vv{t:zO}(T:Txt K mg t):nH K t.br:=⟨T.KG,T.KH,T.KI,T.KJ,T.KL,T.KN⟩
theorem Vw:bB ["world","table","aim","fits","e"] ["world","table","aim"] (aR zJ):=bU
theorem Vx(T:Txt K mg t):aT P w K mg base bV 8 t.qr t.tO ["world","table","aim"] (Sz t.bN):=by
 have S:=Vw;have Vy:=DI (P:=P) (w:=w) (base:=base) T;refine T.uk.ok S (fun vs H0 Q E h=>?_) (fun aU A outer s H0 vs Q E hr h=>?_)
 ·obtain ⟨z,a,b,p,m,tab,as,rfl,_⟩:=h
  rfl
 ·obtain ⟨z,a,b,p,m,tab,as,rfl,hz,hq,p2,hT,wd,eb,n1,n4,m6,iw,k0⟩:=h
  refine ⟨_,(ao (putL 3 S.nd gR)
   (ao (OX rfl rfl S.nd (i:=4) rfl rfl (OP (ON Vy (hr.mono (by decide)) rfl T.zX T.mG.kp T.zW .nil (aa (pv 0) (aa (pv 1) (aa (pv 2) ag)))))
    (fun ea=>(ao (putL 3 S.nd (fS (bc (fJ (K:=K)) rfl T.fz boot_isinstance (aa (pv 4) (aa (jM (v:=.ty "ValueError") rfl T.Ko Pg rfl) ag))) (fS (bc (fJ (K:=K)) rfl T.fz boot_isinstance (aa (pv 4) (aa (kN (v:=.ref _) rfl T.Ag rfl) ag))) (kO (lQ (bc (fJ (K:=K)) rfl T.fz boot_isinstance (aa (pv 4) (aa (kN (v:=.ref _) rfl T.Dc rfl) ag))))))))
   (ao (putL 3 S.nd (fS (pv 3) (fS (lQ (bc (fJ (K:=K)) rfl T.fz boot_isinstance (aa (pv 4) (aa (kN (v:=.ref _) rfl T.Af rfl) ag)))) (fS (lQ (bc (fJ (K:=K)) rfl T.fz boot_isinstance (aa (pv 4) (aa (kN (v:=.ref _) rfl T.Kg rfl) ag)))) (kO (lQ (bc (fJ (K:=K)) rfl T.fz boot_isinstance (aa (pv 4) (aa (kN (v:=.ref _) rfl T.Kh rfl) ag)))))))))
   (az (putL 3 S.nd (fS (pv 3) (fS (lQ (bc (fJ (K:=K)) rfl T.fz boot_isinstance (aa (pv 4) (aa (kN (v:=.ref _) rfl T.Ki rfl) ag)))) (fS (lQ (bc (fJ (K:=K)) rfl T.fz boot_isinstance (aa (pv 4) (aa (kN (v:=.ref _) rfl T.Kj rfl) ag)))) (kO (lQ (bc (fJ (K:=K)) rfl T.fz boot_isinstance (aa (pv 4) (aa (kN (v:=.ref _) rfl T.Kk rfl) ag))))))))))))) rfl T.Kf T.Ks rg.hasBase)
   (az (aV (pv 3))))),?_⟩
  refine ⟨_,rfl,_,rfl,_,rfl,z,a,b,p,m,tab,as,rfl,hz,hq,p2,hT,wd,eb,n1,n4,m6,fun _ H s0=>⟨_,rfl,⟨T.Ah,T.Kt⟩,fun ea Vz=>?_⟩,fun he=>absurd he iw⟩;have k:∀H',af H H'→Q (.bl true) H':=fun H' s'=>k0 H' (s0.trans s');have ty:rO K (upd H ea (rK ea t.br)) (.ref ea) (.ref t.br):=.exc aB T.Vv;refine ⟨_,rfl,_,_,_,true,rfl,rfl,ty,T.Ku,true,rfl,dh ?_⟩;refine ⟨_,rfl,_,_,_,true,rfl,rfl,ty,T.Kv,true,rfl,dh ?_⟩;refine ⟨_,rfl,_,_,_,false,rfl,rfl,ty,T.Kw,false,rfl,?_⟩;refine ⟨_,rfl,true,rfl,dh ⟨_,rfl,_,_,_,false,rfl,rfl,ty,T.Kx,false,rfl,true,rfl,dh ?_⟩⟩;refine ⟨_,rfl,_,_,_,false,rfl,rfl,ty,T.Ky,false,rfl,true,rfl,dh ?_⟩;refine ⟨_,rfl,_,_,_,false,rfl,rfl,ty,T.Kz,false,rfl,?_⟩;refine ⟨_,rfl,true,rfl,dh ⟨_,rfl,_,_,_,false,rfl,rfl,ty,T.KA,false,rfl,true,rfl,dh ?_⟩⟩;refine ⟨_,rfl,_,_,_,false,rfl,rfl,ty,T.KC,false,rfl,true,rfl,dh ?_⟩;refine ⟨_,rfl,_,_,_,false,rfl,rfl,ty,T.KD,false,rfl,?_⟩;exact ⟨_,rfl,k _ (aK Vz)⟩
theorem VA{p:Int}(h1:2≤p)(h2:p≤997)(h3:iT p=true):(Td.b "wheel" p).good=true:=by simp [Td.good,Td.yf,Td.jl,h1,h2,h3]
theorem VB:bB ["script","draw","p","m","n","world","table","aim","row","images","handed","found","many"] ["script"] (aR zK):=bU
theorem VC(T:Txt K mg t):aT P w K mg base bV 12 t.n_ t.qt ["script"] (ym K):=by
 have S:=VB;have VD:=S0 (P:=P) (w:=w) (base:=base) T;refine T.um.cA S (fun _ _ _ s H _ _ _ hr h=>?_);obtain ⟨a,ns,rfl,hS,hlen,kQ⟩:=h;have qJ:=hr.units;have hu:=eK (uU (show 1≤64 by decide) _) hr.units
 refine ⟨_,(ao (putL 1 S.nd (aQ (oz T) hr T.mI T.i_.kp T.mH aX (aa (pv 0) (aa aj ag))))
  (ao (di 2 S.nd (aG dc (dD (aa aj (aa aj (aa aj (aa aj ag))))) (av cp (pv 1) aj)))
  (ao (putL 3 S.nd (av ik aj (av cp (av fU (pv 1) aj) (aG dc (dD (aa aj (aa aj (aa aj (aa aj ag))))) (av cp (pv 1) aj)))))
  (ao (di 4 S.nd (av ik aj (av cp (av fU (pv 1) aj) aj)))
  (ao (putL 5 S.nd (NI T.Ab VD (hr.mono (by decide)) rfl T.Ke T.J_ .nil jj (aa (gF (aa fZ (aa (pv 2) ag))) ag)))
  (ao (di 6 S.nd (aQ (U4 T) hr T.J4 T.ui.kp T.J2 aX (aa (pv 0) (aa (pv 2) (aa (pv 4) (aa (pv 3) (aa aj ag)))))))
  (ao (di 7 S.nd (e9 (N:=["i","script","p"]) (ρ:=(fun σ=>[σ[0]?.join,σ[2]?.join])) (dO [0,2] rfl) rfl (gS rfl T.gs (aa (pv 4) ag)) (fun _ _ _=>.nil) (fun _ _ _=>(av cp (aQ (oz T) hr T.mI T.i_.kp T.mH aX (aa (pv 1) (aa (av ik aj (pv 0)) ag))) (pv 2)))))
  (ao (bL (bJ dN (av cp (aQ (oz T) hr T.mI T.i_.kp T.mH aX (aa (pv 0) (aa aj ag))) aj) aj) (ao (di 8 S.nd (e9 (N:=["j","script","p"]) (ρ:=(fun σ=>[σ[0]?.join,σ[2]?.join])) (dO [0,2] rfl) rfl (gS rfl T.gs (aa (pv 3) ag)) (fun _ _ _=>.nil) (fun _ _ _=>(av cp (aQ (oz T) hr T.mI T.i_.kp T.mH aX (aa (pv 1) (aa (av ik aj (pv 0)) ag))) (pv 2)))))
  (az (di 7 S.nd (e9 (N:=["some","p","row"]) (ρ:=(fun σ=>[σ[2]?.join,σ[8]?.join])) (dO [2,8] rfl) rfl (eL (pv 6)) (fun _ _ _=>.nil) (fun _ _ _=>(aQ (oA T) hr T.mK T.ja.kp T.mJ aX (aa (pv 1) (aa (pv 0) (aa (pv 2) ag))))))))) bS)
  (ao (Hl (i0:=9) (N:=["row","table","p"]) (ρ:=(fun σ=>[σ[6]?.join,σ[2]?.join])) ⟨rfl,rfl,(fun _=>rfl),(fun _=>rfl),by decide +kernel,(gw.mpr ⟨rfl,(gw.mpr ⟨rfl,(oI _)⟩)⟩),vt (by rfl),rfl,by decide +kernel,rfl,(fun σ j v h=>match j,h with | 0,h=>⟨6,_,rfl,rfl,join_some h,Or.inr (Or.inl rfl),.inl rfl,.inl rfl⟩ | 1,h=>⟨2,_,rfl,rfl,join_some h,Or.inr (Or.inl rfl),.inl rfl,.inl rfl⟩ | j+2,h=>by cases h),(fun _ _=>rfl)⟩ rfl S.nd rfl (Or.inl rfl) (eL (aQ (Ly T) hr T.C8 T.qA.kp T.C7 aX (aa (pv 2) (aa (pv 3) ag)))) (fun _ _ _=>.nil) (fun _ _ _=>(gF (aa (pv 0) (aa (e9 (N:=["some","p","row"]) (ρ:=(fun σ=>[σ[2]?.join,σ[0]?.join])) (dO [2,0] rfl) rfl (yw (K:=K) (pv 1)) (fun _ _ _=>.nil) (fun _ _ _=>(aQ (oA T) hr T.mK T.ja.kp T.mJ aX (aa (pv 1) (aa (pv 0) (aa (pv 2) ag)))))) ag)))))
  (ao (putL 10 S.nd (dD (aa (e9 (N:=["row"]) (ρ:=(fun σ=>[])) (dO [] rfl) rfl (eL (pv 6)) (fun _ _ _=>.nil) (fun _ _ _=>(o_ (Ho (K:=K)) rfl T.ot boot_list (aa (pv 0) ag)))) (aa (o_ xV rfl T.ot boot_list (aa (pv 7) ag)) ag))))
  (ao (putL 11 S.nd (aQ (DI T) hr T.zX T.mG.kp T.zW jj (aa (pv 5) (aa (aG dc (pv 10) aj) (aa (aG dc (pv 10) aj) ag)))))
  (ao (bL (PW.pt (pw_or (iK (gC (aQ (LF T) hr T.C_ T.qB.kp T.C9 aX (aa (pv 2) (aa (pv 6) (aa (pv 7) (aa (pv 9) (aa (pv 11) ag)))))))) (pw_or1 (bJ (Qo (n:=2) qJ) (pv 10) (dD (aa (pv 6) (aa (pv 7) ag))))))) (az (aV gR)) bS)
  (ao (oZ (Bz uT AZ A3 l8 (aG bC (pv 11) aj) (aa aj ag)))
  (ao (bL (bJ dN (bc df rfl T.cS cV (aa (pv 11) ag)) aj) (ao (oZ (Bw uT PySem.F.slot_list_clear PySem.F.type_list_clear Oh (aG dc (aG bC (pv 11) aj) aj)))
  (az (oZ (Bw uT PySem.F.slot_list_pop PySem.F.type_list_pop Oe (aG bC (pv 11) aj))))) bS)
  (ao (bL (iK (gC (aQ (LF T) hr T.C_ T.qB.kp T.C9 aX (aa (pv 2) (aa (pv 6) (aa (pv 7) (aa (pv 9) (aa (aQ (DI T) hr T.zX T.mG.kp T.zW jj (aa (pv 5) (aa (aG dc (pv 10) aj) (aa (aG dc (pv 10) aj) ag)))) ag)))))))) (az (aV gR)) bS)
  (ao (putL 12 S.nd (av cp (av fU (aQ (oz T) hr T.mI T.i_.kp T.mH aX (aa (pv 0) (aa aj ag))) aj) aj))
  (ao (bL (bJ dN (pv 12) (pv 4)) (az (putL 12 S.nd (av ik (pv 4) aj))) bS)
  (az (aV (aQ (Vx T) hr T.J8 T.uk.kp T.J7 aX (aa (pv 5) (aa (pv 6) (aa (e9 (N:=["i","aim","n"]) (ρ:=(fun σ=>[σ[7]?.join,σ[4]?.join])) (dO [7,4] rfl) rfl (gS rfl T.gs (aa (pv 12) ag)) (fun _ _ _=>.nil) (fun _ _ _=>(aG (nX (K:=K)) (pv 1) (av cp (pv 0) (pv 2))))) ag))))))))))))))))))))))),?_⟩
 refine bK ⟨_,rfl,a,ns,0,rfl,hS,by lia,by lia,fun H1 s1=>?_⟩
 have d0:=BU ns 0;have d1:=BV ns 0;generalize iW ns 0=d at d0 d1;have LM:=af.seq s1 hS;have d4:=gZ (c:=d) (show (0:Int)<4 by decide)
 obtain ⟨p,M,ep,eM,hq,p2,p7,M1,M6,LN⟩:∃p M:Nat,eO [V.int 2,.int 3,.int 5,.int 7] (d % 4)=some (.int (p:Int))∧eO [V.int 6,.int 4,.int 3,.int 2] (d % 4)=some (.int (M:Int))∧(2≤(p:Int)∧(p:Int)≤997∧iT (p:Int)=true)∧2≤p∧p≤7∧1≤M∧M≤6∧p ^ M≤128:=by
  rcases (show d % 4=0∨d % 4=1∨d % 4=2∨d % 4=3 by lia) with e | e | e | e <;> rw [e]
  ·exact ⟨2,6,rfl,rfl,by decide,by decide,by decide,by decide,by decide,by decide⟩
  ·exact ⟨3,4,rfl,rfl,by decide,by decide,by decide,by decide,by decide,by decide⟩
  ·exact ⟨5,3,rfl,rfl,by decide,by decide,by decide,by decide,by decide,by decide⟩
  ·exact ⟨7,2,rfl,rfl,by decide,by decide,by decide,by decide,by decide,by decide⟩
 have wh:bg (p:Int):=.inr hq;have hp:(0:Int)<(p:Int):=by lia
 try dsimp only [aS]
 refine bK ⟨by show 4≤sizeLine;decide,fun l1 DP=>⟨_,rfl,_,_,rfl,rfl,(by show (0:Int)<4;decide),l1,_,_,_,rfl,rfl,.of aB,ep,?_⟩⟩
 have DX:=af.seq (aK (o:=.lst [.int 2,.int 3,.int 5,.int 7]) DP) LM;generalize upd H1 l1 (.lst [.int 2,.int 3,.int 5,.int 7])=H2 at DX ⊢
 try dsimp only [aS]
 have mid:∀c:Int,0<c→c<10000→BP d c:=fun c h1 h2=>⟨h1,bE.of_lt (by lia) (by lia)⟩
 have hM:(0:Int)<(M:Int):=by lia
 refine bK ⟨_,rfl,_,_,rfl,rfl,mid 4 (by decide) (by decide),by show 4≤sizeLine;decide,fun l2 kq=>⟨_,rfl,_,_,rfl,rfl,(by show (0:Int)<4;decide),l2,_,_,_,rfl,rfl,.of aB,eM,_,_,rfl,rfl,hM,_,_,rfl,rfl,?_⟩⟩
 have dy:=af.seq (aK (o:=.lst [.int 6,.int 4,.int 3,.int 2]) kq) DX;generalize upd H2 l2 (.lst [.int 6,.int 4,.int 3,.int 2])=H3 at dy ⊢;obtain ⟨m,em,m1,mM⟩:∃m:Nat,1+d / 4 % (M:Int)=(m:Int)∧1≤m∧m≤M:=by have:=gZ (c:=d / 4) hM;exact ⟨(1+d / 4 % (M:Int)).toNat,by lia,by lia,by lia⟩
 have pm:p ^ m≤128:=aN (oJ (by lia) mM) LN
 have m6:m≤6:=by lia
 try dsimp only [aS]
 rw [em];clear em mM LN M6 M1 eM hM;refine bK ⟨_,rfl,_,_,rfl,rfl,mid 96 (by decide) (by decide),_,_,rfl,rfl,(by show (0:Int)<4;decide),_,_,rfl,rfl,?_⟩
 obtain ⟨n,en,n1,n4⟩:∃n:Nat,1+d / 96 % 4=(n:Int)∧1≤n∧n≤4:=by
  have:=gZ (c:=d / 96) (show (0:Int)<4 by decide)
  exact ⟨(1+d / 96 % 4).toNat,by lia,by lia,by lia⟩
 try dsimp only [aS]
 rw [en];clear en;refine yO fun _ VE=>⟨_,rfl,by show 2≤sizeLine;decide,fun q nq xw dw nx DY VF=>⟨xw,dw,q,.b "wheel" p,rfl,aB,?_,fun _=>⟨rfl,VE _ _ ?_⟩,fun hg=>absurd ((VA hq.1 hq.2.1 hq.2.2).symm.trans hg) (by decide)⟩⟩
 ·rw [aH (fi aB nx),aH (fi aB DY)]
  exact aB
 generalize D4:upd _ xw _=H4;have sw:af H3 H4:=fun b o e=>by have e1:=aK (o:=.tup [.str "wheel",.int p]) nq _ _ e;rw [←D4,aH (fi e1 nx),aH (fi e1 nx),aH (fi e1 DY)];exact e1
 have hz:fV t.bN H4 xw p:=⟨dw,by rw [←D4,aB,ar (by lia)];rfl⟩
 have D5:=af.seq sw dy;clear D4 nx DY VF nq sw dy DX LM hS
 try dsimp only [aS]
 refine bK ⟨_,rfl,_,rfl,_,rfl,_,rfl,a,ns,p,n,m,3,rfl,D5,by lia,by lia,n1,by lia,m1,m6,by decide,fun tb H5 tab s5 hT ln wd=>?_⟩
 have wO:=af.seq s5 D5;have LO:=hz.mono s5;clear hz D5 s5
 try dsimp only [aS]
 refine bK (fM (e_ (xs:=(List.range n).map fun i:Nat=>V.int (0+(i:Int))) (fun R h=>⟨_,rfl,(n:Int),rfl,by lia,by lia,h _ _ (af.refl _) (by rw [cU];exact k4)⟩) (by rw [aD,fQ];exact b_ (by lia)) (fun D j y Hx=>∃x:Int,y=.int x∧0≤x∧x<(p:Int)) (fun _ _ _ _ _ _ h _ _=>h) ?_ ?_))
 ·intro D' j v hj Hd R' sd _ kd
  obtain ⟨eP,rfl⟩:=k7 hj;exact ⟨_,rfl,_,rfl,_,_,rfl,rfl,a,ns,_,rfl,af.seq sd wO,by lia,by lia,fun H3 s3=>⟨_,rfl,_,_,rfl,rfl,hp,kd _ H3 s3 ⟨_,rfl,gZ hp⟩⟩⟩
 intro VG zs H6 VH s6 D9 hP LQ;obtain ⟨VI,rfl,LR,VJ⟩:=ints_of hP;rw [aD,aD,fQ] at D9
 try dsimp only [aS]
 refine n8 (fun σ Hx=>∃(am:Addr) (as:List Int) (v8:Option V),σ=[some (.ref a),some (.int d),some (.int (p:Int)),some (.int (m:Int)),some (.int (n:Int)),some (.ref xw),some (.ref tb),some (.ref am),v8,none,none,none,none]∧af H5 Hx∧Hx am=some (.lst (as.map V.int))∧as.length=n∧bP p as) (fun R hR=>?_) (fun σ Hx J=>?_)
 ·refine ⟨_,rfl,a,ns,1,rfl,af.seq s6 wO,by decide,by decide,fun H7 s7=>⟨_,_,rfl,rfl,(by show (0:Int)<2;decide),rfl,_,rfl,cG (fun hb=>?_) (fun hb=>hR _ _ ⟨VG,VI,_,rfl,s6.trans s7,s7 _ _ LQ,D9,LR⟩)⟩⟩
  have LS:=s6.trans s7;refine bK (fM (e_ (xs:=(List.range m).map fun i:Nat=>V.int (0+(i:Int))) (fun R h=>⟨_,rfl,(m:Int),rfl,by lia,by lia,h _ _ (af.refl _) (by rw [cU];exact k4)⟩) (by rw [aD,fQ];exact b_ (by lia)) (fun D j y Hx=>∃x:Int,y=.int x∧0≤x∧x<(p:Int)) (fun _ _ _ _ _ _ h _ _=>h) ?_ ?_))
  ·intro D' j v hj Hd R' sd _ kd
   obtain ⟨eP,rfl⟩:=k7 hj;exact ⟨_,rfl,_,rfl,_,_,rfl,rfl,a,ns,_,rfl,af.seq (LS.trans sd) wO,by lia,by lia,fun H3 s3=>⟨_,rfl,_,_,rfl,rfl,hp,kd _ H3 s3 ⟨_,rfl,gZ hp⟩⟩⟩
  intro kP zs H8 nrw s8 VL D_ erw;obtain ⟨rs,rfl,irs,lrs⟩:=ints_of D_;rw [aD,aD,fQ] at VL;have Ea:=LS.trans s8;obtain ⟨tv,eT,lT,_⟩:=id (hT.mono Ea);dsimp only [aS];refine fM (e_ (xs:=tv) (fun R h=>⟨_,rfl,tb,rfl,⟨_,.of eT⟩,h _ _ (af.refl _) (fL (.of eT))⟩) (b_ (by lia)) (fun D j y Hx=>∃x:Int,y=.int x∧0≤x∧x<(p:Int)) (fun _ _ _ _ _ _ h _ _=>h) ?_ ?_)
  ·intro D' j v hj Hd R' sd _ kd
   obtain ⟨t0,r0,_,mt,rfl,wL⟩:=((hT.mono Ea).at eT).2 j v hj;exact ⟨_,rfl,_,rfl,_,rfl,p,r0,kP,t0,rs,rfl,hp,sd _ _ wL,sd _ _ erw,(wd t0 mt).2.weak (by lia),by have:=(wd t0 mt).1;lia,by lia,fun H' s'=>kd _ _ s' ⟨_,rfl,gZ hp⟩⟩
  ·intro am zs H9 _ s9 VM VN qK
   obtain ⟨as,rfl,ia,LU⟩:=ints_of VN;exact hR _ _ ⟨am,as,_,rfl,Ea.trans s9,qK,by rw [aD] at VM;lia,ia⟩
 clear LQ VH s6 D9 hP LR VJ;obtain ⟨am,as,v8,rfl,Ay,qK,LU,ia⟩:=J;have Az:=hT.mono Ay;have LV:=LO.mono Ay;have LW:=af.seq Ay wO;have la:as.length=tab.length:=by lia
 clear hT LO wO Ay;refine yO fun _ VO=>fM (RR ⟨_,rfl,_,rfl,p,m,rfl,p7,m6,by lia,pm,fun R H2 s2 TR=>?_⟩)
 obtain ⟨rv,eR,lR,_⟩:=id TR;have DU:(bQ p m).length≤128:=by rw [pK];exact pm
 obtain ⟨tv,eT,lT,_⟩:=id (Az.mono s2);refine ⟨R,rfl,⟨_,.of eR⟩,SA (eV p tab) TR (fun R h=>h) (b_ (by lia)) (fun r x Hc R' hx sc er kc=>?_) fun im H3 nim s3 hI=>?_⟩
 ·have wM:=sc _ _ eT
  refine ⟨_,rfl,e_ (xs:=tv) (fun R h=>⟨_,rfl,tb,rfl,⟨_,.of wM⟩,h _ _ (af.refl _) (fL (.of wM))⟩) (b_ (by lia)) (fun D j y Hx=>∀t0,tab[j]?=some t0→y=.int (dZ t0 x % p)) (fun _ _ _ _ _ _ h _ _=>h) ?_ ?_⟩
  ·intro D' j v hj Hd R'' sd _ kd
   obtain ⟨t0,r0,e0,mt,rfl,wL⟩:=((Az.mono s2).at eT).2 j v hj;obtain ⟨lx,ix⟩:=kl.mp hx;refine ⟨_,rfl,_,rfl,_,rfl,p,r0,r,t0,x,rfl,hp,sd _ _ (sc _ _ wL),sd _ _ er,(wd t0 mt).2.weak (by lia),by have:=(wd t0 mt).1;lia,by lia,fun H' s'=>kd _ _ s' fun t1 h1=>?_⟩
   rw [e0] at h1;cases h1;rfl
  ·intro D zs Hd nD sd lz hP eD
   have ez:zs=(eV p tab x).map V.int:=by
    unfold eV;rw [oU];refine kG (by rw [lz,lT,aD]) fun i h1 h2=>?_
    have hi:i<tab.length:=by simpa using h2
    rw [gP];exact hP i _ (bw h1) _ (bw hi)
   refine ⟨by show 2≤sizeLine;decide,fun tt LX=>kc tt D _ (sd.trans (aK LX)) aB (aK LX _ _ (by rw [eD,ez])) nD⟩
 refine VO _ _ ?_;have ox:=s2.trans s3;have Eb:=Az.mono ox;have LY:=LV.mono ox;have LZ:=af.seq ox LW;have Ec:=ox _ _ qK;clear Az LV LW qK eT lT ox s2 s3 TR eR lR
 try dsimp only [aS]
 refine yO fun _ VP=>fM (SG (SF rfl Eb (by lia) fun fD H4 nhd s4 L3=>⟨_,rfl,am,_,rfl,.inl (.of (s4 _ _ Ec)),fun ac L4=>⟨by show 2≤sizeLine;decide,fun hd Ed=>VP _ _ ?_⟩⟩))
 have s5:af H3 (upd (upd H4 ac (.lst (as.map V.int))) hd (.lst [.ref fD,.ref ac])):=s4.trans ((aK L4).trans (aK Ed));have AB:=L3.mono ((aK (o:=.lst (as.map V.int)) L4).trans (aK (o:=.lst [.ref fD,.ref ac]) Ed));have AD:upd (upd H4 ac (.lst (as.map V.int))) hd (.lst [.ref fD,.ref ac]) ac=some (.lst (as.map V.int)):=aK Ed _ _ aB;have uy:upd (upd H4 ac (.lst (as.map V.int))) hd (.lst [.ref fD,.ref ac]) hd=some (.lst [.ref fD,.ref ac]):=aB;generalize upd (upd H4 ac (.lst (as.map V.int))) hd (.lst [.ref fD,.ref ac])=Hu at s5 AB AD uy ⊢;have uz:=Eb.mono s5;have Ee:=LY.mono s5;have VQ:=af.seq s5 LZ;have uA:=s5 _ _ Ec;have AE:=hI.mono s5;clear Eb LY LZ Ec hI s5 s4 L3;have LJ:∀t∈tab,t.length=m∧bP p t:=wd;have uw:eO [V.ref fD,V.ref ac] 0=some (.ref fD):=by exact e8 (j:=0) rfl
 have Aw:eO [V.ref fD,V.ref ac] 1=some (.ref ac):=by exact e8 (j:=1) rfl
 try dsimp only [aS]
 refine n8 (fun σ Hx=>∃fo,σ=[some (.ref a),some (.int d),some (.int (p:Int)),some (.int (m:Int)),some (.int (n:Int)),some (.ref xw),some (.ref tb),some (.ref am),v8,some (.ref im),some (.ref hd),some (.ref fo),none]∧af Hu Hx∧yY Hu Hx p m tab as fo) (fun R hR=>⟨_,rfl,_,rfl,hd,_,_,_,rfl,rfl,.of uy,uw,_,rfl,hd,_,_,_,rfl,rfl,.of uy,Aw,xw,fD,ac,p,m,tab,as,rfl,Ee,wh,p2,AB,wd,AD,by lia,by lia,m6,fun ne=>absurd la ne,fun _=>⟨ia,fun t r ys H8 s8 nr et er ly iy hb b1=>hR _ _ ⟨t,rfl,s8,Jl (by lia) nr et er ly iy hb b1⟩,fun t r xs H8 s8 nr et er hx h1=>hR _ _ ⟨t,rfl,s8,Jm m6 nr et er hx h1⟩,fun t r u ws xs ms fs H8 s8 nr et er hx h1 eu nt hu m0 M=>hR _ _ ⟨t,rfl,s8,Jn m6 nr et er hx h1 eu nt hu m0 M⟩⟩⟩) (fun σ H8 J=>?_)
 obtain ⟨fo,rfl,s8,hF⟩:=J;refine yO fun _ L5=>⟨_,rfl,_,rfl,_,rfl,_,rfl,_,rfl,p,m,tb,am,im,fo,tab,as,rfl,p2,p7,m1,m6,pm,uz.mono s8,wd,by lia,by lia,s8 _ _ uA,la,AE.mono s8,hF.1,fun H9 s9=>⟨true,rfl,bW ?_⟩⟩
 have Eg:=s8.trans s9;refine ⟨_,rfl,_,rfl,_,rfl,by show 2≤sizeLine;decide,fun l nl=>⟨hd,l,_,_,rfl,rfl,.of ((Eg.trans (aK nl)) _ _ uy),.of aB,rfl,fun j x y h1 h2=>?_,false,rfl,bW (L5 _ _ ?_)⟩⟩
 ·have sl:=Eg.trans (aK (o:=.lst [.ref tb,.ref am]) nl)
  match j,h1,h2 with
  | 0,h1,h2=>cases h1;cases h2;exact SE (AB.mono sl) (uz.mono sl)
  | 1,h1,h2=>cases h1;cases h2;exact Jo (sl _ _ AD) (sl _ _ uA)
  | j+2,h1,h2=>simp at h1
 have jc:af H8 (upd H9 l (.lst [.ref tb,.ref am])):=s9.trans (aK nl);have AF:=s8.trans jc;generalize upd H9 l (.lst [.ref tb,.ref am])=Ha at jc AF ⊢;clear s9 Eg nl;refine SH (fun σ Hx=>σ=[some (.ref a),some (.int d),some (.int (p:Int)),some (.int (m:Int)),some (.int (n:Int)),some (.ref xw),some (.ref tb),some (.ref am),v8,some (.ref im),some (.ref hd),some (.ref fo),none]∧af Hu Hx) (fun R hR=>?_) (fun σ Hb J=>?_)
 ·rcases hF.2 with ⟨s,r,xs,ef,er,lx,nr⟩ | ⟨s,r,u,x,xs,ts,ws,ef,er,lx,nr,eu,nu,ur,w0,ex,nx,xr,xu⟩
  ·refine ⟨_,rfl,fo,_,_,_,rfl,rfl,.of (jc _ _ ef),rfl,.inl ⟨rfl,_,.of (jc _ _ er)⟩,r,_,_,rfl,rfl,jc _ _ er,b_ (by rw [aD];lia),?_⟩
   have fr:fo≠r:=fun z=>by rw [z,er] at ef;cases ef
   have jb:upd Ha r (.lst (xs.map V.int++[V.int 1])) fo=some (.tup [.str s,.ref r]):=(aH fr).trans (jc _ _ ef);have sb:af Hu (upd Ha r (.lst (xs.map V.int++[V.int 1]))):=fun b o e=>(aH (fun z=>by rw [z,nr] at e;cases e)).trans (AF _ _ e)
   generalize upd Ha r (.lst (xs.map V.int++[V.int 1]))=Hb at jb sb ⊢;exact ⟨_,rfl,fo,_,rfl,.inr (.of jb),rfl,_,rfl,bW (hR _ _ ⟨rfl,sb⟩)⟩
  ·refine ⟨_,rfl,fo,_,_,_,rfl,rfl,.of (jc _ _ ef),rfl,.inl ⟨rfl,_,.of (jc _ _ er)⟩,r,_,_,rfl,rfl,jc _ _ er,b_ (by rw [aD];lia),?_⟩
   have fr:fo≠r:=fun z=>by rw [z,er] at ef;cases ef
   have fu:fo≠u:=fun z=>by rw [z,eu] at ef;cases ef
   have fx:fo≠x:=fun z=>by rw [z,ex] at ef;cases ef
   have jb:upd Ha r (.lst (xs.map V.int++[V.int 1])) fo=some (.tup [.str s,.ref r,.ref u]):=(aH fr).trans (jc _ _ ef);have Eh:upd Ha r (.lst (xs.map V.int++[V.int 1])) u=some (.lst ws):=(aH ur).trans (jc _ _ eu);have pL:upd Ha r (.lst (xs.map V.int++[V.int 1])) x=some (.lst (ts.map V.int)):=(aH xr).trans (jc _ _ ex);have sb:af Hu (upd Ha r (.lst (xs.map V.int++[V.int 1]))):=fun b o e=>(aH (fun z=>by rw [z,nr] at e;cases e)).trans (AF _ _ e)
   generalize upd Ha r (.lst (xs.map V.int++[V.int 1]))=Hb at jb Eh pL sb ⊢;refine ⟨_,rfl,fo,_,rfl,.inr (.of jb),rfl,_,rfl,dh ?_⟩;have ax:eO ws 0=some (.ref x):=by exact e8 (j:=0) w0
   refine bK ⟨_,rfl,fo,_,_,_,rfl,rfl,.of jb,rfl,u,ws,_,_,rfl,rfl,.of Eh,ax,.inl ⟨rfl,_,.of pL⟩,x,_,rfl,rfl,pL,?_⟩;have lw:0<ws.length:=(aW.mp w0).1;have L6:upd Hb x (.lst []) u=some (.lst ws):=(aH (Ne.symm xu)).trans Eh;refine ⟨_,rfl,fo,_,_,_,rfl,rfl,.of ((aH fx).trans jb),rfl,.inl ⟨rfl,_,.of L6⟩,u,ws,_,rfl,rfl,L6,bw (show ws.length-1<ws.length by lia),hR _ _ ⟨rfl,fun b o e=>?_⟩⟩
   rw [aH (fun z=>by rw [z,nu] at e;cases e),aH (fun z=>by rw [z,nx] at e;cases e)]
   exact sb _ _ e
 obtain ⟨rfl,sb⟩:=J;clear hF AF jc s8 L5;refine n8 (fun σ Hx=>σ=[some (.ref a),some (.int d),some (.int (p:Int)),some (.int (m:Int)),some (.int (n:Int)),some (.ref xw),some (.ref tb),some (.ref am),v8,some (.ref im),some (.ref hd),some (.ref fo),none]∧af Hu Hx) (fun R hR=>⟨_,rfl,_,rfl,_,rfl,_,rfl,_,rfl,_,rfl,hd,_,_,_,rfl,rfl,.of (sb _ _ uy),uw,_,rfl,hd,_,_,_,rfl,rfl,.of (sb _ _ uy),Aw,xw,fD,ac,p,m,tab,as,rfl,Ee.mono sb,wh,p2,AB.mono sb,wd,sb _ _ AD,by lia,by lia,m6,fun ne=>absurd la ne,fun _=>⟨ia,fun t r ys H8 s8 nr et er ly iy hb b1=>⟨p,m,tb,am,im,t,tab,as,rfl,p2,p7,m1,m6,pm,uz.mono (sb.trans s8),wd,by lia,by lia,(sb.trans s8) _ _ uA,la,AE.mono (sb.trans s8),(Jl (by lia) nr et er ly iy hb b1).1,fun H9 s9=>⟨true,rfl,bW (hR _ _ ⟨rfl,sb.trans (s8.trans s9)⟩)⟩⟩,fun t r xs H8 s8 nr et er hx h1=>⟨p,m,tb,am,im,t,tab,as,rfl,p2,p7,m1,m6,pm,uz.mono (sb.trans s8),wd,by lia,by lia,(sb.trans s8) _ _ uA,la,AE.mono (sb.trans s8),(Jm m6 nr et er hx h1).1,fun H9 s9=>⟨true,rfl,bW (hR _ _ ⟨rfl,sb.trans (s8.trans s9)⟩)⟩⟩,fun t r u ws xs ms fs H8 s8 nr et er hx h1 eu nt hu m0 M=>⟨p,m,tb,am,im,t,tab,as,rfl,p2,p7,m1,m6,pm,uz.mono (sb.trans s8),wd,by lia,by lia,(sb.trans s8) _ _ uA,la,AE.mono (sb.trans s8),(Jn m6 nr et er hx h1 eu nt hu m0 M).1,fun H9 s9=>⟨true,rfl,bW (hR _ _ ⟨rfl,sb.trans (s8.trans s9)⟩)⟩⟩⟩⟩) (fun σ Hc J=>?_)
 obtain ⟨rfl,sc⟩:=J;clear sb;have d0':=BU ns 1;have d1':=BV ns 1;refine bK ⟨_,rfl,a,ns,1,rfl,af.seq sc VQ,by decide,by decide,fun H9 s9=>⟨_,_,rfl,rfl,⟨by decide,bE.of_lt (by decide) (by decide)⟩,_,_,rfl,rfl,(by show (0:Int)<8;decide),?_⟩⟩
 have Ei:=sc.trans s9;have m8:=gZ (c:=iW ns 1 / 2) (show (0:Int)<8 by decide)
 dsimp only [aS];generalize iW ns 1 / 2 % 8=mn at m8 ⊢;refine n8 (fun σ Hx=>∃mn:Nat,σ=[some (.ref a),some (.int d),some (.int (p:Int)),some (.int (m:Int)),some (.int (n:Int)),some (.ref xw),some (.ref tb),some (.ref am),v8,some (.ref im),some (.ref hd),some (.ref fo),some (.int (mn:Int))]∧Hx=H9∧mn≠n∧mn≤10) (fun R hR=>⟨_,rfl,_,rfl,rfl,_,rfl,cG (fun hb=>?_) (fun hb=>?_)⟩) (fun σ Hx J=>?_);·exact ⟨_,rfl,_,_,rfl,rfl,hR _ _ ⟨n+1,rfl,rfl,by lia,by lia⟩⟩
 ·rw [kU] at hb
  refine hR _ _ ⟨mn.toNat,?_,rfl,fun e=>hb (cN (by lia)),by lia⟩
  rw [Int.toNat_of_nonneg m8.1];rfl
 obtain ⟨mk,rfl,rfl,ne,m10⟩:=J;have np:(0:Int)<(n:Int):=by lia
 have VR:=Ei _ _ uA;refine ⟨_,rfl,_,rfl,e_ (xs:=(List.range mk).map fun i:Nat=>V.int (0+(i:Int))) (fun R h=>⟨_,rfl,(mk:Int),rfl,by lia,by lia,h _ _ (af.refl _) (by rw [cU];exact k4)⟩) (by rw [aD,fQ];exact b_ (by lia)) (fun D j y Hx=>∃x:Int,y=.int x∧0≤x∧x<(p:Int)) (fun _ _ _ _ _ _ h _ _=>h) ?_ ?_⟩
 ·intro D' j v hj Hd R' sd _ kd
  obtain ⟨eP,rfl⟩:=k7 hj;have L7:j % n<as.length:=by rw [LU];exact Nat.mod_lt _ (by lia)
  exact ⟨_,rfl,_,rfl,_,rfl,_,_,rfl,rfl,np,am,_,_,_,rfl,rfl,.of (sd _ _ VR),by rw [←Int.natCast_emod];exact CZ L7,kd _ _ (af.refl _) ⟨_,rfl,kj ia L7⟩⟩
 ·intro D zs Hd nD sd lz D_ eD
  obtain ⟨bs,rfl,ib,lb⟩:=ints_of D_;rw [aD,aD,fQ] at lz;exact ⟨xw,tb,D,p,m,tab,bs,rfl,Ee.mono (Ei.trans sd),wh,p2,uz.mono (Ei.trans sd),wd,eD,by lia,by lia,m6,by lia,fun H' _=>kQ H'⟩
theorem VS{l:PySem.W.OpenLaw}(T:Txt K mg t):∃fd:FuncData,(∀(s:Shared) (v:Value),BindsTo s fd ⟨[v],[]⟩ [("script",v)])∧∀base:Heap,K.In base→base.Ns mainGlobals mg→aT l.prog w K mg base bV 12 t.n_ fd ["script"] (ym K):=by obtain ⟨oc,od,kV,doc,pm,an,aU,ct,fH,e,lk,fF⟩:=T.um.ex;refine ⟨t.qt,fun s v=>?_,fun base _ _=>VC T⟩;rw [e];exact .of_eq rfl
end
theorem walk{l:PySem.W.OpenLaw}{q:Program}{loose:List Str}{XP:(Str→Option Value)→Heap→Prop}{YP:World→Heap→Prop}{d:DefRec}{K:Params→PySem.W.Frag}(hn:l.most=some 63)(va:d.params.defaults=[])
  (hY:∀(w:World) (h:Heap),YP w h→(K w.params).In h)
  (F:∀(w:World) (mg:cz) (fa:Addr) (h:Heap),(K w.params).In h→h.Ns mainGlobals mg→mg d.name=some (.ref fa)→
   ∃fd:FuncData,(∀(s:Shared) (u:Value),BindsTo s fd ⟨[u],[]⟩ [("script",u)])∧∀base:Heap,(K w.params).In base→base.Ns mainGlobals mg→aT l.prog w (K w.params) mg base bV 12 fa fd ["script"] (ym (K w.params))) :
  PySem.W.WalkO q loose XP YP l.row.toRowW d [] (fun f vs=>PySem.call f vs):=
 L2.OD (n:=63) (k:=12) (x:="script") (CX:=fun _=>bV) (sp:=fun w=>ym (K w.params)) hn (by decide) va ⟨rfl,by decide,by decide⟩ hY F (fun _ _ a ns hl _ hS=>⟨a,ns,rfl,hS,hl,fun _=>rfl⟩) fun _ _ _ _ _ z=>z
theorem VT{K:aA}{h:Heap}{mg:cz}(X:K.In h)(G:h.Ns mainGlobals mg)
  {bN:Addr}
  {mC:Addr}
  {jz:Addr}
  {oa:Addr}
  {br:Addr}
  {tS:Addr}
  {tT:Addr}
  {tU:Addr}
  {tV:Addr}
  {tW:Addr}
  {mB:Addr} {VU L8:Option Addr} {VV:Array (Option Value)} {VW L9 L_ Ma Ej Mb:Value}
  {Ek:Addr} {VX:Tok} {VY:Value} {VZ:Option Addr} {V0:Nat} {V1:Array (Option Value)}
  {V2:Tok}
  {V3:Tok}
  {pM pN pO pP pQ pR pS pU pV pW pX pY pZ p3 p4 p5 p6 p8 p9 p_ qa qb qc qd mz qe qf qg qh qi qj qk ql qm qo qp qr n_ qu qv qw:Addr} {sA sC sE sF sG sI sJ sM sN sO sP sQ sR sS sU sV sW sX sY sZ s_ tf tj tq n9 tu tE tF tG tH tI tJ tK tL tM tN tO qt tP tQ tR:FuncData}
  (El:PySem.W.nsIn K mainGlobals "World"=some (some (.ref bN)))
  (Em:PySem.W.nsIn K mainGlobals "NoWorld"=some (some (.ref mC)))
  (Eo:PySem.W.nsIn K mainGlobals "NoOver"=some (some (.ref jz)))
  (Ep:PySem.W.nsIn K mainGlobals "WrightError"=some (some (.ref oa)))
  (Er:PySem.W.nsIn K mainGlobals "NoFit"=some (some (.ref br)))
  (Es:PySem.W.nsIn K mainGlobals "NoShape"=some (some (.ref tS)))
  (Et:PySem.W.nsIn K mainGlobals "NoOrder"=some (some (.ref tT)))
  (Eu:PySem.W.nsIn K mainGlobals "NoSize"=some (some (.ref tU)))
  (Ew:PySem.W.nsIn K mainGlobals "NoLink"=some (some (.ref tV)))
  (Ex:PySem.W.nsIn K mainGlobals "Tied"=some (some (.ref tW)))
  (V4:mg "is_whole"=some (.ref pM))
  (tX:aP K "is_whole" yZ pM sA)
  (V5:mg "common_divisor"=some (.ref pN))
  (mE:aP K "common_divisor" y4 pN sC)
  (V6:mg "is_prime"=some (.ref pO))
  (tY:aP K "is_prime" y6 pO sE)
  (V7:mg "ratio"=some (.ref pP))
  (tZ:aP K "ratio" y7 pP sF)
  (V8:mg "ratio_plus"=some (.ref pQ))
  (t4:aP K "ratio_plus" y8 pQ sG)
  (V9:mg "ratio_minus"=some (.ref pR))
  (t5:aP K "ratio_minus" y_ pR sI)
  (V_:mg "one_bottom"=some (.ref pS))
  (t6:aP K "one_bottom" za pS sJ)
  (Wa:mg "remainder_back"=some (.ref pU))
  (t7:aP K "remainder_back" zb pU sM)
  (Wb:mg "remainder_over"=some (.ref pV))
  (t8:aP K "remainder_over" zc pV sN)
  (Wc:mg "is_fractions"=some (.ref pW))
  (t9:aP K "is_fractions" zd pW sO)
  (Wd:mg "is_wheel"=some (.ref pX))
  (t_:aP K "is_wheel" ze pX sP)
  (We:mg "width"=some (.ref pY))
  (mF:aP K "width" zg pY sQ)
  (Wf:mg "check_aim"=some (.ref pZ))
  (qx:aP K "check_aim" zh pZ sR)
  (Wg:mg "column"=some (.ref p3))
  (ua:aP K "column" zi p3 sS)
  (Wh:mg "columns"=some (.ref p4))
  (ub:aP K "columns" zj p4 sU)
  (Wi:mg "cleared"=some (.ref p5))
  (uc:aP K "cleared" zk p5 sV)
  (Wj:mg "first_filled"=some (.ref p6))
  (ud:aP K "first_filled" zl p6 sW)
  (Wk:mg "swapped"=some (.ref p8))
  (ue:aP K "swapped" zm p8 sX)
  (Wl:mg "row_over"=some (.ref p9))
  (uf:aP K "row_over" zo p9 sY)
  (Wm:mg "reduced"=some (.ref p_))
  (og:aP K "reduced" zp p_ sZ)
  (Wn:mg "beside"=some (.ref qa))
  (oh:aP K "beside" zq qa s_)
  (Wo:mg "answer_of"=some (.ref qb))
  (oi:aP K "answer_of" zr qb tf)
  (Wq:mg "move_of"=some (.ref qc))
  (qy:aP K "move_of" zt qc tj)
  (Wr:mg "bar_of"=some (.ref qd))
  (qz:aP K "bar_of" zu qd tq)
  (Ws:mg "undone"=some (.ref mz))
  (mG:aP K "undone" zw mz n9)
  (Wt:mg "_law_b_draw"=some (.ref qe))
  (i_:aP K "_law_b_draw" zx qe tu)
  (Wu:mg "_law_b_low"=some (.ref qf))
  (ug:aP K "_law_b_low" zy qf tE)
  (Wv:mg "_law_b_whole"=some (.ref qg))
  (oj:aP K "_law_b_whole" zA qg tF)
  (Ww:mg "_law_b_is"=some (.ref qh))
  (uh:aP K "_law_b_is" zB qh tG)
  (Wx:mg "_law_b_number"=some (.ref qi))
  (om:aP K "_law_b_number" zC qi tH)
  (Wy:mg "_law_b_dot"=some (.ref qj))
  (ja:aP K "_law_b_dot" zD qj tI)
  (Wz:mg "_law_b_is_row"=some (.ref qk))
  (oo:aP K "_law_b_is_row" zE qk tJ)
  (WA:mg "_law_b_drawn"=some (.ref ql))
  (ui:aP K "_law_b_drawn" zF ql tK)
  (WB:mg "_law_b_all"=some (.ref qm))
  (qA:aP K "_law_b_all" zG qm tL)
  (WC:mg "_law_b_are_all_moves"=some (.ref qo))
  (uj:aP K "_law_b_are_all_moves" zH qo tM)
  (WD:mg "_law_b_right"=some (.ref qp))
  (qB:aP K "_law_b_right" zI qp tN)
  (WE:mg "_law_b_refused"=some (.ref qr))
  (uk:aP K "_law_b_refused" zJ qr tO)
  (WG:mg "law"=some (.ref n_))
  (um:aP K "law" zK n_ qt)
  (Ab:Mk K bN qu)
  (wg:fk K "__init__" "World.__init__" zL qu tP)
  (Ey:PySem.W.findIn K (.ref bN) "of"=some (some (.ref mB)))
  (Ez:PySem.W.isFn K (.ref mB)=true)
  (uB:K.lookup mB=some ⟨VW,VU,.func (PySem.W.fnOf "of" "World.of" (iQ jy) (fT jy) (aR jy) (.ref Ek) L9 L_ Ma L8 Ej Mb),VV⟩)
  (uC:PySem.W.codeIn K Ej "World.of"=true)
  (qL:PySem.W.keepIn K (.ref mB)=true)
  (uD:K.lookup Ek=some ⟨VY,VZ,.seq #[.int 1 VX] V0,V1⟩)
  (Ad:Meth K bN "minus" qv)
  (wj:fk K "minus" "World.minus" zM qv tQ)
  (Ae:Meth K bN "as_wholes" qw)
  (wk:fk K "as_wholes" "World.as_wholes" zN qw tR)
  (EA:PySem.W.plainGet K bN Str.empty=true)
  (EB:PySem.W.hasDictIn K bN=true)
  (EC:PySem.W.plainOver K bN=true)
  (ED:PySem.W.findIn K (.ref bN) "__setattr__"=some (some (.builtin "object.__setattr__")))
  (EE:PySem.W.findIn K (.ref bN) "prime"=some none)
  (EF:PySem.W.nsIn K mainGlobals "len"=some none)
  (EG:PySem.W.nsIn K mainGlobals "isinstance"=some none)
  (EH:PySem.W.nsIn K mainGlobals "int"=some none)
  (EI:PySem.W.nsIn K mainGlobals "bool"=some none)
  (EJ:PySem.W.nsIn K mainGlobals "tuple"=some none)
  (EK:PySem.W.nsIn K mainGlobals "list"=some none)
  (EL:PySem.W.nsIn K mainGlobals "range"=some none)
  (EM:PySem.W.nsIn K mainGlobals "abs"=some none)
  (EN:PySem.W.nsIn K mainGlobals "all"=some none)
  (EO:PySem.W.nsIn K mainGlobals "any"=some none)
  (ER:PySem.W.nsIn K mainGlobals "sum"=some none)
  (ES:PySem.W.nsIn K mainGlobals "zip"=some none)
  (ET:PySem.W.nsIn K mainGlobals "min"=some none)
  (EU:PySem.W.nsIn K mainGlobals "ValueError"=some none)
  (EV:PySem.W.nsIn K mainGlobals "GREATEST_PRIME"=some (some (.int 997 V2)))
  (EW:PySem.W.nsIn K mainGlobals "LONG"=some (some (.int 2048 V3)))
  (EX:PySem.W.excIn K mC [.type "ValueError",.type "Exception",.type "BaseException",.type "object"] "ValueError.__new__"=true)
  (EY:PySem.W.excIn K jz [.type "ValueError",.type "Exception",.type "BaseException",.type "object"] "ValueError.__new__"=true)
  (EZ:PySem.W.excIn K br [.type "ValueError",.type "Exception",.type "BaseException",.type "object"] "ValueError.__new__"=true)
  (E1:PySem.W.excIn K oa [.type "ValueError",.type "Exception",.type "BaseException",.type "object"] "ValueError.__new__"=true)
  (E2:PySem.W.mroIn K br (.ref br)=some true)
  (E3:PySem.W.mroIn K br (.ref oa)=some true)
  (E4:PySem.W.kitOne K (.ref br) (.type "ValueError")=some true)
  (E5:PySem.W.kitOne K (.ref br) (.ref br)=some true)
  (E6:PySem.W.kitOne K (.ref br) (.ref mC)=some false)
  (E7:PySem.W.kitOne K (.ref br) (.ref jz)=some false)
  (E8:PySem.W.kitOne K (.ref br) (.ref tS)=some false)
  (E9:PySem.W.kitOne K (.ref br) (.ref tT)=some false)
  (E_:PySem.W.kitOne K (.ref br) (.ref tU)=some false)
  (Fb:PySem.W.kitOne K (.ref br) (.ref tV)=some false)
  (Fc:PySem.W.kitOne K (.ref br) (.ref tW)=some false)
  (Fd:PySem.W.hasDictIn K br=true)
  (Fe:PySem.W.findIn K (.ref br) "__getattribute__"=some (some (.builtin "BaseException.__getattribute__")))
  (Ff:PySem.W.findIn K (.ref br) "__getattr__"=some none)
  (Fg:PySem.W.findIn K (.ref br) "__class__"=some (some (.builtin "object.__class__")))
  (Fi:PySem.W.mroIn K br (.type "object")=some true)
  (Fj:PySem.W.mroIn K br (.type "BaseException")=some true)
  : ∃t:zO,Txt K mg t:=by
 refine ⟨⟨pM,sA,pN,sC,pO,sE,pP,sF,pQ,sG,pR,sI,pS,sJ,pU,sM,pV,sN,pW,sO,pX,sP,pY,sQ,pZ,sR,p3,sS,p4,sU,p5,sV,p6,sW,p8,sX,p9,sY,p_,sZ,qa,s_,qb,tf,qc,tj,qd,tq,mz,n9,qe,tu,qf,tE,qg,tF,qh,tG,qi,tH,qj,tI,qk,tJ,ql,tK,qm,tL,qo,tM,qp,tN,qr,tO,n_,qt,qu,tP,mB,PySem.W.fnOf "of" "World.of" (iQ jy) (fT jy) (aR jy) (.ref Ek) L9 L_ Ma L8 Ej Mb,qv,tQ,qw,tR,bN,mC,jz,oa,br,tS,tT,tU,tV,tW⟩,?_⟩
 exact {
  tX:=tX
  Jr:=tX.bY
  Js:=V4
  mE:=mE
  wa:=mE.bY
  wb:=V5
  tY:=tY
  Jt:=tY.bY
  Ju:=V6
  tZ:=tZ
  Jv:=tZ.bY
  Jw:=V7
  t4:=t4
  Jx:=t4.bY
  Jy:=V8
  t5:=t5
  Jz:=t5.bY
  JA:=V9
  t6:=t6
  JB:=t6.bY
  JD:=V_
  t7:=t7
  JE:=t7.bY
  JF:=Wa
  t8:=t8
  JG:=t8.bY
  JH:=Wb
  t9:=t9
  JI:=t9.bY
  JJ:=Wc
  t_:=t_
  JK:=t_.bY
  JL:=Wd
  mF:=mF
  wc:=mF.bY
  we:=We
  qx:=qx
  C1:=qx.bY
  C2:=Wf
  ua:=ua
  JM:=ua.bY
  JN:=Wg
  ub:=ub
  JO:=ub.bY
  JP:=Wh
  uc:=uc
  JQ:=uc.bY
  JR:=Wi
  ud:=ud
  JS:=ud.bY
  JT:=Wj
  ue:=ue
  JU:=ue.bY
  JV:=Wk
  uf:=uf
  JW:=uf.bY
  JX:=Wl
  og:=og
  zQ:=og.bY
  zR:=Wm
  oh:=oh
  zS:=oh.bY
  zT:=Wn
  oi:=oi
  zU:=oi.bY
  zV:=Wo
  qy:=qy
  C3:=qy.bY
  C4:=Wq
  qz:=qz
  C5:=qz.bY
  C6:=Wr
  mG:=mG
  zW:=mG.bY
  zX:=Ws
  i_:=i_
  mH:=i_.bY
  mI:=Wt
  ug:=ug
  JY:=ug.bY
  JZ:=Wu
  oj:=oj
  zY:=oj.bY
  zZ:=Wv
  uh:=uh
  J0:=uh.bY
  J1:=Ww
  om:=om
  z8:=om.bY
  z9:=Wx
  ja:=ja
  mJ:=ja.bY
  mK:=Wy
  oo:=oo
  z_:=oo.bY
  Aa:=Wz
  ui:=ui
  J2:=ui.bY
  J4:=WA
  qA:=qA
  C7:=qA.bY
  C8:=WB
  uj:=uj
  J5:=uj.bY
  J6:=WC
  qB:=qB
  C9:=qB.bY
  C_:=WD
  uk:=uk
  J7:=uk.bY
  J8:=WE
  um:=um
  SI:=um.bY
  J9:=WG
  wg:=wg
  J_:=wg.bY
  Ab:=Ab
  Ka:=(yn (st:=jy) (i:=1) uB uC qL uD)
  Kb:=iX.binds (ps:=["self","top","bottom"]) (yn (st:=jy) (i:=1) uB uC qL uD) fun s dT kV doc pm an aU ct tk o n us ho hd hl=>match us,hl with | [_,_,_],_=>.of_defaults rfl ho hd rfl rfl
  Ac:=iX.PY (ps:=["self","top","bottom"]) (yn (st:=jy) (i:=1) uB uC qL uD) fun s dT kV doc pm an aU ct tk o n us ho hd hl=>match us,hl with | [_,_],_=>.of_defaults rfl ho hd rfl rfl
  SJ:=iX.PZ (ps:=["self","top","bottom"]) (y:="bottom") (yn (st:=jy) (i:=1) uB uC qL uD) fun s dT kV doc pm an aU ct tk o n us ws ho hd hw hl=>match ws,us,hw,hl with | [_],[_,_],_,_=>.of_defaults rfl ho hd rfl rfl
  oq:=⟨Ey,Ez,qL⟩
  wj:=wj
  Kc:=wj.bY
  Ad:=Ad
  wk:=wk
  Kd:=wk.bY
  Ae:=Ae
  fb:=⟨EA,EB,EC,ED⟩
  Ke:=bA X G El
  jA:=EE
  Dc:=bA X G Em
  Af:=bA X G Eo
  Kf:=bA X G Ep
  Ag:=bA X G Er
  Kg:=bA X G Es
  Kh:=bA X G Et
  Ki:=bA X G Eu
  Kj:=bA X G Ew
  Kk:=bA X G Ex
  cS:=hV X G EF
  fz:=hV X G EG
  Df:=hV X G EH
  Dg:=hV X G EI
  qC:=hV X G EJ
  ot:=hV X G EK
  gs:=hV X G EL
  wo:=hV X G EM
  wq:=hV X G EN
  Kl:=hV X G EO
  Km:=hV X G ER
  mO:=hV X G ES
  Kn:=hV X G ET
  Ko:=hV X G EU
  Kp:=⟨_,bA X G EV,_,rfl⟩
  Kq:=⟨_,bA X G EW,_,rfl⟩
  Kr:=EX
  Dh:=EY
  Ah:=EZ
  Ks:=E1
  SK:=E2
  Kt:=E3
  Ku:=E4
  Kv:=E5
  Kw:=E6
  Kx:=E7
  Ky:=E8
  Kz:=E9
  KA:=E_
  KC:=Fb
  KD:=Fc
  KG:=Fd
  KH:=Fe
  KI:=Ff
  KJ:=Fg
  KL:=Fi
  KN:=Fj
 }
end My
namespace PySem.W.Fast
def tw7995205539945772212:Unit:=()
def tw14391348808985248700:Unit:=()
def tw11303895068815281478:Unit:=()
def tw6500156879085578694:Unit:=()
def tw16195011839060020717:Unit:=()
def tw17074702455637422639:Unit:=()
def tw16302022903382060836:Unit:=()
def tw13555730713497125024:Unit:=()
def tw4986218249991721104:Unit:=()
def tw14487091048821625951:Unit:=()
def tw2892733506559166127:Unit:=()
def tw4179707349775847860:Unit:=()
def tw3503395327650070405:Unit:=()
def tw7902704498576138966:Unit:=()
def tw14532992114454865961:Unit:=()
def tw821379860259089301:Unit:=()
def tw14373101015683250916:Unit:=()
def tw4853509132071454873:Unit:=()
def tw14389954647492419050:Unit:=()
def tw8422292503256081662:Unit:=()
def tw12067353219973651642:Unit:=()
def tw18107359039761547748:Unit:=()
def tw7599876740224991397:Unit:=()
def tw10497710717420379597:Unit:=()
def tw8998543666777947534:Unit:=()
def tw16145704503416906058:Unit:=()
def tw7376952359863903316:Unit:=()
def tw13140845911987145156:Unit:=()
def tw2665866329866743677:Unit:=()
def tw14094960441063447284:Unit:=()
def tw15435498516504688460:Unit:=()
def tw13794026986008343100:Unit:=()
def tw11072641670505283080:Unit:=()
def tw17467525864635934925:Unit:=()
def tw15047538869649411508:Unit:=()
def tw13704032442981289322:Unit:=()
def tw7770496315232011722:Unit:=()
def tw8101709886566184502:Unit:=()
def tw2448712169459238397:Unit:=()
def tw3812787454527849294:Unit:=()
def tw8032357116695086068:Unit:=()
def tw1231925296702412184:Unit:=()
def tw3833780011733008068:Unit:=()
def tw5419549436329055156:Unit:=()
def tw17124755940558663031:Unit:=()
def tw3963056838943508886:Unit:=()
def tw7619028634809680066:Unit:=()
def tw16241512383689040621:Unit:=()
def tw10381187141623194500:Unit:=()
def tw13153101961164172427:Unit:=()
def tw12663899560454557545:Unit:=()
def tw13518716279739407940:Unit:=()
def tw13978893882246162024:Unit:=()
def tw5087572158885982919:Unit:=()
def tw10372188654944032434:Unit:=()
def tw10468737833140510730:Unit:=()
def tw1084380626092374315:Unit:=()
def tw5086813523673222328:Unit:=()
def tw11858238678373609593:Unit:=()
def tw14815171433629204198:Unit:=()
def tw13779550993519138792:Unit:=()
def tw4611956231362270902:Unit:=()
def tw13208225508470355077:Unit:=()
def tw14675741683735944053:Unit:=()
def tw13040107947260183204:Unit:=()
def tw13317157056462269383:Unit:=()
def tw1444692477764984678:Unit:=()
def tw18264463559487105195:Unit:=()
def tw4740624718674152569:Unit:=()
def tw15388220485923007868:Unit:=()
def tw8325414633808537779:Unit:=()
def tw7583338622808339187:Unit:=()
def tw11788409289130842769:Unit:=()
def tw10159887888301529533:Unit:=()
def tw326007168240226288:Unit:=()
def tw10377097742037083529:Unit:=()
def tw6317925475441634701:Unit:=()
def tw17082406253178527738:Unit:=()
def tw11124210055931644187:Unit:=()
def tw5391962167212522512:Unit:=()
def tw11329421193149612793:Unit:=()
def tw13360247152383303381:Unit:=()
def tw9367391382802556220:Unit:=()
def tw12696485028179357590:Unit:=()
def tw2279378699202667046:Unit:=()
def tw17227482650052153228:Unit:=()
def tw12811157729333652690:Unit:=()
def tw5268969746026496226:Unit:=()
def tw2323091425894636752:Unit:=()
def tw14577199920505605711:Unit:=()
def tw8513786722319361220:Unit:=()
def tw3383807106118334997:Unit:=()
def tw13951670322700462570:Unit:=()
def tw14522392153100404819:Unit:=()
def tw14385206611551441003:Unit:=()
def tw17243441438963771108:Unit:=()
def tw16148527935805561020:Unit:=()
def tw5518684869345257765:Unit:=()
def tw811618225317907300:Unit:=()
def tw1759793298108249491:Unit:=()
def tw12898192877658641193:Unit:=()
def tw7771027147867464711:Unit:=()
def tw3242191502682438680:Unit:=()
def tw11502973684181416609:Unit:=()
def tw16326297147503876782:Unit:=()
def tw1692504525384421967:Unit:=()
def tw11957968864422850603:Unit:=()
def tw13230905117478331189:Unit:=()
def tw17221218820040309568:Unit:=()
def tw14748872598251185415:Unit:=()
def tw1611754736225483287:Unit:=()
def tw12101973297412791124:Unit:=()
def tw18003313314210965998:Unit:=()
def tw7459448940747135821:Unit:=()
def tw1073352766754932455:Unit:=()
def tw13632498973536503053:Unit:=()
def tw736528787931891153:Unit:=()
def tw7733783832402262463:Unit:=()
def tw7237879455180722319:Unit:=()
def tw8214500670844458461:Unit:=()
def tw4225676070633783812:Unit:=()
def tw16100651578415130135:Unit:=()
def tw13966711170349546828:Unit:=()
def tw15620656029977117007:Unit:=()
def tw9385493399829626408:Unit:=()
def tw15761636110496081131:Unit:=()
def tw9448990430187988109:Unit:=()
def tw14040405225401551759:Unit:=()
def tw15164673277794633119:Unit:=()
def tw8989750545272755452:Unit:=()
def tw10538992484433277548:Unit:=()
def tw17560852656939701794:Unit:=()
def tw4672220689411514816:Unit:=()
def tw13920020303864844007:Unit:=()
def tw15882508172576310449:Unit:=()
def tw3408819247717953189:Unit:=()
def tw5108166113894454720:Unit:=()
def tw11511173940171305877:Unit:=()
def tw16941472114304309869:Unit:=()
def tw16893952394430707005:Unit:=()
def tw10131344568408879985:Unit:=()
def tw17179680520687404819:Unit:=()
def tw16275153392022593865:Unit:=()
def tw15124548117714435575:Unit:=()
def tw7579517376515288204:Unit:=()
def tw2213526633155699638:Unit:=()
def tw7508571765610898131:Unit:=()
def tw18395198178595019364:Unit:=()
def tw18225737266844902672:Unit:=()
def tw9616327186343416812:Unit:=()
def tw8358002930169048762:Unit:=()
def tw4610576054984694411:Unit:=()
def tw12773779036131805597:Unit:=()
def tw9469100419424936641:Unit:=()
def tw7162305642580872389:Unit:=()
def tw5079408382157228420:Unit:=()
def tw12131930042584218586:Unit:=()
def tw10484188233510701062:Unit:=()
def tw2551970144052339618:Unit:=()
def tw5467109900176889962:Unit:=()
def tw5788224398114649855:Unit:=()
def tw5982938718292162187:Unit:=()
def tw6001691821729259035:Unit:=()
def tw16645415705484327108:Unit:=()
def tw2734749345665181420:Unit:=()
def tw11717535550247176135:Unit:=()
def tw2413720043794171969:Unit:=()
def tw18107542464886557638:Unit:=()
def tw5051163118602459236:Unit:=()
def tw9665406961157006877:Unit:=()
def tw5682942021625627654:Unit:=()
def tw4452635548575733459:Unit:=()
def tw7791250398255261852:Unit:=()
def tw16995130755403047697:Unit:=()
def tw14319061744981722128:Unit:=()
def tw12961965440798837337:Unit:=()
def tw9411962634689925945:Unit:=()
def tw12822429039803072682:Unit:=()
def tw3022589871509148373:Unit:=()
def tw12757260472159477219:Unit:=()
def tw12954389366307056269:Unit:=()
def tw7624398504017799734:Unit:=()
def tw15881528447069458190:Unit:=()
def tw12226492831471585829:Unit:=()
def tw11310772287592502194:Unit:=()
def tw11943960984392412624:Unit:=()
def tw1937650476324437359:Unit:=()
def tw18144638725025980819:Unit:=()
def tw14580045309723143965:Unit:=()
def tw2266043252379016360:Unit:=()
def tw12508675018586148527:Unit:=()
def tw6910905984265588148:Unit:=()
def tw10636867281059037650:Unit:=()
def tw15402550646434944591:Unit:=()
def tw5135962365808406107:Unit:=()
def tw2818585150604352525:Unit:=()
def tw12085650498374875484:Unit:=()
def tw3099584947676259383:Unit:=()
def tw2463845898341745488:Unit:=()
def tw9990890996794592719:Unit:=()
def tw4942783006571057025:Unit:=()
def tw16897557880608793225:Unit:=()
def tw11744407289733030640:Unit:=()
def tw2681659542754948498:Unit:=()
def tw15153344226931123333:Unit:=()
def tw5712136684643232815:Unit:=()
def tw17533144863889457247:Unit:=()
def tw6459576362916827507:Unit:=()
def tw3338514432700413005:Unit:=()
def tw3735367840747477339:Unit:=()
def tw11890145996092719458:Unit:=()
def tw8905801612163246665:Unit:=()
def tw8626316495509669217:Unit:=()
def tw18153391814692089371:Unit:=()
def tw12666805949233223170:Unit:=()
def tw14664493690558031678:Unit:=()
def tw17943436661884716240:Unit:=()
def tw5761226346149560987:Unit:=()
def tw16300905343951746446:Unit:=()
def tw5360918781539382521:Unit:=()
def tw5466843705650794201:Unit:=()
def tw15323763975094684202:Unit:=()
def tw15323225327147129512:Unit:=()
def tw9032332170086187468:Unit:=()
def tw129522708769402949:Unit:=()
def tw333088760551170564:Unit:=()
def tw1508235358504573455:Unit:=()
def tw2405201045960590180:Unit:=()
def tw14222679049533617036:Unit:=()
def tw12862459193728888926:Unit:=()
def tw10927794815843281596:Unit:=()
def tw12743879140915473647:Unit:=()
def tw5532572286659065816:Unit:=()
def tw3279732128193862915:Unit:=()
def tw489918122424686436:Unit:=()
def tw8129194380904585578:Unit:=()
def tw7657284928514258829:Unit:=()
def tw12963450036439636764:Unit:=()
def tw10751692971874369253:Unit:=()
def tw10295538648079593657:Unit:=()
def tw14259917890841965046:Unit:=()
def tw5482238266784802898:Unit:=()
def tw3945954524752836697:Unit:=()
def tw14531905378445771364:Unit:=()
def tw11822848126154706863:Unit:=()
def tw673702839106189878:Unit:=()
def tw15401133581950469496:Unit:=()
def tw11818698867333674640:Unit:=()
def tw15146807112417607876:Unit:=()
def tw2635854915166812739:Unit:=()
def tw2769543127917412693:Unit:=()
def tw12976156162261579141:Unit:=()
def tw11648688849034538291:Unit:=()
def tw9441036443377042858:Unit:=()
def tw5237771595169382551:Unit:=()
def tw11526772978257165623:Unit:=()
def tw13823592381129640619:Unit:=()
def tw3813478912988495494:Unit:=()
def tw7001744115172623486:Unit:=()
def tw15460180236869957993:Unit:=()
def tw2695483029974608:Unit:=()
def tw13392200317124985964:Unit:=()
def tw1149308193533909934:Unit:=()
def tw7233116925447594888:Unit:=()
def tw9087606509565769989:Unit:=()
def tw9848599394523800100:Unit:=()
def tw16973542361023064093:Unit:=()
def tw5237591187163375488:Unit:=()
def tw16056889979585802182:Unit:=()
def tw4788052175144420296:Unit:=()
def tw12101620050833695002:Unit:=()
def tw7066386715273556855:Unit:=()
def tw16707949182386589716:Unit:=()
def tw6553020604878828371:Unit:=()
def tw1086581586994006208:Unit:=()
def tw10294725579247134901:Unit:=()
def tw15396879722363875797:Unit:=()
def tw10014198017804623762:Unit:=()
def tw14285669592536531897:Unit:=()
def tw4842532558144765717:Unit:=()
def tw1453552457533781922:Unit:=()
def tw7323472225757664340:Unit:=()
def tw14691411360359747906:Unit:=()
def tw12438866600211008957:Unit:=()
def tw6285568377865713074:Unit:=()
def tw4424172374378717353:Unit:=()
def tw10585191719475434303:Unit:=()
def tw8417394520886609038:Unit:=()
def tw14819790014751255509:Unit:=()
def tw14541917129137220997:Unit:=()
def tw12851597893418487194:Unit:=()
def tw10986876379918233016:Unit:=()
def tw4800505248735945231:Unit:=()
def tw5519143144127538916:Unit:=()
def tw7261586543550779735:Unit:=()
def tw10073540512997050150:Unit:=()
def tw17003161149267858128:Unit:=()
def tw6142218672082209074:Unit:=()
def tw858803516178124588:Unit:=()
def tw17107704786284126797:Unit:=()
def tw6846592504737334313:Unit:=()
def tw13822235660174499358:Unit:=()
def tw7185118933055535145:Unit:=()
def tw10980441304335873971:Unit:=()
def tw7155463777104830621:Unit:=()
def tw2750649080622008161:Unit:=()
def tw9690297234331772807:Unit:=()
def tw762929373434082413:Unit:=()
def tw8243123055276904371:Unit:=()
def tw7306341953105062130:Unit:=()
def tw14211421412467981365:Unit:=()
def tw12798190392400624874:Unit:=()
def tw2286498515804861529:Unit:=()
def tw15814117097348372795:Unit:=()
def tw6834374190093040565:Unit:=()
def tw1502208590389208641:Unit:=()
def tw14881683230809053308:Unit:=()
def tw3761460116095168604:Unit:=()
def tw8467272790064045633:Unit:=()
def tw10070170864611898985:Unit:=()
def tw6865567890181654314:Unit:=()
def tw11659343742430163242:Unit:=()
end PySem.W.Fast
open PySem PySem.W PyProof.Rows
set_option maxRecDepth 100000 in
set_option maxHeartbeats 0 in
theorem PySem.Challenge.cw_bandwright_k11_undone_counted_holds : PySem.Challenge.rw_bandwright_k11_undone_counted.Holds := by
 w_on;o_law;k_head;(case hw=>w_witness2)
 k_fill
 refine My.walk (l:=PySem.Challenge.rw_bandwright_k11_undone_counted) rfl rfl (fun w h Y=>PySem.W.kIn_of Y) ?F
 case F=>
  intro w mg fa h KX G vb
  have T:∃t,My.Txt (L2.Gv KX) mg t:=by
   dsimp only [L2.Gv]
   refine' My.VT KX G ?El ?Em ?Eo ?Ep ?Er ?Es ?Et ?Eu ?Ew ?Ex (bA KX G ?WH) (L2.bZ (st:=My.yZ) ?WI ?WJ ?WK) (bA KX G ?WL) (L2.bZ (st:=My.y4) ?WM ?WN ?WO) (bA KX G ?WQ) (L2.bZ (st:=My.y6) ?WR ?WS ?WT) (bA KX G ?WU) (L2.bZ (st:=My.y7) ?WV ?WW ?WX) (bA KX G ?WY) (L2.bZ (st:=My.y8) ?WZ ?W0 ?W2) (bA KX G ?W3) (L2.bZ (st:=My.y_) ?W4 ?W5 ?W6) (bA KX G ?W7) (L2.bZ (st:=My.za) ?W8 ?W9 ?W_) (bA KX G ?Xa) (L2.bZ (st:=My.zb) ?Xb ?Xc ?Xd) (bA KX G ?Xe) (L2.bZ (st:=My.zc) ?Xf ?Xg ?Xh) (bA KX G ?Xi) (L2.bZ (st:=My.zd) ?Xj ?Xk ?Xl) (bA KX G ?Xm) (L2.bZ (st:=My.ze) ?Xn ?Xo ?Xp) (bA KX G ?Xq) (L2.bZ (st:=My.zg) ?Xr ?Xs ?Xu) (bA KX G ?Xv) (L2.bZ (st:=My.zh) ?Xw ?Xx ?Xy) (bA KX G ?Xz) (L2.bZ (st:=My.zi) ?XA ?XC ?XD) (bA KX G ?XE) (L2.bZ (st:=My.zj) ?XF ?XG ?XH) (bA KX G ?XI) (L2.bZ (st:=My.zk) ?XJ ?XM ?XN) (bA KX G ?XO) (L2.bZ (st:=My.zl) ?XQ ?XR ?XS) (bA KX G ?XT) (L2.bZ (st:=My.zm) ?XU ?XW ?XX) (bA KX G ?XY) (L2.bZ (st:=My.zo) ?XZ ?X0 ?X3) (bA KX G ?X4) (L2.bZ (st:=My.zp) ?X5 ?X6 ?X7) (bA KX G ?X8) (L2.bZ (st:=My.zq) ?X9 ?X_ ?Yb) (bA KX G ?Yc) (L2.bZ (st:=My.zr) ?Yd ?Ye ?Yg) (bA KX G ?Yh) (L2.bZ (st:=My.zt) ?Yi ?Yj ?Yk) (bA KX G ?Yl) (L2.bZ (st:=My.zu) ?Ym ?Yn ?Yo) (bA KX G ?Yp) (L2.bZ (st:=My.zw) ?Yq ?Yr ?Ys) (bA KX G ?Yt) (L2.bZ (st:=My.zx) ?Yu ?Yv ?Yw) (bA KX G ?Yx) (L2.bZ (st:=My.zy) ?Yy ?Yz ?YA) (bA KX G ?YB) (L2.bZ (st:=My.zA) ?YC ?YD ?YE) (bA KX G ?YF) (L2.bZ (st:=My.zB) ?YG ?YH ?YI) (bA KX G ?YJ) (L2.bZ (st:=My.zC) ?YK ?YL ?YM) (bA KX G ?YN) (L2.bZ (st:=My.zD) ?YO ?YQ ?YR) (bA KX G ?YS) (L2.bZ (st:=My.zE) ?YT ?YU ?YV) (bA KX G ?YW) (L2.bZ (st:=My.zF) ?YX ?YY ?YZ) (bA KX G ?Y0) (L2.bZ (st:=My.zG) ?Y3 ?Y4 ?Y5) (bA KX G ?Y6) (L2.bZ (st:=My.zH) ?Y7 ?Y8 ?Y9) (bA KX G ?Y_) (L2.bZ (st:=My.zI) ?Za ?Zb ?Zc) (bA KX G ?Zd) (L2.bZ (st:=My.zJ) ?Ze ?Zf ?Zg) (bA KX G ?Zh) (L2.bZ (st:=My.zK) ?Zi ?Zj ?Zk) ⟨?Zl,?Zm,?Zn,?Zo⟩ (L2.bZ (st:=My.zL) ?Zp ?Zq ?Zr) ?Ey ?Ez ?uB ?uC ?qL ?uD ⟨?Zs,?Zt,?Zu⟩ (L2.bZ (st:=My.zM) ?Zv ?Zw ?Zx) ⟨?Zy,?Zz,?ZA⟩ (L2.bZ (st:=My.zN) ?ZC ?ZD ?ZE) ?EA ?EB ?EC ?ED ?EE ?EF ?EG ?EH ?EI ?EJ ?EK ?EL ?EM ?EN ?EO ?ER ?ES ?ET ?EU ?EV ?EW ?EX ?EY ?EZ ?E1 ?E2 ?E3 ?E4 ?E5 ?E6 ?E7 ?E8 ?E9 ?E_ ?Fb ?Fc ?Fd ?Fe ?Ff ?Fg ?Fi ?Fj
   (case El|Em|Eo|Ep|Er|Es|Et|Eu|Ew|Ex|WH|WI|WJ|WK|WL|WM|WN|WO|WQ|WR|WS|WT|WU|WV|WW|WX|WY|WZ|W0|W2|W3|W4|W5|W6|W7|W8|W9|W_|Xa|Xb|Xc|Xd|Xe|Xf|Xg|Xh|Xi|Xj|Xk|Xl|Xm|Xn|Xo|Xp|Xq|Xr|Xs|Xu|Xv|Xw|Xx|Xy|Xz|XA|XC|XD|XE|XF|XG|XH|XI|XJ|XM|XN|XO|XQ|XR|XS|XT|XU|XW|XX|XY|XZ|X0|X3|X4|X5|X6|X7|X8|X9|X_|Yb|Yc|Yd|Ye|Yg|Yh|Yi|Yj|Yk|Yl|Ym|Yn|Yo|Yp|Yq|Yr|Ys|Yt|Yu|Yv|Yw|Yx|Yy|Yz|YA|YB|YC|YD|YE|YF|YG|YH|YI|YJ|YK|YL|YM|YN|YO|YQ|YR|YS|YT|YU|YV|YW|YX|YY|YZ|Y0|Y3|Y4|Y5|Y6|Y7|Y8|Y9|Y_|Za|Zb|Zc|Zd|Ze|Zf|Zg|Zh|Zi|Zj|Zk|Zl|Zm|Zn|Zo|Zp|Zq|Zr|Ey|Ez|uB|uC|qL|uD|Zs|Zt|Zu|Zv|Zw|Zx|Zy|Zz|ZA|ZC|ZD|ZE|EA|EB|EC|ED|EE|EF|EG|EH|EI|EJ|EK|EL|EM|EN|EO|ER|ES|ET|EU|EV|EW=>k_is)
   (case EX|EY|EZ|E1=>k_exc)
   (case E2|E3=>k_is)
   (case E4|E5|E6|E7|E8|E9|E_|Fb|Fc=>kit_is)
   (case Fd|Fe|Ff|Fg|Fi|Fj=>k_is)
  obtain ⟨t,T⟩:=T
  have e0:=vb.symm.trans T.J9
  cases e0
  exact My.VS T
#print axioms PySem.Challenge.cw_bandwright_k11_undone_counted_holds
