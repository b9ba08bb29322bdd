import PyProof.Rows.All
import Wide.All
import OpenK.AllK
import Wide.FinOn
import Lean
import PyProof.EqAt
import PyProof.EqKinds
import PyProof.TupleCall
import PySem.Challenge.RW_bandwright_k67_whole_twofold_ranks
set_option Elab.async false
set_option linter.all false
set_option maxRecDepth 100000
abbrev h_:=@decide_eq_false
abbrev m_:=@beq_eq_false_iff_ne
abbrev ak:=@if_pos
abbrev aj:=@if_neg
abbrev bN:=@PySem.Heap.lt_size
abbrev dC:=@Nat.lt_of_lt_of_le
abbrev gk:=@Nat.lt_irrefl
abbrev fG:=@Nat.ne_of_lt
abbrev Bh:=@PySem.W.hideAll_get
abbrev uI:=@List.mem_filter
abbrev e7:=@List.mem_range
abbrev av:=@Nat.le_trans
abbrev yN:=@Nat.le_of_lt
abbrev Bi:=@List.filterMap_cons
abbrev i6:=@List.mem_cons_self
abbrev ia:=@List.mem_cons_of_mem
abbrev fg:=@List.mem_cons
abbrev uJ:=@List.mem_append
abbrev aG:=@List.getElem?_eq_some_iff
abbrev ng:=@List.getElem?_set_self
abbrev nh:=@List.getElem?_set_ne
abbrev cf:=@PySem.wpAny_mono
abbrev mf:=@PySem.wpAny_truthy_bool
abbrev fK:=@congrArg
abbrev Bj:=@PySem.wpAny_execs_nil
abbrev Bk:=@PySem.wpAny_assign_Name
abbrev cS:=@PySem.wpAny_bind
abbrev uK:=@PySem.wpAny_standAt
abbrev e8:=@PySem.wpAny_pure
abbrev qw:=@PySem.wpAny_newObj_type
abbrev df:=@PySem.Heap.get?_push_of_some
abbrev qx:=@PySem.wpAny_passesOwn
abbrev dW:=@Bool.false_ne_true
abbrev iC:=@Int.mul_one
abbrev Bl:=@PySem.wpAny_pyIter_list
abbrev gq:=@PySem.Heap.get?_push_size
abbrev aI:=@Nat.le_refl
abbrev Bm:=@PyProof.Rows.callWith_type1
abbrev d7:=@List.mem_append_right
abbrev fh:=@Nat.zero_le
abbrev yO:=@Int.fdiv_eq_ediv_of_nonneg
abbrev yP:=@Bool.eq_iff_iff
abbrev eQ:=@List.size_toArray
abbrev oZ:=@beq_iff_eq
abbrev dN:=@List.length_cons
abbrev Bn:=@PySem.W.looks_findIn
abbrev iP:=@List.map_cons
abbrev aY:=@List.length_map
abbrev uN:=@PySem.Heap.size_push
abbrev jy:=@Nat.le_of_eq
abbrev jz:=@PySem.W.kia_one
abbrev Bp:=@PySem.wpAny_Call_Name_kw
abbrev jA:=@Nat.le_succ
abbrev Bq:=@List.nodup_cons
abbrev yQ:=@List.of_mem_zip
abbrev Fs:=@Option.isSome_iff_exists
abbrev yR:=@List.length_take
abbrev jB:=@PySem.mem_of_lookup
abbrev iQ:=@List.getElem?_append_right
abbrev iS:=@List.getElem?_append_left
abbrev bj:=@List.getElem?_map
abbrev o4:=@List.mem_of_getElem?
abbrev ni:=@List.length_append
abbrev eR:=@Int.toNat_natCast
abbrev nj:=@List.length_drop
abbrev kj:=@List.length_set
abbrev uO:=@List.replicate_succ
abbrev Br:=@List.flatten_cons
abbrev ib:=@Nat.succ_mul
abbrev jC:=@List.nil_append
abbrev jD:=@Nat.mul_comm
abbrev jE:=@List.map_nil
abbrev dr:=@decide_eq_true
abbrev bz:=@PySem.W.mg_of
abbrev dD:=@Nat.lt_of_le_of_lt
abbrev Ft:=@PySem.F.typeOf_object_class
abbrev yS:=@PySem.wpAny_loadPart_at
abbrev nB:=@List.all_eq_true
abbrev Bs:=@Bool.or_eq_true
abbrev Bt:=@decide_eq_true_eq
abbrev nC:=@List.forall_mem_nil
abbrev ic:=@List.forall_mem_cons
abbrev uP:=@PySem.wpAny_comprehension_free
abbrev Bu:=@PySem.wpAny_newFunctionEnv
abbrev Bv:=@PySem.codeAny_compLoop_tests
abbrev km:=@PySem.lookup_relabel_local
abbrev uQ:=@PySem.wpAny_tests_nil
abbrev uR:=@PySem.wpAny_tests_one
abbrev uS:=@PySem.codeAny_compStart_list
abbrev Fu:=@PyProof.noPylong_of_log2
abbrev dg:=@List.getD_eq_getElem?_getD
abbrev qy:=@List.mem_singleton
abbrev fH:=@List.length_range
abbrev yT:=@beq_self_eq_true
abbrev aE:=@List.getElem_mem
abbrev yU:=@Nat.gcd_pos_of_pos_right
abbrev jF:=@Int.natAbs_pos
abbrev uT:=@Int.natAbs_natCast
abbrev fL:=@Nat.pow_le_pow_right
abbrev eE:=@Int.emod_nonneg
abbrev o5:=@Int.ediv_nonneg
abbrev eW:=@Int.emod_lt_of_pos
abbrev yV:=@List.map_append
abbrev Bw:=@List.filter_cons
abbrev ie:=@of_decide_eq_true
abbrev uU:=@Int.mul_le_mul_of_nonneg_left
abbrev cG:=@Int.mul_zero
abbrev qz:=@Int.gcd_dvd_left
abbrev nE:=@Int.gcd_dvd_right
abbrev bT:=@Int.natAbs_mul
abbrev o6:=@Int.dvd_trans
abbrev kX:=@Int.mul_ediv_cancel_left
abbrev fi:=@Int.mul_comm
abbrev fP:=@Int.mul_pos
abbrev kn:=@Int.mul_assoc
abbrev nF:=@Int.natAbs_ediv_le_natAbs
abbrev jG:=@Int.dvd_refl
abbrev yW:=@Int.le_of_dvd
abbrev gO:=@Nat.mul_le_mul_left
abbrev Fv:=@Int.emod_add_mul_ediv
abbrev qA:=@Int.mul_emod
abbrev qB:=@Int.emod_eq_of_lt
abbrev BA:=@Int.fdiv_eq_ediv_of_dvd
abbrev i7:=@Int.mul_neg
abbrev yX:=@Int.natAbs_neg
abbrev nG:=@Int.gcd_one_right
abbrev yY:=@Int.mul_ne_zero
abbrev BB:=@Int.dvd_of_emod_eq_zero
abbrev qC:=@Nat.sub_self
abbrev Fw:=@PySem.exec_Assign_Name_used
abbrev qD:=@List.not_mem_nil
abbrev BC:=@Nat.le_add_right
abbrev yZ:=@Nat.lt_succ_of_lt
abbrev o7:=@List.lookup_cons
abbrev o8:=@Nat.not_lt
abbrev BD:=@PySem.Around.in1_units
abbrev mh:=@List.getElem?_zip_eq_some
abbrev y3:=@List.getElem?_eq_none
abbrev BE:=@Int.dvd_mul_left
abbrev gs:=@Nat.mul_le_mul_right
abbrev Fz:=@Classical.choose_spec
abbrev kY:=@Int.zero_dvd
abbrev BF:=@Int.mul_eq_zero
abbrev i8:=@List.length_eq_zero_iff
abbrev y4:=@Int.add_zero
abbrev uV:=@Int.one_mul
abbrev mj:=@Int.zero_add
abbrev iT:=@Int.zero_mul
abbrev i9:=@List.getElem_map
abbrev nH:=@Int.natCast_mul
abbrev o9:=@Int.eq_of_mul_eq_mul_left
abbrev FA:=@Int.natAbs_dvd_natAbs
abbrev kZ:=@Nat.mul_assoc
abbrev bI:=@Nat.mul_le_mul
abbrev qE:=@Nat.mul_left_comm
abbrev gC:=@Nat.le_mul_of_pos_left
abbrev o_:=@Classical.byContradiction
abbrev y6:=@Nat.zero_add
abbrev BG:=@List.mem_reverse
abbrev k6:=@Nat.le_mul_of_pos_right
abbrev nI:=@List.ext_getElem
abbrev y7:=@List.map_map
abbrev ko:=@List.length_zip
abbrev mq:=@Nat.div_add_mod
abbrev BH:=@List.pairwise_iff_getElem
abbrev gQ:=@List.mem_iff_getElem
abbrev y8:=@List.length_zipWith
abbrev BI:=@List.getElem?_zipWith
abbrev uW:=@List.getElem?_drop
abbrev uX:=@List.map_congr_left
abbrev mr:=@Nat.pow_succ
abbrev uY:=@Nat.mul_pos
abbrev du:=@List.mem_map
abbrev gu:=@List.getElem?_eq_getElem
abbrev BJ:=@Classical.not_imp
abbrev qF:=@Nat.not_lt_zero
abbrev qG:=@Nat.pow_pos
abbrev nJ:=@List.getElem_of_mem
abbrev BK:=@Nat.pos_of_ne_zero
abbrev fY:=@PySem.PassesOwn.never
abbrev dh:=@PySem.boot_len
abbrev nK:=@PySem.F.excBase_ValueError
abbrev ku:=@List.length_nil
abbrev kv:=@List.cons_append
abbrev a8:=@List.set_cons_zero
abbrev a9:=@List.set_cons_succ
abbrev qH:=@PySem.F.plainAttrs_list
abbrev y_:=@PySem.F.slot_list_append
abbrev za:=@PySem.F.type_list_append
abbrev jH:=@PySem.W.mg_none_of
abbrev aD:=List (List (Int×Int))
abbrev a_:=List (Int×Int)
abbrev ax:=Nat→Nat→Int
abbrev d8:=PySem.Str→Option PySem.Value
abbrev cV:=PySem.Value→PySem.Shared→Prop
abbrev aL:=PySem.W.Frag
abbrev bS:=List (PySem.Addr×PySem.Obj)
namespace L2
open PySem PySem.Spec PyProof.Rows
abbrev Key:=Sum Int Str
def Kt:Key→Value→Bool
 | .inl k,v=>Value.isInt k v
 | .inr x,v=>Value.isStrOf x v
def SI(w:World):Key→Int
 | .inl k=>hashInt k
 | .inr x=>hashStr w x
theorem nM:∀{k:Key} {v:Value},Kt k v=true→(∃i t,k=Sum.inl i∧v=Value.int i t)∨(∃x t,k=Sum.inr x∧v=Value.str x t)
 | .inl i,v,h=>by obtain ⟨t,e⟩:=Value.isInt_shape (k:=i) (v:=v) h;exact .inl ⟨i,t,rfl,e⟩
 | .inr x,v,h=>by obtain ⟨t,e⟩:=Value.isStrOf_shape (x:=x) (v:=v) h;exact .inr ⟨x,t,rfl,e⟩
theorem SJ(a b:Int):decide ((Sum.inl a:Key)=Sum.inl b)=(a == b):=by
 by_cases e:a=b;·subst e;simp
 ·have h:¬(Sum.inl a:Key)=Sum.inl b:=fun q=>e (Sum.inl.inj q)
  rw [h_ h];exact (m_.mpr e).symm
theorem SK(a b:Str):decide ((Sum.inr a:Key)=Sum.inr b)=decide (a=b):=by
 by_cases e:a=b;·subst e;simp
 ·have h:¬(Sum.inr a:Key)=Sum.inr b:=fun q=>e (Sum.inr.inj q)
  rw [h_ h,h_ e]
theorem SM(a:Int)(b:Str):decide ((Sum.inl a:Key)=Sum.inr b)=false:=h_ (fun q=>nomatch q)
theorem SN(a:Str)(b:Int):decide ((Sum.inr a:Key)=Sum.inl b)=false:=h_ (fun q=>nomatch q)
def FC(prog:Program)(w:World):PySem.KeyKind prog w Key where
 is:=Kt
 hash:=SI w
 inj:=fun v a b ha hb=>by
  rcases nM ha with ⟨i,t,rfl,rfl⟩ | ⟨x,t,rfl,rfl⟩
  ·rcases nM hb with ⟨j,u,rfl,e⟩ | ⟨y,u,rfl,e⟩
   ·injection e with e1 _;rw [e1]
   ·exact nomatch e
  ·rcases nM hb with ⟨j,u,rfl,e⟩ | ⟨y,u,rfl,e⟩
   ·exact nomatch e
   ·injection e with e1 _;rw [e1]
 byValue:=fun k v h=>by
  rcases nM h with ⟨i,t,rfl,rfl⟩ | ⟨x,t,rfl,rfl⟩ <;> rfl
 pyHash:=fun hv h=>by
  rcases nM hv with ⟨i,t,rfl,rfl⟩ | ⟨x,t,rfl,rfl⟩
  ·exact wpAny_pyHash_int h
  ·exact wpAny_pyHash_str h
 eqBool:=fun hu hv h=>by
  rcases nM hu with ⟨i,t,rfl,rfl⟩ | ⟨x,t,rfl,rfl⟩
  ·rcases nM hv with ⟨j,u,rfl,rfl⟩ | ⟨y,u,rfl,rfl⟩
   ·rw [SJ] at h;exact wpAny_eqBool_int h
   ·rw [SM] at h;exact SeqAt.EqAt.int_str i t y u _ _ _ _ h
  ·rcases nM hv with ⟨j,u,rfl,rfl⟩ | ⟨y,u,rfl,rfl⟩
   ·rw [SN] at h;exact SeqAt.EqAt.str_int x t j u _ _ _ _ h
   ·rw [SK] at h;exact wpAny_eqBool_str h
 «strs»:=fun k x t v h=>by
  rcases nM h with ⟨i,u,rfl,e⟩ | ⟨y,u,rfl,e⟩
  ·exact nomatch e
  ·injection e with e1 _
   subst e1
   cases v <;> rfl
inductive V where
 | aV | bl (b:Bool) | int (i:Int) | str (x:Str) | i_ (b:Array UInt8) | qI (b:UInt64) | ref (a:Addr) | ty (n:String)
 deriving DecidableEq
def RelV:V→Value→Prop
 | .aV,u=>u=Value.none
 | .bl b,u=>u=Value.bool b
 | .int i,u=>∃t,u=Value.int i t
 | .str x,u=>∃t,u=Value.str x t
 | .i_ b,u=>∃t,u=Value.bytes b t
 | .qI b,u=>∃t,u=Value.float b t
 | .ref a,u=>u=Value.ref a
 | .ty n,u=>u=Value.type n
abbrev Vals:List V→List Value→Prop:=Paired RelV
variable {xs:List V} {us:List Value}
theorem Vals.length(r:Vals xs us):xs.length=us.length:=Paired.length r
theorem Vals.get:∀{xs:List V} {us:List Value} {i:Nat} {x:V},Vals xs us→xs[i]?=some x→∃u,us[i]?=some u∧RelV x u
 | _,_,_,_,.nil,e=>by simp at e
 | _,_,0,_,.cons r _,e=>by simp at e;subst e;exact ⟨_,rfl,r⟩
 | _,_,i+1,x,.cons _ t,e=>by
  obtain ⟨u,h1,h2⟩:=Vals.get (i:=i) (x:=x) t (by simpa using e)
  exact ⟨u,by simpa using h1,h2⟩
theorem Vals.set{x:V}{u:Value}(r:RelV x u):∀{xs:List V} {us:List Value} (i:Nat),Vals xs us→Vals (xs.set i x) (us.set i u)
 | _,_,_,.nil=>.nil
 | _,_,0,.cons _ t=>.cons r t
 | _,_,i+1,.cons q t=>.cons q (Vals.set r i t)
theorem Vals.append:∀{xs ys:List V} {us ws:List Value},Vals xs us→Vals ys ws→Vals (xs++ys) (us++ws)
 | _,_,_,_,.nil,s=>s
 | _,_,_,_,.cons r t,s=>.cons r (Vals.append t s)
theorem Vals.take:∀{xs:List V} {us:List Value} (n:Nat),Vals xs us→Vals (xs.take n) (us.take n)
 | _,_,0,_=>.nil
 | _,_,_+1,.nil=>.nil
 | _,_,n+1,.cons r t=>.cons r (Vals.take n t)
theorem Vals.drop:∀{xs:List V} {us:List Value} (n:Nat),Vals xs us→Vals (xs.drop n) (us.drop n)
 | _,_,0,r=>r
 | _,_,_+1,.nil=>.nil
 | _,_,n+1,.cons _ t=>Vals.drop n t
theorem Vals.none_of:∀{xs:List V} {us:List Value} {i:Nat},Vals xs us→xs[i]?=none→us[i]?=none:=fun{xs us i} r e=>by have h1:=r.length;have h2:xs.length≤i:=List.getElem?_eq_none_iff.mp e;exact List.getElem?_eq_none_iff.mpr (by lia)
def mw:Option V→Option Value→Prop
 | some v,some u=>RelV v u
 | none,none=>True
 | _,_=>False
def KV{κ:Type}:List (κ×V)→List (κ×Value)→Prop:=Paired fun(p:κ×V) (q:κ×Value)=>p.1=q.1∧RelV p.2 q.2
def kV:Key→V
 | .inl i=>.int i
 | .inr x=>.str x
inductive HO where
 | lst (xs:List V)
 | tup (xs:List V)
 | dK (dj:List (Key×V)) | dT (dj:List (List Key×V))
 | set (S:Int→Bool) (n:Nat)
 | ins (C dx:Addr) (fs:List (Str×V))
 | own (x:Addr)
 | xd (fs:List (Str×V))
 | met (f x:Addr)
 | gv (lo hi:Int)
 | iD (o:Obj) (u:HO)
 | nN (ps:Array Value)
 | ext (φ:Heap→Prop)
abbrev Hp:=Addr→Option HO
def upd(H:Hp)(a:Addr)(o:HO):Hp:=fun b=>if b=a then some o else H b
variable {H:Hp} {a:Addr} {o:HO}
theorem aM:upd H a o a=some o:=by unfold upd;rw [ak rfl]
theorem bE{b:Addr}(h:b≠a):upd H a o b=H b:=by unfold upd;rw [aj h]
theorem SO{u:HO}:upd (upd H a o) a u=upd H a u:=by funext b;unfold upd;split <;> rfl
theorem gw{b:Addr}(h:H a=some o)(h':H b=none):a≠b:=by intro e;subst e;rw [h] at h';cases h'
section
variable (P:Program) (w:World)
def fQ(H:Hp)(h:Heap)(a:Addr):HO→Prop
 | .lst xs=>xs.length≤sizeLine∧∃(au:List Value) (n:Nat),Vals xs au∧h.get? a=some {cls:=.type "list",data:=.seq au.toArray n}
 | .tup xs=>xs.length≤sizeLine∧∃au:List Value,Vals xs au∧IsTup h a au.toArray
 | .dK dj=>dj.length≤sizeLine∧(a == sysModules)=false∧∃vs,KV dj vs∧h.DictOf (FC P w) a vs
 | .dT dj=>dj.length≤sizeLine∧(a == sysModules)=false∧∃xs:List (List Key×Addr×Value),
   Paired (fun(p:List Key×V) (q:List Key×Addr×Value)=>p.1=q.1∧H q.2.1=some (.tup (p.1.map kV))∧RelV p.2 q.2.2) dj xs ∧
   ∃o es ep,h.get? a=some o∧o.ExactDict∧o.data=.dict es ep∧es.toList=xs.map (entryOfKey (tupleKind (FC P w)))∧(xs.map (·.1)).Nodup
 | .set S n=>h.SetOf (intKind P w) a S n
 | .ins C dx fs=>H dx=some (.own a)∧fs.length≤1000∧dx≠a∧h.get? a=some (PySem.W.instObj C dx) ∧
   ∃mA,h.Ns1 dx mA∧(∀f,mw (fs.lookup f) (mA f))∧PySem.Within mA (fs.map (·.1))
 | .own _=>∃o,h.get? a=some o
 | .xd fs=>∃mA,h.Ns1 a mA∧∀f,mw (fs.lookup f) (mA f)
 | .gv lo hi=>∃t u v,h.get? a=some {cls:=.type "range",data:=.fields #[.int lo t,.int hi u,.int 1 v]}
 | .iD o u=>h.get? a=some o∧fQ H h a u
 | .nN ps=>h.get? a=some {cls:=.none,data:=.fields ps}
 | .met f x=>h.get? a=some (PySem.W.methodObj (.ref f) (.ref x))
 | .ext φ=>φ h∧(∃o,h.get? a=some o)∧∀h1 h2:Heap,φ h1→(∀o,h1.get? a=some o→h2.get? a=some o)→φ h2
def dQ(H:Hp)(h:Heap):Prop:=∀a o,H a=some o→fQ P w H h a o
end
section
variable {P:Program} {w:World} {H H':Hp} {h h':Heap} {a:Addr} {o:HO}
theorem fQ.lt(x:fQ P w H h a o):a<h.objs.size:=by
 cases o with
 | lst xs=>obtain ⟨_,_,_,_,e⟩:=x;exact bN e
 | tup xs=>obtain ⟨_,_,_,p⟩:=x;exact p.lt
 | dK dj=>obtain ⟨_,_,_,_,o,_,_,e,_⟩:=x;exact bN e
 | dT dj=>obtain ⟨_,_,_,_,o,_,_,e,_⟩:=x;exact bN e
 | set S n=>obtain ⟨o,_,_,_,e,_⟩:=x;exact bN e
 | ins C dx fs=>obtain ⟨_,_,_,e,_⟩:=x;exact bN e
 | own y=>obtain ⟨_,e⟩:=x;exact bN e
 | xd fs=>obtain ⟨_,⟨_,_,_,e,_⟩,_⟩:=x;exact bN e
 | gv lo hi=>obtain ⟨_,_,_,e⟩:=x;exact bN e
 | iD ob u=>obtain ⟨e,_⟩:=x;exact bN e
 | nN ps=>exact bN (show h.get? a=some _ from x)
 | met f y=>exact bN (show h.get? a=some _ from x)
 | ext φ=>obtain ⟨_,⟨_,e⟩,_⟩:=x;exact bN e
theorem Paired.K_{α β:Type}{F G:α→β→Prop}:∀{l₁:List α} {l₂:List β},Paired F l₁ l₂→(∀a b,F a b→G a b)→Paired G l₁ l₂
 | _,_,.nil,_=>.nil
 | _,_,.cons r t,f=>.cons (f _ _ r) (Paired.K_ t f)
theorem fQ.ja(x:fQ P w H h a o)(k:∀b u,(b=a∨H b=some (.own a))→h.get? b=some u→h'.get? b=some u)
  (ho:∀b,H b=some (.own a)→H' b=some (.own a)) (ht:∀b xs,H b=some (.tup xs)→H' b=some (.tup xs)):fQ P w H' h' a o:=by
 induction o with
 | lst xs=>obtain ⟨z,au,n,r,e⟩:=x;exact ⟨z,au,n,r,k _ _ (.inl rfl) e⟩
 | tup xs=>obtain ⟨z,au,r,ob,e,c⟩:=x;exact ⟨z,au,r,ob,k _ _ (.inl rfl) e,c⟩
 | dK dj=>obtain ⟨z,y,vs,r,ob,es,ep,e,c⟩:=x;exact ⟨z,y,vs,r,ob,es,ep,k _ _ (.inl rfl) e,c⟩
 | dT dj=>obtain ⟨z,y,xs,r,ob,es,ep,e,c⟩:=x;exact ⟨z,y,xs,Paired.K_ r fun p q z=>⟨z.1,ht _ _ z.2.1,z.2.2⟩,ob,es,ep,k _ _ (.inl rfl) e,c⟩
 | set S n=>obtain ⟨ob,es,ep,t,e,c⟩:=x;exact ⟨ob,es,ep,t,k _ _ (.inl rfl) e,c⟩
 | ins C dx fs=>obtain ⟨d,z,ne,e,mA,⟨od,es,ep,e2,c⟩,r⟩:=x;exact ⟨ho _ d,z,ne,k _ _ (.inl rfl) e,mA,⟨od,es,ep,k _ _ (.inr d) e2,c⟩,r⟩
 | own y=>obtain ⟨ob,e⟩:=x;exact ⟨ob,k _ _ (.inl rfl) e⟩
 | xd fs=>obtain ⟨mA,⟨od,es,ep,e,c⟩,r⟩:=x;exact ⟨mA,⟨od,es,ep,k _ _ (.inl rfl) e,c⟩,r⟩
 | gv lo hi=>obtain ⟨t,u,v,e⟩:=x;exact ⟨t,u,v,k _ _ (.inl rfl) e⟩
 | iD ob u ih=>obtain ⟨e,q⟩:=x;exact ⟨k _ _ (.inl rfl) e,ih q⟩
 | nN ps=>have e:h.get? a=some {cls:=.none,data:=.fields ps}:=x;show h'.get? a=some {cls:=.none,data:=.fields ps};exact k a _ (.inl rfl) e
 | met f y=>have e:h.get? a=some (PySem.W.methodObj (.ref f) (.ref y)):=x;show h'.get? a=some (PySem.W.methodObj (.ref f) (.ref y));exact k a _ (.inl rfl) e
 | ext φ=>obtain ⟨p,⟨o,e⟩,st⟩:=x;exact ⟨st _ _ p fun o q=>k _ _ (.inl rfl) q,⟨o,k _ _ (.inl rfl) e⟩,st⟩
theorem dQ.lt(x:dQ P w H h)(e:H a=some o):a<h.objs.size:=(x a o e).lt
theorem dQ.fresh(x:dQ P w H h)(e:h.objs.size≤a):H a=none:=by
 cases q:H a with
 | none=>rfl
 | some u=>exact absurd (dC (x.lt q) e) (gk _)
theorem dQ.kept(x:dQ P w H h)(k:∀b u,h.get? b=some u→h'.get? b=some u):dQ P w H h':=fun a o e=>(x a o e).ja (fun b u _ q=>k b u q) (fun _ q=>q) fun _ _ q=>q
theorem dQ.laid(x:dQ P w H h)(k:∀b u,h.get? b=some u→h'.get? b=some u)(hp:h.objs.size≤a)(new:fQ P w (upd H a o) h' a o):dQ P w (upd H a o) h':=fun b u e=>by
 have hn:=x.fresh hp;by_cases hb:b=a;·subst hb;rw [aM] at e;cases e;exact new
 ·rw [bE hb] at e
  exact (x b u e).ja (fun c v _ q=>k c v q) (fun c q=>by rw [bE (gw q hn)];exact q) fun c xs q=>by rw [bE (gw q hn)];exact q
end
def Rd(H:Hp)(a:Addr)(u:HO):Prop:=H a=some u∨∃o,H a=some (.iD o u)
variable {P:Program} {w:World} {h:Heap}
theorem Rd.ok{u:HO}(r:Rd H a u)(x:dQ P w H h):fQ P w H h a u:=by
 rcases r with r | ⟨o,r⟩;·exact x a u r
 ·obtain ⟨_,q⟩:=x a _ r
  exact q
def BL:Option HO→Prop
 | some (.lst _)=>True
 | some (.dK _)=>True
 | some (.dT _)=>True
 | some (.set _ _)=>True
 | some (.ins _ _ _)=>True
 | some (.ext _)=>True
 | _=>False
section
variable {P:Program} {w:World} {H:Hp} {h h':Heap} {x e:Addr} {o':HO}
theorem dQ.write(ok:dQ P w H h)(mu:BL (H x))(he:e=x∨H e=some (.own x))(k:∀b u,b≠e→h.get? b=some u→h'.get? b=some u)(uZ:∃u,h'.get? e=some u)
  (new:fQ P w (upd H x o') h' x o'):dQ P w (upd H x o') h':=fun b u q=>by
 have La:∀c y,H c=some (.own y)→c≠x:=fun c y r z=>by subst z;rw [r] at mu;exact mu
 have SQ:∀c xs,H c=some (.tup xs)→c≠x:=fun c xs r z=>by subst z;rw [r] at mu;exact mu
 by_cases hb:b=x;·subst hb;rw [aM] at q;cases q;exact new
 ·rw [bE hb] at q
  by_cases qJ:b=e
  ·have q':H b=some (.own x):=by
    rcases he with z | z;·exact absurd (qJ.trans z) hb
    ·rw [qJ];exact z
   rw [q] at q';cases q';obtain ⟨v,hv⟩:=uZ;exact ⟨v,by rw [qJ];exact hv⟩
  ·refine (ok b u q).ja (fun c v hc r=>k c v ?_ r) (fun c r=>by rw [bE (La c b r)];exact r) fun c xs r=>by rw [bE (SQ c xs r)];exact r
   rcases hc with rfl | hc;·exact qJ
   ·rintro rfl
    rcases he with z | z;·exact La c b hc z
    ·rw [hc] at z;cases z;exact hb rfl
end
structure Un (fs ex:List Addr) (H H':Hp) (h h':Heap):Prop where
 keep:∀b o,h.get? b=some o→H b=none→b∉fs→b∉ex→h'.get? b=some o
 slot:∀b o,h.get? b=some o→H b=none→b∈fs→b∉ex→∃sl,h'.get? b=some {o with slots:=sl}
 free:∀b o,h.get? b=some o→H b=none→b∉ex→H' b=none
 there:∀b o,h.get? b=some o→b∉ex→∃o',h'.get? b=some o'
 gR:∀b xs,H b=some (.tup xs)→H' b=some (.tup xs)
 gD:∀b o u,H b=some (.iD o u)→H' b=some (.iD o u)
 gS:∀b ps,H b=some (.nN ps)→∃more,H' b=some (.nN (ps++more))
section
variable {fs SR ex mB:List Addr} {H H1 H2:Hp} {h h1 h2 h':Heap} {a x e:Addr} {o:HO}
theorem Un.any(u:Un fs ex H H1 h h1){b:Addr}{ob:Obj}(q:h.get? b=some ob)(n:H b=none)(hx:b∉ex):∃sl,h1.get? b=some {ob with slots:=sl}:=by
 by_cases hb:b∈fs;·exact u.slot b ob q n hb hx
 ·exact ⟨ob.slots,u.keep b ob q n hb hx⟩
theorem Un.kept(k:∀b u,h.get? b=some u→h'.get? b=some u):Un fs ex H H h h':=
 ⟨fun b ob q _ _ _=>k b ob q,fun b ob q _ _ _=>⟨ob.slots,k b ob q⟩,fun _ _ _ n _=>n,fun b ob q _=>⟨ob,k b ob q⟩,fun _ _ q=>q,fun _ _ _ q=>q,fun _ ps q=>⟨#[],by rw [q];simp⟩⟩
theorem Un.refl:Un fs ex H H h h:=Un.kept fun _ _ q=>q
theorem Un.laid(k:∀b u,h.get? b=some u→h'.get? b=some u)(hp:h.objs.size≤a)(hn:H a=none):Un fs ex H (upd H a o) h h' where
 keep:=fun b u q _ _ _=>k b u q
 slot:=fun b u q _ _ _=>⟨u.slots,k b u q⟩
 free:=fun b u q n _=>by rw [bE (fG (dC (bN q) hp))];exact n
 there:=fun b u q _=>⟨u,k b u q⟩
 gR:=fun b xs q=>by rw [bE (gw q hn)];exact q
 gD:=fun b u xs q=>by rw [bE (gw q hn)];exact q
 gS:=fun b ps q=>⟨#[],by rw [bE (gw q hn),q];simp⟩
theorem Un.write(mu:BL (H x))(he:e=x∨H e=some (.own x))(k:∀b u,b≠e→h.get? b=some u→h'.get? b=some u)(uZ:∃u,h'.get? e=some u):Un fs ex H (upd H x o) h h':=by
 have hx:∀b,H b=none→b≠x:=fun b n z=>by subst z;rw [n] at mu;exact mu
 have hb:∀b,H b=none→b≠e:=fun b n z=>by
  subst z;rcases he with r | r;·exact hx b n r
  ·rw [n] at r;cases r
 have hm:∀b u,H b=some u→¬BL (some u)→b≠x:=fun b u q nm z=>by subst z;rw [q] at mu;exact nm mu
 refine ⟨fun b u q n _ _=>k b u (hb b n) q,fun b u q n _ _=>⟨u.slots,k b u (hb b n) q⟩,fun b u q n _=>by rw [bE (hx b n)];exact n,fun b u q _=>?_,
  fun b xs q=>by rw [bE (hm b _ q fun z=>z)];exact q,fun b u xs q=>by rw [bE (hm b _ q fun z=>z)];exact q,fun b ps q=>⟨#[],by rw [bE (hm b _ q fun z=>z),q];simp⟩⟩
 by_cases qJ:b=e;·subst qJ;exact uZ
 ·exact ⟨u,k b u qJ q⟩
end
def BM(h:Heap)(H:Hp):List Addr:=(List.range h.objs.size).filter fun a=>(H a).isSome
def nO(h:Heap)(H:Hp):Heap:=PySem.W.hideAll h (BM h H)
theorem SS(h:Heap)(H:Hp):(nO h H).objs.size=h.objs.size:=PySem.W.hideAll_size _ _
theorem SU{b:Addr}{o:Obj}(e:h.get? b=some o)(n:H b=none):(nO h H).get? b=some o:=
 Bh _ e fun hm=>by have q:(H b).isSome=true:=(uI.mp hm).2;rw [n] at q;simp at q
theorem SV{b:Addr}{o:Obj}(e:(nO h H).get? b=some o):h.get? b=some o∧H b=none:=by
 have e':h.get? b=some o:=PySem.W.of_hideAll (BM h H) e;refine ⟨e',?_⟩;cases q:H b with
 | none=>rfl
 | some x=>
  have hm:b∈BM h H:=uI.mpr ⟨e7.mpr (bN e'),by simp [q]⟩
  have z:(nO h H).get? b=none:=PySem.W.hideAll_none (BM h H) hm;rw [z] at e;cases e
structure Mod (K:aL) (mg:d8) (base:Heap):Prop where
 dZ:K.In base
 glob:base.Ns mainGlobals mg
 blt:∃mb,base.Ns builtinsNs mb∧∀x:Str,x ≠ "__name__"→mb x=bootBuiltins x
 nolimit:base.NoLimit
structure Cx where
 prog:Program
 w:World
 K:PySem.W.Frag
 mg:Str→Option Value
 base:Heap
 A:Around
 N:List Str
 s₀:Shared
 H₀:Hp
 env:Env
 outer:List Env
 stack:List Env
 ex:List Addr
 fn:Str→Bool
 calm:Bool
 pn:List (Addr×Obj)
 xe:Value→Shared→Prop
def dy(l:List Env):List Addr:=l.filterMap (·.frame)
abbrev Cx.fs (X:Cx):List Addr:=dy X.outer
def nP(sc:Scope)(x:Str):Prop:=sc.names.lookup x=some .local∨sc.names.lookup x=some .cell∨sc.names.lookup x=some .free
def Loc(sc:Scope)(x:Str):Prop:=sc.names.lookup x=some .local∨sc.names.lookup x=some .cell
def Look(env:Env)(h:Heap)(m:d8)(x:Str)(u:Value):Prop:=
 (env.kindOf x=some .local∧m x=some u)∨((env.kindOf x=some .cell∨env.kindOf x=some .free)∧∃c,env.cells.lookup x=some c∧h.IsCell c (some u))
structure Cx.Ok (X:Cx):Prop where
 mod:Mod X.K X.mg X.base
 kind:X.env.scope.kind=.function
 glob:X.env.globals=mainGlobals
 blt:X.env.builtins=builtinsNs
 above:X.s₀.heap.objs.size≤X.env.locals
 inj:∀x y c,X.env.cells.lookup x=some c→X.env.cells.lookup y=some c→x=y
 has:∀x,(X.env.kindOf x=some .cell∨X.env.kindOf x=some .free)→∃c,X.env.cells.lookup x=some c
 nQ:∀x c,X.fn x=true→X.env.cells.lookup x=some c→X.s₀.heap.objs.size≤c
 hd:X.calm=true→X.A.handled=none
 frames:X.A.frames=some X.stack
 jI:X.stack=X.outer∨(X.stack=X.env::X.outer∧X.env.frame=some X.env.locals)
 Lb:∀b∈X.ex,b≠X.env.locals∧∀x c,X.env.cells.lookup x=some c→c≠b
 bs:∀b o,X.base.get? b=some o→X.s₀.heap.get? b=some o∧X.H₀ b=none
 gE:X.base.objs.size≤X.s₀.heap.objs.size
 mC:∀b o,X.base.get? b=some o→b∉X.ex
 mE:∀b∈X.ex,b∉X.fs
 kx:X.s₀.heap.FunFrames X.base X.outer
 nR:∀b∈X.fs,X.H₀ b=none
structure Inv (X:Cx) (pins:bS) (σ:List (Option V)) (H:Hp) (s:Shared):Prop where
 ok:X.Ok
 os:s.os=X.s₀.os
 bare:AllBare s.gens
 base:Un X.fs X.ex X.H₀ H X.s₀.heap s.heap
 loc:∃m,s.heap.Ns X.env.locals m∧∀(i:Nat) (x:Str) (v:V),X.N[i]?=some x→σ[i]?=some (some v)→nP X.env.scope x→∃u,RelV v u∧Look X.env s.heap m x u
 cell:∀x c,X.env.cells.lookup x=some c→∃v,s.heap.IsCell c v
 free:H X.env.locals=none
 iU:∀x c,X.env.cells.lookup x=some c→H c=none
 pin:∀p∈X.pn++pins,s.heap.get? p.1=some p.2∧H p.1=none∧p.1≠X.env.locals∧p.1∉X.fs∧∀v,p.2.data≠.cell v
 aF:dQ X.prog X.w H s.heap
 len:σ.length=X.N.length
section
variable {X:Cx} {pins:bS} {σ:List (Option V)} {H H':Hp} {s:Shared} {h':Heap}
theorem Cx.Ok.SW(ok:X.Ok){b:Addr}{o:Obj}(e:X.base.get? b=some o):b∉X.fs:=fun hb=>by have:=(ok.kx.mem hb).1;rw [e] at this;cases this
theorem Inv.bs(I:Inv X pins σ H s):∀b o,X.base.get? b=some o→s.heap.get? b=some o∧H b=none:=fun b o e=>⟨I.base.keep b o (I.ok.bs b o e).1 (I.ok.bs b o e).2 (I.ok.SW e) (I.ok.mC b o e),I.base.free b o (I.ok.bs b o e).1 (I.ok.bs b o e).2 (I.ok.mC b o e)⟩
theorem Inv.bk(I:Inv X pins σ H s):∀b o,X.base.get? b=some o→s.heap.get? b=some o:=fun b o e=>(I.bs b o e).1
theorem Inv.mod(I:Inv X pins σ H s):Mod X.K X.mg X.base:=I.ok.mod
theorem Inv.e9(I:Inv X pins σ H s):X.K.In s.heap:=I.ok.mod.dZ.keeps I.bk
theorem Inv.lt(I:Inv X pins σ H s):X.env.locals<s.heap.objs.size:=let ⟨_,hn,_⟩:=I.loc;hn.lt
theorem Inv.sz(I:Inv X pins σ H s):X.s₀.heap.objs.size≤s.heap.objs.size:=av I.ok.above (yN I.lt)
theorem Inv.SX(I:Inv X pins σ H s)(h:s.heap.objs.size≤a):a∉X.fs:=fun hb=>by obtain ⟨_,o,ho,_⟩:=I.ok.kx.mem hb;exact absurd (dC (bN ho) (av I.sz h)) (gk _)
theorem Inv.qK(I:Inv X pins σ H s):∀x c,X.env.cells.lookup x=some c→c≠X.env.locals:=fun x c e z=>by obtain ⟨v,o,ho,hd⟩:=I.cell x c e;obtain ⟨m,⟨o',es,ep,nS,FD,_⟩,_⟩:=I.loc;rw [z,nS] at ho;cases ho;rw [FD] at hd;cases hd
theorem Inv.kx(I:Inv X pins σ H s):s.heap.FunFrames X.base X.outer:=by
 have all:∀(l:List Env),(∀b∈dy l,b∈X.fs)→X.s₀.heap.FunFrames X.base l→s.heap.FunFrames X.base l:=by
  intro l
  induction l with
  | nil=>intro _ _;trivial
  | cons env r ih=>
   intro hs hl;obtain ⟨hk,⟨L,o,hf,hn,ho,hd⟩,hr⟩:=hl;have hL:L∈X.fs:=hs L (by unfold dy;rw [Bi,hf];exact i6)
   obtain ⟨sl,e⟩:=I.base.slot L o ho (I.ok.nR L hL) hL fun z=>I.ok.mE L z hL;exact ⟨hk,⟨L,_,hf,hn,e,hd⟩,ih (fun b hb=>hs b (by unfold dy;rw [Bi,hf];exact ia _ hb)) hr⟩
 exact all X.outer (fun _ hb=>hb) I.ok.kx
theorem Inv.stack(I:Inv X pins σ H s):s.heap.FunFrames X.base X.stack:=by
 rcases I.ok.jI with e | ⟨e,hf⟩;·rw [e];exact I.kx
 ·rw [e]
  obtain ⟨m,hn,_⟩:=I.loc;refine .cons (by rw [I.ok.kind];decide) hf hn ?_ I.kx
  exact Heap.get?_none_of_le (av I.ok.gE I.ok.above)
theorem Inv.pe(I:Inv X pins σ H s):∀b∈dy X.stack,b∈X.env.locals::X.fs:=fun b hb=>by
 rcases I.ok.jI with e | ⟨e,hf⟩;·rw [e] at hb;exact ia _ hb
 ·rw [e] at hb
  unfold dy at hb;rw [Bi,hf] at hb;exact hb
theorem Inv.pf(I:Inv X pins σ H s):∀b∈dy X.stack,H b=none:=fun b hb=>by
 rcases fg.mp (I.pe b hb) with e | hb;·rw [e];exact I.free
 ·obtain ⟨_,o,ho,_⟩:=I.ok.kx.mem hb
  exact I.base.free b o ho (I.ok.nR b hb) fun z=>I.ok.mE b z hb
variable {g':Array GenState} {t':Nat} {d':Drawn} {ch:List Addr}
theorem Inv.step(I:Inv X pins σ H s)
  (mF:∀b∈ch,(b∈X.ex∨X.s₀.heap.objs.size≤b)∧b≠X.env.locals∧(∀x c,X.env.cells.lookup x=some c→c≠b)∧∀p∈X.pn++pins,p.1≠b)
  (keep:∀b o,b≠X.env.locals→b∉X.fs→b∉ch→s.heap.get? b=some o→H b=none→h'.get? b=some o)
  (slot:∀b o,b≠X.env.locals→b∈X.fs→b∉ch→s.heap.get? b=some o→H b=none→∃sl,h'.get? b=some {o with slots:=sl}) (free:∀b o,b∉ch→s.heap.get? b=some o→H b=none→H' b=none)
  (there:∀b o,b∉ch→s.heap.get? b=some o→∃o',h'.get? b=some o')
  (gR:∀b xs,H b=some (.tup xs)→H' b=some (.tup xs)) (gD:∀b o u,H b=some (.iD o u)→H' b=some (.iD o u)) (gS:∀b ps,H b=some (.nN ps)→∃more,H' b=some (.nN (ps++more)))
  (ns:∀m,s.heap.Ns X.env.locals m→h'.Ns X.env.locals m) (aF:dQ X.prog X.w H' h') (hg:AllBare g') :
  Inv X pins σ H' {s with heap:=h',gens:=g',drawn:=d',toks:=t'}:=by
 have Lc:∀b o,X.s₀.heap.get? b=some o→b≠X.env.locals:=fun b o e=>fG (dC (bN e) I.ok.above);have BN:∀b o,X.s₀.heap.get? b=some o→b∉X.ex→b∉ch:=fun b o e hx hb=>by
  rcases (mF b hb).1 with z | z;·exact hx z
  ·exact absurd (dC (bN e) z) (gk _)
 have cellK:∀x c,X.env.cells.lookup x=some c→∀v,s.heap.IsCell c v→h'.IsCell c v:=fun x c e v ⟨o,ho,hd⟩=>by
  have zb:c∉ch:=fun z=>(mF c z).2.2.1 x c e rfl;by_cases hc:c∈X.fs
  ·obtain ⟨sl,q⟩:=slot c o (I.qK x c e) hc zb ho (I.iU x c e)
   exact ⟨_,q,hd⟩
  ·exact ⟨o,keep c o (I.qK x c e) hc zb ho (I.iU x c e),hd⟩
 refine ⟨I.ok,I.os,hg,⟨fun b o e n hb hx=>?_,fun b o e n hb hx=>?_,fun b o e n hx=>?_,fun b o e hx=>?_,fun b xs e=>gR b xs (I.base.gR b xs e),fun b o xs e=>gD b o xs (I.base.gD b o xs e),fun b ps e=>?_⟩,?_,fun x c e=>?_,?_,fun x c e=>?_,fun p hp=>?_,aF,I.len⟩;·exact keep b o (Lc b o e) hb (BN b o e hx) (I.base.keep b o e n hb hx) (I.base.free b o e n hx)
 ·obtain ⟨sl,e1⟩:=I.base.slot b o e n hb hx
  obtain ⟨SY,e2⟩:=slot b _ (Lc b o e) hb (BN b o e hx) e1 (I.base.free b o e n hx);exact ⟨SY,e2⟩
 ·obtain ⟨o',e1⟩:=I.base.there b o e hx
  exact free b o' (BN b o e hx) e1 (I.base.free b o e n hx)
 ·obtain ⟨o',e1⟩:=I.base.there b o e hx
  exact there b o' (BN b o e hx) e1
 ·obtain ⟨m1,e1⟩:=I.base.gS b ps e
  obtain ⟨m2,e2⟩:=gS b _ e1;exact ⟨m1++m2,by rw [e2,Array.append_assoc]⟩
 ·obtain ⟨m,hn,hl⟩:=I.loc
  refine ⟨m,ns m hn,fun i x v e1 e2 e3=>?_⟩;obtain ⟨u,r,l⟩:=hl i x v e1 e2 e3;refine ⟨u,r,?_⟩;rcases l with l | ⟨k,c,e,z⟩;·exact .inl l
  ·exact .inr ⟨k,c,e,cellK x c e _ z⟩
 ·obtain ⟨v,z⟩:=I.cell x c e
  exact ⟨v,cellK x c e v z⟩
 ·obtain ⟨m,⟨o,_,_,ho,_⟩,_⟩:=I.loc
  exact free _ o (fun z=>(mF _ z).2.1 rfl) ho I.free
 ·obtain ⟨v,o,ho,hd⟩:=I.cell x c e
  exact free c o (fun z=>(mF c z).2.2.1 x c e rfl) ho (I.iU x c e)
 ·obtain ⟨e,n,ne,nf,d⟩:=I.pin p hp
  have zb:p.1∉ch:=fun z=>(mF p.1 z).2.2.2 p hp rfl;exact ⟨keep p.1 p.2 ne nf zb e n,free p.1 p.2 zb e n,ne,nf,d⟩
theorem Inv.un(I:Inv X pins σ H s)(u:Un X.fs [] H H' s.heap h')(aF:dQ X.prog X.w H' h'):Inv X pins σ H' {s with heap:=h',toks:=t'}:=by
 obtain ⟨m,⟨o,es,ep,ho,r⟩,_⟩:=id I.loc;obtain ⟨sl,hL⟩:=u.any ho I.free (by simp)
 exact I.step (g':=s.gens) (d':=s.drawn) (ch:=[]) (fun _ z=>nomatch z) (fun b o _ hb _ e n=>u.keep b o e n hb (by simp)) (fun b o _ hb _ e n=>u.slot b o e n hb (by simp)) (fun b o _ e n=>u.free b o e n (by simp)) (fun b o _ e=>u.there b o e (by simp)) u.gR u.gD u.gS (fun m' hm=>by obtain ⟨o',FE,qL,nS,r'⟩:=hm;rw [ho] at nS;cases nS;exact ⟨_,FE,qL,hL,r'⟩) aF I.bare
theorem Inv.call(I:Inv X pins σ H s)(u:Un (dy X.stack) ch H H' s.heap h')(aF:dQ X.prog X.w H' h')(hg:AllBare g')
  (mF:∀b∈ch,(b∈X.ex∨X.s₀.heap.objs.size≤b)∧b≠X.env.locals∧(∀x c,X.env.cells.lookup x=some c→c≠b)∧∀p∈X.pn++pins,p.1≠b) :
  Inv X pins σ H' {s with heap:=h',gens:=g',drawn:=d',toks:=t'}:=by
 obtain ⟨m,⟨o,es,ep,ho,r⟩,_⟩:=id I.loc;obtain ⟨sl,hL⟩:=u.any ho I.free fun z=>(mF _ z).2.1 rfl;exact I.step (ch:=ch) mF (fun b o hL hb hc e n=>u.keep b o e n (fun z=>(fg.mp (I.pe b z)).elim hL hb) hc) (fun b o _ _ hc e n=>u.any e n hc) (fun b o hc e n=>u.free b o e n hc) (fun b o hc e=>u.there b o e hc) u.gR u.gD u.gS (fun m' hm=>by obtain ⟨o',FE,qL,nS,r'⟩:=hm;rw [ho] at nS;cases nS;exact ⟨_,FE,qL,hL,r'⟩) aF hg
theorem Inv.turned{it:Addr}(I:Inv X pins σ H s)(k:∀b o,b≠it→s.heap.get? b=some o→h'.get? b=some o)(hn:H it=none)(hL:it≠X.env.locals)
  (h1:it∈X.ex∨X.s₀.heap.objs.size≤it) (h2:∀x c,X.env.cells.lookup x=some c→c≠it) (h3:∀p∈X.pn++pins,p.1≠it):Inv X pins σ H {s with heap:=h',toks:=t'}:=by
 have Ld:∀b u,H b=some u→b≠it:=fun b u e z=>by rw [z,hn] at e;cases e
 refine I.step (g':=s.gens) (d':=s.drawn) (ch:=[it]) (fun b hb=>?_) (fun b o _ _ hc e _=>k b o (fun z=>hc (by simp [z])) e) (fun b o _ _ hc e _=>⟨o.slots,k b o (fun z=>hc (by simp [z])) e⟩) (fun _ _ _ _ n=>n)
  (fun b o hc e=>⟨o,k b o (fun z=>hc (by simp [z])) e⟩) (fun _ _ e=>e) (fun _ _ _ e=>e) (fun b ps e=>⟨#[],by rw [e];simp⟩) (fun m hm=>?_) (fun b u e=>?_) I.bare
 ·have e:b=it:=by simpa using hb
  subst e;exact ⟨h1,hL,h2,h3⟩
 ·obtain ⟨o,es,ep,ho,r⟩:=hm
  exact ⟨o,es,ep,k _ o (Ne.symm hL) ho,r⟩
 ·refine (I.aF b u e).ja (fun c v hc q=>k c v ?_ q) (fun _ q=>q) fun _ _ q=>q
  rcases hc with z | z;·rw [z];exact Ld b u e
  ·exact Ld c _ z
theorem Inv.tok(I:Inv X pins σ H s)(t:Nat):Inv X pins σ H {s with toks:=t}:=I.un (h':=s.heap) (t':=t) Un.refl I.aF
theorem Inv.kept(I:Inv X pins σ H s)(k:∀b u,s.heap.get? b=some u→h'.get? b=some u):Inv X pins σ H {s with heap:=h',toks:=t'}:=I.un (Un.kept k) (I.aF.kept k)
theorem Inv.laid(I:Inv X pins σ H s)(k:∀b u,s.heap.get? b=some u→h'.get? b=some u)(hp:s.heap.objs.size≤a)(new:fQ X.prog X.w (upd H a o) h' a o) :
  Inv X pins σ (upd H a o) {s with heap:=h',toks:=t'}:=I.un (Un.laid k hp (I.aF.fresh hp)) (I.aF.laid k hp new)
theorem Inv.write{x e:Addr}(I:Inv X pins σ H s)(mu:BL (H x))(he:e=x∨H e=some (.own x))(k:∀b u,b≠e→s.heap.get? b=some u→h'.get? b=some u)(uZ:∃u,h'.get? e=some u)
  (new:fQ X.prog X.w (upd H x o) h' x o):Inv X pins σ (upd H x o) {s with heap:=h',toks:=t'}:=I.un (Un.write mu he k uZ) (I.aF.write mu he k uZ new)
theorem Inv.Le{Lf:bS}(I:Inv X pins σ H s)(h:∀p∈Lf,s.heap.get? p.1=some p.2∧H p.1=none∧p.1≠X.env.locals∧p.1∉X.fs∧∀v,p.2.data≠.cell v):Inv X Lf σ H s:=
 ⟨I.ok,I.os,I.bare,I.base,I.loc,I.cell,I.free,I.iU,fun p hp=>(uJ.mp hp).elim (fun z=>I.pin p (List.mem_append_left _ z)) (h p),I.aF,I.len⟩
variable {i:Nat} {x:Str}
theorem Lg{N:List Str}(hN:N.Nodup){j:Nat}(a:N[i]?=some x)(b:N[j]?=some x):i=j:=by obtain ⟨h1,e1⟩:=aG.mp a;obtain ⟨h2,e2⟩:=aG.mp b;exact (List.getElem_inj hN).mp (e1.trans e2.symm)
variable {M:Model} {A:Around} {E:cV} {v:V} {u:Value} {Q:Unit→Shared→Prop}
theorem BO(I:Inv X pins σ H s)(hN:X.N.Nodup)(hi:X.N[i]?=some x)(hx:Loc X.env.scope x)(r:RelV v u)
  (h:∀s',Inv X pins (σ.set i (some v)) H s'→(∃a,Heap.SameBut a s.heap s'.heap∧(a=X.env.locals∨X.env.cells.lookup x=some a))→Q () s') (hf:X.fn x=true∨X.env.scope.names.lookup x=some .local:=by first | exact .inl rfl | exact .inr rfl | assumption):wpAny M A (storeName X.env x u) Q E s:=by
 obtain ⟨m,hn,hl⟩:=id I.loc;have S0:(X.env.scope.kind == .class || (X.env.scope.kind == .module && X.env.locals != X.env.globals))=false:=by rw [I.ok.kind];rfl
 have Lh:i<σ.length:=by rw [I.len];exact (aG.mp hi).1
 have qK:=I.qK;have tracked:∀{a:Addr} {h':Heap},(∃o,s.heap.get? a=some o∧H a=none)→Heap.SameBut a s.heap h'→dQ X.prog X.w H h':=fun{a h'} ha hs b ob e=>by
  obtain ⟨_,_,Li⟩:=ha;refine (I.aF b ob e).ja (fun c w' hc q=>(hs.2 c ?_).trans q) (fun _ q=>q) fun _ _ q=>q;rintro rfl;rcases hc with rfl | hc;·rw [Li] at e;cases e
  ·rw [Li] at hc;cases hc
 rcases hx with hk | hk
 ·refine wpAny_storeName_local hk hn (fun h' ph hs=>?_) S0
  obtain ⟨oL,_,_,S1,_⟩:=id hn;refine h _ ⟨I.ok,I.os,I.bare,⟨fun b o e n hb hx=>?_,fun b o e n hb hx=>?_,I.base.free,fun b o e hx=>?_,I.base.gR,I.base.gD,I.base.gS⟩,⟨_,ph,fun j y v' e1 e2 e3=>?_⟩,fun y c e=>?_,I.free,I.iU,fun p hp=>?_,tracked ⟨oL,S1,I.free⟩ hs,by simpa using I.len⟩ ⟨_,hs,.inl rfl⟩
  ·exact (hs.2 b (fG (dC (bN e) I.ok.above))).trans (I.base.keep b o e n hb hx)
  ·obtain ⟨sl,e1⟩:=I.base.slot b o e n hb hx
   exact ⟨sl,(hs.2 b (fG (dC (bN e) I.ok.above))).trans e1⟩
  ·obtain ⟨o',e1⟩:=I.base.there b o e hx
   exact ⟨o',(hs.2 b (fG (dC (bN e) I.ok.above))).trans e1⟩
  ·by_cases hj:j=i
   ·subst hj
    rw [hi] at e1;cases e1;rw [ng Lh] at e2;cases e2;exact ⟨u,r,.inl ⟨hk,by simp⟩⟩
   ·rw [nh (Ne.symm hj)] at e2
    obtain ⟨u',r',q⟩:=hl j y v' e1 e2 e3;refine ⟨u',r',?_⟩;rcases q with ⟨k,e⟩ | ⟨k,c,e,z⟩
    ·refine .inl ⟨k,?_⟩
     have:y≠x:=fun e=>hj (Lg hN e1 (e▸hi));simp [this,e]
    ·exact .inr ⟨k,c,e,z.sameBut hs (qK y c e)⟩
  ·obtain ⟨w',z⟩:=I.cell y c e
   exact ⟨w',z.sameBut hs (qK y c e)⟩
  ·obtain ⟨e,n,ne,nf,d⟩:=I.pin p hp
   exact ⟨(hs.2 p.1 ne).trans e,n,ne,nf,d⟩
 ·have FF:X.fn x=true:=by
   rcases hf with z | z;·exact z
   ·rw [z] at hk;cases hk
  obtain ⟨c,hc⟩:=I.ok.has x (.inl hk);obtain ⟨w',z⟩:=I.cell x c hc;refine wpAny_storeName_cell I.ok.kind hk hc z (fun h' e_ hs=>?_);obtain ⟨oc,Lj,S2⟩:=id z;refine h {s with heap:=h'} ⟨I.ok,I.os,I.bare,⟨fun b o e n hb hx=>?_,fun b o e n hb hx=>?_,I.base.free,fun b o e hx=>?_,I.base.gR,I.base.gD,I.base.gS⟩,⟨m,hn.sameBut hs (Ne.symm (qK x c hc)),fun j y v' e1 e2 e3=>?_⟩,fun y c' e=>?_,I.free,I.iU,fun p hp=>?_,tracked ⟨oc,Lj,I.iU x c hc⟩ hs,by simpa using I.len⟩ ⟨c,hs,.inr hc⟩
  ·exact (hs.2 b (fG (dC (bN e) (I.ok.nQ x c FF hc)))).trans (I.base.keep b o e n hb hx)
  ·obtain ⟨sl,e1⟩:=I.base.slot b o e n hb hx
   exact ⟨sl,(hs.2 b (fG (dC (bN e) (I.ok.nQ x c FF hc)))).trans e1⟩
  ·obtain ⟨o',e1⟩:=I.base.there b o e hx
   exact ⟨o',(hs.2 b (fG (dC (bN e) (I.ok.nQ x c FF hc)))).trans e1⟩
  ·by_cases hj:j=i
   ·subst hj
    rw [hi] at e1;cases e1;rw [ng Lh] at e2;cases e2;exact ⟨u,r,.inr ⟨.inl hk,c,hc,e_⟩⟩
   ·rw [nh (Ne.symm hj)] at e2
    obtain ⟨u',r',q⟩:=hl j y v' e1 e2 e3;refine ⟨u',r',?_⟩;rcases q with q | ⟨k,c',e,z'⟩;·exact .inl q
    ·refine .inr ⟨k,c',e,z'.sameBut hs ?_⟩
     rintro rfl;exact hj (Lg hN e1 (I.ok.inj _ _ _ e hc▸hi))
  ·by_cases Lk:c'=c
   ·subst Lk;exact ⟨_,e_⟩
   ·obtain ⟨w2,z2⟩:=I.cell y c' e
    exact ⟨w2,z2.sameBut hs Lk⟩
  ·obtain ⟨e,n,ne,nf,d⟩:=I.pin p hp
   refine ⟨(hs.2 p.1 ?_).trans e,n,ne,nf,d⟩;intro q;rw [q,Lj] at e;have q':oc=p.2:=Option.some.inj e;exact d w' (by rw [←q'];exact S2)
theorem zc(I:Inv X pins σ H s)(hN:X.N.Nodup)(hi:X.N[i]?=some x)(hx:Loc X.env.scope x)(r:RelV v u)
  (h:∀s',Inv X pins (σ.set i (some v)) H s'→Q () s') (hf:X.fn x=true∨X.env.scope.names.lookup x=some .local:=by first | exact .inl rfl | exact .inr rfl | assumption):wpAny M A (storeName X.env x u) Q E s:=
 BO I hN hi hx r (fun s' I' _=>h s' I') hf
theorem Inv.k7{s':Shared}(I:Inv X pins σ H s)(ho:s'.os=s.os)(u:Un (dy X.stack) ch H H' s.heap s'.heap)(aF:dQ X.prog X.w H' s'.heap)(hg:AllBare s'.gens)
  (mF:∀b∈ch,(b∈X.ex∨X.s₀.heap.objs.size≤b)∧b≠X.env.locals∧(∀x c,X.env.cells.lookup x=some c→c≠b)∧∀p∈X.pn++pins,p.1≠b):Inv X pins σ H' s':=by
 obtain ⟨h',g',d',t',o'⟩:=s';have e:o'=s.os:=ho;subst e;exact I.call (g':=g') (t':=t') (d':=d') u aF hg mF
end
abbrev XK:=Value→Option Addr→Hp→Prop
abbrev St:=List (Option V)
abbrev VK:=V→Hp→Prop
abbrev TE:=St→Hp→VK→Prop
abbrev TT:=St→Hp→(Bool→Hp→Prop)→Prop
abbrev TA:=St→Hp→(List V→Hp→Prop)→Prop
structure Ends where
 nx:St→Hp→Prop
 rt:VK
 bk:St→Hp→Prop:=fun _ _=>False
 ct:St→Hp→Prop:=fun _ _=>False
abbrev TS:=Ends→St→Hp→Prop
def EP(X:Cx)(pins:bS)(σ:St)(Q:VK)(u:Value)(s':Shared):Prop:=∃v H',Inv X pins σ H' s'∧RelV v u∧Q v H'
def TP(X:Cx)(pins:bS)(σ:St)(Q:Bool→Hp→Prop)(b:Bool)(s':Shared):Prop:=∃H',Inv X pins σ H' s'∧Q b H'
def AP(X:Cx)(pins:bS)(σ:St)(Q:List V→Hp→Prop)(us:List Value)(s':Shared):Prop:=∃vs H',Inv X pins σ H' s'∧Vals vs us∧Q vs H'
def SP(X:Cx)(pins:bS)(D:Ends)(f:Flow)(s':Shared):Prop:=
 match f with
 | .next=>∃σ' H',Inv X pins σ' H' s'∧D.nx σ' H'
 | .brk=>∃σ' H',Inv X pins σ' H' s'∧D.bk σ' H'
 | .cont=>∃σ' H',Inv X pins σ' H' s'∧D.ct σ' H'
 | .ret u=>∃v σ' H',Inv X pins σ' H' s'∧RelV v u∧D.rt v H'
def PE(X:Cx)(e:Expr)(t:TE):Prop:=
 ∀(pins:bS) (s:Shared) (σ:St) (H:Hp) (Q:VK),Inv X pins σ H s→t σ H Q→wpAny (model X.prog X.w) X.A (eval e X.env) (EP X pins σ Q) X.xe s
def PT(X:Cx)(e:Expr)(t:TT):Prop:=
 ∀(pins:bS) (s:Shared) (σ:St) (H:Hp) (Q:Bool→Hp→Prop),Inv X pins σ H s→t σ H Q→wpAny (model X.prog X.w) X.A (isTrue e X.env (eval e X.env)) (TP X pins σ Q) X.xe s
def PW(X:Cx)(e:Expr)(t:TT):Prop:=
 ∀(whole:Sem Value) (pins:bS) (s:Shared) (σ:St) (H:Hp) (Q:Bool→Hp→Prop),Inv X pins σ H s→t σ H Q→wpAny (model X.prog X.w) X.A (isTrue e X.env whole) (TP X pins σ Q) X.xe s
variable {X:Cx}
theorem PW.pt{e:Expr}{t:TT}(h:PW X e t):PT X e t:=h _
def PA(X:Cx)(es:List Expr)(t:TA):Prop:=
 ∀(pos:Pos) (pins:bS) (s:Shared) (σ:St) (H:Hp) (Q:List V→Hp→Prop),Inv X pins σ H s→t σ H Q→wpAny (model X.prog X.w) X.A (spliced (backTo pos (starEach es X.env))) (AP X pins σ Q) X.xe s
def PS(X:Cx)(st:Stmt)(t:TS):Prop:=
 ∀(pins:bS) (s:Shared) (σ:St) (H:Hp) (D:Ends),Inv X pins σ H s→t D σ H→wpAny (model X.prog X.w) X.A (exec st X.env) (SP X pins D) X.xe s
def fZ(X:Cx)(st:List Stmt)(t:TS):Prop:=
 ∀(pins:bS) (s:Shared) (σ:St) (H:Hp) (D:Ends),Inv X pins σ H s→t D σ H→wpAny (model X.prog X.w) X.A (execs st X.env) (SP X pins D) X.xe s
variable {M:Model} {A:Around} {E:cV} {s:Shared}
theorem aS{α:Type}{t:Sem α}{Q Q':α→Shared→Prop}(h:wpAny M A t Q E s)(hQ:∀a s,Q a s→Q' a s):wpAny M A t Q' E s:=cf h hQ fun _ _ x=>x
section
variable {X:Cx}
variable {pins:bS} {σ:St}
theorem bin{a b:Expr}{ta tb:TE}(ha:PE X a ta)(hb:PE X b tb){R:V→V→Hp→Prop}(I:Inv X pins σ H s)(h:ta σ H fun x H1=>tb σ H1 fun y H2=>R x y H2)
  {α:Type} {Q:α→Shared→Prop} {f:Value→Value→Sem α}
  (hf:∀v u s2 x y H2,Inv X pins σ H2 s2→RelV x v→RelV y u→R x y H2→wpAny (model X.prog X.w) X.A (f v u) Q X.xe s2) :
  wpAny (model X.prog X.w) X.A (eval a X.env) (fun v s₁=>wpAny (model X.prog X.w) X.A (eval b X.env) (fun u s₂=>wpAny (model X.prog X.w) X.A (f v u) Q X.xe s₂) X.xe s₁) X.xe s:=by
 refine aS (ha pins s σ H _ I h) fun v s1 ⟨x,H1,I1,r1,q1⟩=>?_;refine aS (hb pins s1 σ H1 _ I1 q1) fun u s2 ⟨y,H2,I2,r2,q2⟩=>?_;exact hf v u s2 x y H2 I2 r1 r2 q2
def pj(i:Nat):TE:=fun σ H Q=>∃v,σ[i]?=some (some v)∧Q v H
def tC(v:V):TE:=fun _ H Q=>Q v H
variable {x:Str} {pos:Pos}
theorem S3{i:Nat}(hN:X.N[i]?=some x)(hv:nP X.env.scope x)(hd:(x == ("__debug__":Str))=false:=by decide)(gF:(x == ("__classdict__":Str))=false:=by decide):PE X (.Name x pos) (pj i):=by
 intro pins s σ H Q I h;obtain ⟨v,e,h⟩:=h;obtain ⟨m,hn,hl⟩:=I.loc;obtain ⟨u,r,l⟩:=hl i x v hN e hv;have fin:EP X pins σ Q u s:=⟨v,H,I,r,h⟩;rcases l with ⟨hk,hm⟩ | ⟨hk,c,hc,BP⟩;·exact wpAny_Name (wpAny_loadName_local I.ok.kind hk hn hm fin) hd
 ·rcases hk with hk | hk
  ·exact wpAny_Name (wpAny_loadName_cell I.ok.kind hk hc BP fin) hd
  ·exact wpAny_Name (wpAny_loadName_free I.ok.kind hk hc BP fin gF) hd
theorem ao{i j pos}:PE X (.Constant (.int i) j pos) (tC (.int i)):=fun _ _ _ H _ I h=>wpAny_Constant_int ⟨.int i,H,I.tok _,⟨_,rfl⟩,h⟩
theorem mG{b j pos}:PE X (.Constant (.bool b) j pos) (tC (.bl b)):=fun _ _ _ H _ I h=>Constant_bool ⟨.bl b,H,I,rfl,h⟩
theorem mH{j pos}:PE X (.Constant .none j pos) (tC .aV):=fun _ _ _ H _ I h=>Constant_none ⟨.aV,H,I,rfl,h⟩
theorem jJ{x j pos}:PE X (.Constant (.str x) j pos) (tC (.str x)):=fun _ _ _ H _ I h=>Calls.Constant_str ⟨.str x,H,I.tok _,⟨_,rfl⟩,h⟩
def Gl(X:Cx)(x:Str):Prop:=X.env.kindOf x=some .globalImplicit
variable {u:Value} {Q:cV}
theorem BQ(I:Inv X pins σ H s)(hg:Gl X x)(hm:X.mg x=some u)(h:Q u s)
  (hd:(x == ("__debug__":Str))=false:=by decide):wpAny (model X.prog X.w) X.A (eval (.Name x pos) X.env) Q E s:=
 Calls.Name_function_global I.ok.kind hg (Calls.loadGlobal_global (by rw [I.ok.glob];exact I.mod.glob.keeps I.bk) hm h) hd
theorem u4(I:Inv X pins σ H s)(hg:Gl X x)(hm:X.mg x=none)(hv:bootBuiltins x=some u)(h:Q u s)
  (hn:x ≠ "__name__":=by decide) (hd:(x == ("__debug__":Str))=false:=by decide):wpAny (model X.prog X.w) X.A (eval (.Name x pos) X.env) Q E s:=by
 obtain ⟨mb,h1,h2⟩:=I.mod.blt;exact Calls.Name_function_global I.ok.kind hg (Calls.loadGlobal_builtin (by rw [I.ok.glob];exact I.mod.glob.keeps I.bk) hm (by rw [I.ok.blt];exact h1.keeps I.bk) ((h2 x hn).trans hv) h) hd
variable {v:V}
theorem BR(hg:Gl X x)(hm:X.mg x=some u)(r:RelV v u)(hd:(x == ("__debug__":Str))=false:=by decide):PE X (.Name x pos) (tC v):=
 fun _ _ _ H _ I h=>BQ I hg hm ⟨v,H,I,r,h⟩ hd
theorem u5(hg:Gl X x)(hm:X.mg x=none)(hv:bootBuiltins x=some u)(r:RelV v u)(hn:x ≠ "__name__":=by decide)(hd:(x == ("__debug__":Str))=false:=by decide):PE X (.Name x pos) (tC v):=
 fun _ _ _ H _ I h=>u4 I hg hm hv ⟨v,H,I,r,h⟩ hn hd
variable {a b:Expr} {ta tb:TE} {pos:Pos}
def PC(X:Cx)(op:CmpOp)(a b:Expr)(t:TE):Prop:=
 ∀(pins:bS) (s:Shared) (σ:St) (H:Hp) (Q:VK),Inv X pins σ H s→t σ H Q→
  wpAny (model X.prog X.w) X.A (eval a X.env) (fun v s₁=>wpAny (model X.prog X.w) X.A (eval b X.env) (fun u s₂=>wpAny (model X.prog X.w) X.A (compareOp op v u) (EP X pins σ Q) X.xe s₂) X.xe s₁) X.xe s
def tB(t:TE):TT:=fun σ H Q=>t σ H fun x H1=>∃c,x=.bl c∧Q c H1
variable {t:TE}
theorem aff{op:CmpOp}(h:PC X op a b t)(h1:behindInMarks op b=false:=by first | exact aiB _ (by decide) (by decide) | rfl):PT X (.Compare a [op] [b] pos) (tB t):=by intro pins s σ H Q I hw;refine wpAny_isTrue_Compare1 (aS (h pins s σ H _ I hw) fun v s1 h1=>aS h1 fun u s2 h2=>aS h2 fun c s3 ⟨x,H1,I1,r1,q1⟩=>?_) h1;obtain ⟨d,rfl,q⟩:=q1;cases r1;exact mf ⟨H1,I1,q⟩
theorem jb{e:Expr}(h:PE X e t)(he:∀whole,isTrue e X.env whole=(do let v ←whole;standAt e.pos;holding [v] (truthy v)):=by intro _;rfl):PT X e (tB t):=by
 intro pins s σ H Q I hw
 refine isTrue_plain (aS (h pins s σ H _ I hw) fun v s1 ⟨x,H1,I1,r1,q1⟩=>?_) (he _)
 obtain ⟨d,rfl,q⟩:=q1
 cases r1
 exact mf ⟨H1,I1,q⟩
variable {tA Ll:TT} {rest:List Expr}
def Lo(t u:TT):TT:=fun σ H Q=>t σ H fun c H1=>if c=true then Q true H1 else u σ H1 Q
def S4(t:TT):TT:=fun σ H Q=>t σ H fun c H1=>Q (!c) H1
theorem pw_or1(ha:PT X a tA):PW X (.BoolOp .Or [a] pos) tA:=by
 intro wh pins s σ H Q I h;refine isTrue_or (aS (ha pins s σ H Q I h) fun c s1 e=>?_);cases c with
 | false=>exact isTrue_or_nil e
 | true=>exact e
theorem pw_or(ha:PT X a tA)(hb:PW X (.BoolOp .Or (b::rest) pos) Ll):PW X (.BoolOp .Or (a::b::rest) pos) (Lo tA Ll):=by
 intro wh pins s σ H Q I h;refine isTrue_or (aS (ha pins s σ H _ I h) fun c s1 ⟨H1,I1,q1⟩=>?_);cases c with
 | true=>exact ⟨H1,I1,q1⟩
 | false=>exact hb wh pins s1 σ H1 Q I1 q1
theorem mI(ha:PT X a tA):PT X (.UnaryOp .Not a pos) (S4 tA):=by intro pins s σ H Q I h;exact isTrue_not (ha pins s σ H (fun c H1=>Q (!c) H1) I h)
def S5(ta tb:TE):TE:=fun σ H Q=>ta σ H fun x H1=>∃c,x=.bl c∧if c=true then tb σ H1 Q else Q (.bl false) H1
def S6(ta tb:TE):TE:=fun σ H Q=>ta σ H fun x H1=>∃c,x=.bl c∧if c=true then Q (.bl true) H1 else tb σ H1 Q
def S7(ta:TE):TE:=fun σ H Q=>ta σ H fun x H1=>∃c,x=.bl c∧Q (.bl (!c)) H1
theorem mJ{op}(h:PE X a t):PE X (.BoolOp op [a] pos) t:=fun pins s σ H Q I hw=>BoolOp_one (h pins s σ H Q I hw)
theorem ky(ha:PE X a ta)(hb:PE X (.BoolOp .And (b::rest) pos) tb):PE X (.BoolOp .And (a::b::rest) pos) (S5 ta tb):=by
 intro pins s σ H Q I h;refine BoolOp_and (aS (ha pins s σ H _ I h) fun v s1 ⟨x,H1,I1,r1,q1⟩=>?_);obtain ⟨c,rfl,q1⟩:=q1;cases r1;refine mf ?_;cases c with
 | true=>exact hb pins s1 σ H1 Q I1 q1
 | false=>exact ⟨.bl false,H1,I1,rfl,q1⟩
theorem S8(ha:PE X a ta)(hb:PE X (.BoolOp .Or (b::rest) pos) tb):PE X (.BoolOp .Or (a::b::rest) pos) (S6 ta tb):=by
 intro pins s σ H Q I h;refine BoolOp_or (aS (ha pins s σ H _ I h) fun v s1 ⟨x,H1,I1,r1,q1⟩=>?_);obtain ⟨c,rfl,q1⟩:=q1;cases r1;refine mf ?_;cases c with
 | false=>exact hb pins s1 σ H1 Q I1 q1
 | true=>exact ⟨.bl true,H1,I1,rfl,q1⟩
theorem Lp(ha:PE X a ta):PE X (.UnaryOp .Not a pos) (S7 ta):=by intro pins s σ H Q I h;refine UnaryOp_ (aS (ha pins s σ H _ I h) fun v s1 ⟨x,H1,I1,r1,q1⟩=>?_);obtain ⟨c,rfl,q1⟩:=q1;cases r1;exact not_of (mf ⟨.bl (!c),H1,I1,rfl,q1⟩)
def FG(t:TT)(ta tb:TE):TE:=fun σ H Q=>t σ H fun c H1=>if c=true then ta σ H1 Q else tb σ H1 Q
theorem FH{c:Expr}(hc:PT X c tA)(ha:PE X a ta)(hb:PE X b tb):PE X (.IfExp c a b pos) (FG tA ta tb):=by
 intro pins s σ H Q I h;refine wpAny_IfExp (aS (hc pins s σ H _ I h) fun d s1 ⟨H1,I1,q1⟩=>?_);cases d with
 | true=>exact ha pins s1 σ H1 Q I1 q1
 | false=>exact hb pins s1 σ H1 Q I1 q1
end
def cu(K:aL)(H:Hp)(a:Addr)(xs:List V):Prop:=
 Rd H a (.lst xs) ∨
  ∃(o:Obj) (au:Array Value) (n:Nat),K.lookup a=some o∧o.cls=.type "list"∧o.dict=none∧o.data=.seq au n∧au.size≤sizeLine∧Vals xs au.toList
def jc(K:aL)(H:Hp)(a:Addr)(xs:List V):Prop:=
 Rd H a (.tup xs) ∨
  ∃(o:Obj) (au:Array Value) (n:Nat),K.lookup a=some o∧o.cls=.type "tuple"∧o.data=.seq au n∧au.size≤sizeLine∧Vals xs au.toList
def S9:Value→Option V
 | .none=>some .aV
 | .bool b=>some (.bl b)
 | .int i _=>some (.int i)
 | .str x _=>some (.str x)
 | .bytes b _=>some (.i_ b)
 | .float b _=>some (.qI b)
 | .ref a=>some (.ref a)
 | .type n=>some (.ty n)
 | _=>none
variable {x:V} {u:Value}
theorem RelV.abs(r:RelV x u):S9 u=some x:=by
 cases x with
 | aV=>cases r;rfl
 | bl _=>cases r;rfl
 | int _=>obtain ⟨t,rfl⟩:=r;rfl
 | str _=>obtain ⟨t,rfl⟩:=r;rfl
 | i_ _=>obtain ⟨t,rfl⟩:=r;rfl
 | qI _=>obtain ⟨t,rfl⟩:=r;rfl
 | ref _=>cases r;rfl
 | ty _=>cases r;rfl
theorem RelV.inj{y:V}(r:RelV x u)(q:RelV y u):x=y:=Option.some.inj (r.abs.symm.trans q.abs)
theorem Vals.inj:∀{xs ys:List V} {us:List Value},Vals xs us→Vals ys us→xs=ys
 | _,_,_,.nil,.nil=>rfl
 | _,_,_,.cons r t,.cons r' t'=>by rw [r.inj r',Vals.inj t t']
section
variable {X:Cx} {pins:bS} {σ:St} {H:Hp} {s:Shared} {a:Addr} {xs ys:List V}
variable {K:aL}
theorem cu.of(h:H a=some (.lst xs)):cu K H a xs:=.inl (.inl h)
theorem jc.of(h:H a=some (.tup xs)):jc K H a xs:=.inl (.inl h)
theorem Inv.list(I:Inv X pins σ H s)(h:cu X.K H a xs):∃au:List Value,Vals xs au∧PlainL s.heap a au.toArray∧xs.length≤sizeLine:=by
 rcases h with h | ⟨o,au,n,hk,hc,hd,hs,hz,r⟩
 ·obtain ⟨z,au,n,r,e⟩:=h.ok I.aF
  exact ⟨au,r,⟨_,n,e,rfl,rfl,rfl⟩,z⟩
 ·refine ⟨au.toList,r,⟨o,n,I.e9 a o hk,hc,hd,by simpa using hs⟩,?_⟩
  have e:=r.length;simp only [Array.length_toList] at e;lia
theorem Inv.tuple(I:Inv X pins σ H s)(h:jc X.K H a xs):∃au:List Value,Vals xs au∧IsTup s.heap a au.toArray∧xs.length≤sizeLine:=by
 rcases h with h | ⟨o,au,n,hk,hc,hs,hz,r⟩
 ·obtain ⟨z,au,r,p⟩:=h.ok I.aF
  exact ⟨au,r,p,z⟩
 ·refine ⟨au.toList,r,⟨o,I.e9 a o hk,hc,n,by simpa using hs⟩,?_⟩
  have e:=r.length;simp only [Array.length_toList] at e;lia
theorem Inv.FI(I:Inv X pins σ H s)(h:cu X.K H a xs)(h':cu X.K H a ys):xs=ys:=by
 obtain ⟨au,r,⟨o,n,e,_,_,d⟩,_⟩:=I.list h;obtain ⟨its',r',⟨o',n',e',_,_,d'⟩,_⟩:=I.list h';rw [e] at e';cases e';rw [d] at d';injection d' with d1 _;have:au=its':=by simpa using fK Array.toList d1
 subst this;exact r.inj r'
end
abbrev Cx.mK (X:Cx) (E:cV):Cx:={X with xe:=E}
abbrev Cx.pk (X:Cx):Cx:=X.mK fun _ _=>False
theorem Cx.Ok.mK(ok:X.Ok)(E:cV):(X.mK E).Ok:=
 ⟨ok.mod,ok.kind,ok.glob,ok.blt,ok.above,ok.inj,ok.has,ok.nQ,ok.hd,ok.frames,ok.jI,ok.Lb,ok.bs,ok.gE,ok.mC,ok.mE,ok.kx,ok.nR⟩
theorem Cx.Ok.pz(ok:(X.mK E).Ok):X.Ok:=
 ⟨ok.mod,ok.kind,ok.glob,ok.blt,ok.above,ok.inj,ok.has,ok.nQ,ok.hd,ok.frames,ok.jI,ok.Lb,ok.bs,ok.gE,ok.mC,ok.mE,ok.kx,ok.nR⟩
section
variable {X:Cx} {pins:bS} {σ:St} {H:Hp} {s:Shared} {E:cV}
theorem Inv.mK(I:Inv X pins σ H s)(E:cV):Inv (X.mK E) pins σ H s:=⟨I.ok.mK E,I.os,I.bare,I.base,I.loc,I.cell,I.free,I.iU,I.pin,I.aF,I.len⟩
theorem Inv.pz(I:Inv (X.mK E) pins σ H s):Inv X pins σ H s:=⟨I.ok.pz,I.os,I.bare,I.base,I.loc,I.cell,I.free,I.iU,I.pin,I.aF,I.len⟩
theorem SP.pz{D:Ends}{f:Flow}{s':Shared}(h:SP (X.mK E) pins D f s'):SP X pins D f s':=by
 cases f with
 | next=>obtain ⟨σ',H',I,q⟩:=h;exact ⟨σ',H',I.pz,q⟩
 | brk=>obtain ⟨σ',H',I,q⟩:=h;exact ⟨σ',H',I.pz,q⟩
 | cont=>obtain ⟨σ',H',I,q⟩:=h;exact ⟨σ',H',I.pz,q⟩
 | ret u=>obtain ⟨v,σ',H',I,r,q⟩:=h;exact ⟨v,σ',H',I.pz,r,q⟩
theorem fZ.pk{st:List Stmt}{t:TS}(h:fZ X.pk st t):fZ X st t:=fun pins s σ H D I hw=>cf (h pins s σ H D (I.mK _) hw) (fun _ _ q=>q.pz) fun _ _ z=>False.elim z
end
section
variable {X:Cx} {st:Stmt} {rest:List Stmt} {t u:TS} {e:Expr} {te:TE} {pos:Pos}
def iE:TS:=fun D σ H=>D.nx σ H
def FJ(t u:TS):TS:=fun D σ H=>t {D with nx:=u D} σ H
theorem cN:fZ X [] iE:=fun _ _ σ H _ I h=>Bj ⟨σ,H,I,h⟩
theorem aq(h1:PS X st t)(h2:fZ X rest u):fZ X (st::rest) (FJ t u):=by
 intro pins s σ H D I h;refine wpAny_execs_cons (aS (h1 pins s σ H {D with nx:=u D} I h) fun f s1 q=>?_);cases f with
 | next=>obtain ⟨σ',H',I',q⟩:=q;exact h2 pins s1 σ' H' D I' q
 | ret v=>exact q
 | brk=>exact q
 | cont=>exact q
theorem aw(h1:PS X st t):fZ X [st] t:=by
 intro pins s σ H D I h;refine wpAny_execs_cons (aS (h1 pins s σ H D I h) fun f s1 q=>?_);cases f with
 | next=>exact Bj q
 | ret v=>exact q
 | brk=>exact q
 | cont=>exact q
theorem Inv.quiet{pins:bS}{σ:St}(I:Inv X pins σ H s):interactive X.env=false:=by simp [interactive,I.ok.kind]
def Lq(te:TE):TS:=fun D σ H=>te σ H fun _ H1=>D.nx σ H1
theorem pA(he:PE X e te)(hs:swapsWith e none pos.line X.env=pure false:=by rfl):PS X (.Expr e pos) (Lq te):=by intro pins s σ H D I h;exact wpAny_Expr_any (aS (he pins s σ H _ I h) fun v s1 ⟨x,H1,I1,r1,q1⟩=>⟨σ,H1,I1,q1⟩) I.quiet hs
def Lr(te:TE):TS:=fun D σ H=>te σ H D.rt
theorem aN(he:PE X e te):PS X (.Return (some e) pos) (Lr te):=by intro pins s σ H D I h;exact wpAny_Return_some (aS (he pins s σ H _ I h) fun v s1 ⟨x,H1,I1,r1,q1⟩=>⟨x,σ,H1,I1,r1,q1⟩)
def u6(c:TT)(t u:TS):TS:=fun D σ H=>c σ H fun b H1=>if b=true then t D σ H1 else u D σ H1
theorem cH{c:Expr}{a b:List Stmt}{tc:TT}(hc:PT X c tc)(ha:fZ X a t)(hb:fZ X b u):PS X (.If c a b pos) (u6 tc t u):=by
 intro pins s σ H D I h;refine wpAny_If (aS (hc pins s σ H _ I h) fun d s1 ⟨H1,I1,q1⟩=>?_);cases d with
 | true=>exact ha pins s1 σ H1 D I1 q1
 | false=>exact hb pins s1 σ H1 D I1 q1
def S_:TS:=fun _ _ _=>False
theorem Ta{Tb:List Stmt}:fZ X Tb S_:=fun _ _ _ _ _ _ h=>h.elim
end
abbrev TG:=V→St→Hp→(St→Hp→Prop)→Prop
abbrev qM:=List V→St→Hp→(St→Hp→Prop)→Prop
def PG(X:Cx)(target:Expr)(t:TG):Prop:=
 ∀(pins:bS) (s:Shared) (σ:St) (H:Hp) (v:V) (u:Value) (Q:St→Hp→Prop),Inv X pins σ H s→RelV v u→t v σ H Q→
  wpAny (model X.prog X.w) X.A (assign target X.env u) (fun _ s'=>∃σ' H',Inv X pins σ' H' s'∧Q σ' H') X.xe s
def BS(X:Cx)(ts:List Expr)(t:qM):Prop:=
 ∀(pins:bS) (s:Shared) (σ:St) (H:Hp) (vs:List V) (us:List Value) (Q:St→Hp→Prop),Inv X pins σ H s→Vals vs us→t vs σ H Q→
  wpAny (model X.prog X.w) X.A (assignInOrder ((assignEach ts X.env).map (·.2)) us) (fun _ s'=>∃σ' H',Inv X pins σ' H' s'∧Q σ' H') X.xe s
abbrev FK:=V→V→V→Hp→(Hp→Prop)→Prop
def Ls(X:Cx)(t:FK):Prop:=
 ∀(pins:bS) (s:Shared) (σ:St) (H:Hp) (o i v:V) (ov iv u:Value) (Q:Hp→Prop),Inv X pins σ H s→RelV o ov→RelV i iv→RelV v u→t o i v H Q→
  wpAny (model X.prog X.w) X.A (setItem ov iv u) (fun _ s'=>∃H',Inv X pins σ H' s'∧Q H') X.xe s
abbrev BU:=V→V→Hp→VK→Prop
def Lu(X:Cx)(op:Operator)(t:BU):Prop:=
 ∀(pins:bS) (s:Shared) (σ:St) (H:Hp) (x y:V) (v u:Value) (Q:VK),Inv X pins σ H s→RelV x v→RelV y u→t x y H Q→
  wpAny (model X.prog X.w) X.A (inplaceOp op v u) (EP X pins σ Q) X.xe s
section
variable {X:Cx} {pos:Pos}
def aO(i:Nat):TG:=fun v σ H Q=>Q (σ.set i (some v)) H
variable {i:Nat}
theorem d9{x:Str}(hN:X.N.Nodup)(hi:X.N[i]?=some x)(hx:Loc X.env.scope x)(hf:X.fn x=true∨X.env.scope.names.lookup x=some .local:=by first | exact .inl rfl | exact .inr rfl | assumption):PG X (.Name x pos) (aO i):=by intro pins s σ H v u Q I r h;exact Bk (zc I hN hi hx r (fun s' I'=>⟨_,H,I',h⟩) hf)
def FL:qM:=fun vs σ H Q=>vs=[]∧Q σ H
def zd(t:TG)(u:qM):qM:=fun vs σ H Q=>∃v r,vs=v::r∧t v σ H fun σ' H'=>u r σ' H' Q
theorem BV:BS X [] FL:=by intro pins s σ H vs us Q I r h;obtain ⟨e,h⟩:=h;subst e;cases r;exact assignInOrder_nil ⟨σ,H,I,h⟩
variable {es:List Expr}
theorem k8{e:Expr}{t:TG}{u:qM}(h1:PG X e t)(h2:BS X es u)
  (hs:(assignEach (e::es) X.env).map (·.2)=assign e X.env::(assignEach es X.env).map (·.2):=by rfl):BS X (e::es) (zd t u):=by
 intro pins s σ H vs us Q I r h;obtain ⟨v,vr,e1,h⟩:=h;subst e1;cases r with
 | cons r rr=>rw [hs];refine assignInOrder_cons (aS (h1 pins s σ H _ _ _ I r h) fun _ s1 ⟨σ1,H1,I1,q1⟩=>?_);exact h2 pins s1 σ1 H1 _ _ Q I1 rr q1
def FN(K:aL)(n:Nat)(t:qM):TG:=fun v σ H Q=>∃a xs,v=.ref a∧jc K H a xs∧xs.length=n∧t xs σ H Q
theorem BW{k:Nat}{t:qM}{n:Nat}(hc:X.calm=true)(h:BS X es t)
  (hn:(assignEach es X.env).length=n:=by rfl) (FO:(assignEach es X.env).findIdx? (·.1)=none:=by rfl):PG X (.Tuple es k pos) (FN X.K n t):=by
 intro pins s σ H v u Q I r hw;obtain ⟨a,xs,e1,hq,hl,hw⟩:=hw;subst e1;cases r;obtain ⟨au,rv,ht,hz⟩:=I.tuple hq;refine assign_Tuple_tuple (I.ok.hd hc) ht (by simp [hn,←hl,rv.length]) FO fun h' hx=>?_
 have I1:Inv X pins σ H {s with heap:=h'}:=I.kept (t':=s.toks) fun b o e=>hx b o (fG (bN e)) e;exact h pins _ σ H xs _ Q I1 (by simpa using rv) hw
def Tc(to ti:TE)(t:FK):TG:=fun v σ H Q=>to σ H fun o H1=>ti σ H1 fun i H2=>t o i v H2 fun H3=>Q σ H3
theorem mL{o i:Expr}{to ti:TE}{t:FK}(ho:PE X o to)(hi:PE X i ti)(hs:Ls X t)
  (ha:∀v,assign (.Subscript o i pos) X.env v=(do
   let ov ←holding [v] (eval o X.env)
   let iv ←holding [v,ov] (eval i X.env)
   standAt pos
   holding [v,ov,iv] (setItem ov iv v)
   release [v,ov,iv] []):=by intro _;rfl):PG X (.Subscript o i pos) (Tc to ti t):=by
 intro pins s σ H v u Q I r h
 rw [ha]
 refine cS (wpAny_holding (aS (ho pins s σ H _ I h) fun ov s1 ⟨x,H1,I1,r1,q1⟩=>?_))
 refine cS (wpAny_holding (aS (hi pins s1 σ H1 _ I1 q1) fun iv s2 ⟨y,H2,I2,r2,q2⟩=>?_))
 refine cS (uK (cS (wpAny_holding (aS (hs pins s2 σ H2 x y v ov iv u _ I2 r1 r2 r q2) fun _ s3 ⟨H3,I3,q3⟩=>?_))))
 exact wpAny_release ⟨σ,H3,I3,q3⟩
def mM(te:TE)(g:TG):TS:=fun D σ H=>te σ H fun x H1=>g x σ H1 D.nx
theorem k9{tg e:Expr}{te:TE}{g:TG}(he:PE X e te)(hg:PG X tg g)(hs:swapsWithSole [tg] e pos.line X.env=pure false:=by rfl)(hw:swappedStores [tg] e X.env=pure none:=by rfl)
  (h1:(assignEach [tg] X.env).map (·.2)=[assign tg X.env]:=by rfl):PS X (.Assign [tg] e pos) (mM te g):=by
 intro pins s σ H D I h;refine wpAny_Assign_stores (aS (he pins s σ H _ I h) fun v s1 ⟨x,H1,I1,r1,q1⟩=>?_) hs hw;rw [h1];exact aS (hg pins s1 σ H1 x v _ I1 r1 q1) fun _ s2 q=>q
variable {te:TE} {pos':Pos}
theorem Te{x:Str}{e:Expr}(hN:X.N.Nodup)(hi:X.N[i]?=some x)(hx:Loc X.env.scope x)(he:PE X e te)(hs:swapsWith e (some (.Name x pos')) pos.line X.env=pure false:=by rfl)(hf:X.fn x=true∨X.env.scope.names.lookup x=some .local:=by first | exact .inl rfl | exact .inr rfl | assumption) :
  PS X (.Assign [.Name x pos'] e pos) (mM te (aO i)):=by
 intro pins s σ H D I h;refine wpAny_Assign_Name (aS (he pins s σ H _ I h) fun v s1 ⟨y,H1,I1,r1,q1⟩=>?_) hs;exact zc I1 hN hi hx r1 (fun s2 I2=>⟨_,H1,I2,q1⟩) hf
def Tf(i j:Nat)(ta:TA):TS:=fun D σ H=>ta σ H fun vs H1=>∃v w,vs=[v,w]∧D.nx ((σ.set i (some v)).set j (some w)) H1
theorem Tg{j:Nat}{x y:Str}{a b:Expr}{ta:TA}{px py pt:Pos}{kt k2 FP}(hc:X.calm=true)(hN:X.N.Nodup)(hi:X.N[i]?=some x)(hj:X.N[j]?=some y)(FQ:i≠j)
  (hx:X.env.scope.names.lookup x=some .local) (hy:X.env.scope.names.lookup y=some .local) (ha:PA X [a,b] ta)
  (hw:swappedStores [.Tuple [.Name x px,.Name y py] kt pt] (.Tuple [a,b] k2 FP) X.env=pure (some [x,y]))
  (hs:swapsWithSole [.Tuple [.Name x px,.Name y py] kt pt] (.Tuple [a,b] k2 FP) pos.line X.env=pure false:=by rfl) :
  PS X (.Assign [.Tuple [.Name x px,.Name y py] kt pt] (.Tuple [a,b] k2 FP) pos) (Tf i j ta):=by
 intro pins s σ H D I h
 rw [exec_Assign_arm]
 refine cS (uK ?_)
 rw [hs]
 refine cS (e8 ?_)
 rw [aj (by decide)]
 refine cS (Tuple_ (aS (ha _ pins s σ H _ I h) fun us s1 ⟨vs,H1,I1,r1,q1⟩=>?_))
 obtain ⟨v,w,e1,q1⟩:=q1
 subst e1
 obtain ⟨u1,u2,rfl,rv,ze⟩:∃u1 u2,us=[u1,u2]∧RelV v u1∧RelV w u2:=by
  cases r1 with
  | cons p q=>
   cases q with
   | cons p' q'=>
    cases q'
    exact ⟨_,_,rfl,p,p'⟩
 refine qw ?_ (by show 2≤sizeLine;decide)
 have I2:Inv X pins σ H1 {s1 with heap:=s1.heap.push {cls:=.type "tuple",data:=.seq [u1,u2].toArray}}:=I1.kept (t':=s1.toks) fun b o e=>df _ e
 rw [hw]
 refine cS (e8 ?_)
 show wpAny (model X.prog X.w) X.A (do rule "assign.swapped-stores";let items ←unpackItems (.ref s1.heap.objs.size) 2 none;assignInOrder [fun v=>bindName X.env y v,fun v=>bindName X.env x v] items.reverse;pure Flow.next) _ _ _
 refine cS (wpAny_rule (cS (unpackItems_tuple (items:=#[u1,u2]) (I.ok.hd hc) (IsTup.new s1.heap _) fun h' FR=>?_)))
 have I3:=I2.kept (h':=h') (t':=s1.toks) fun b o e=>FR b o (fG (bN e)) e
 show wpAny _ _ (assignInOrder [fun v=>bindName X.env y v,fun v=>bindName X.env x v] [u2,u1] >>= fun _=>pure Flow.next) _ _ _
 refine cS (assignInOrder_cons (wpAny_bindName (zc I3 hN hj (.inl hy) ze (fun s2 I4=>?_) (.inr hy))))
 refine assignInOrder_cons (wpAny_bindName (zc I4 hN hi (.inl hx) rv (fun s3 I5=>assignInOrder_nil (e8 ?_)) (.inr hx)))
 rw [List.set_comm _ _ (Ne.symm FQ)] at I5
 exact ⟨_,H1,I5,q1⟩
def Th(i:Nat)(te:TE)(ti:BU):TS:=fun D σ H=>∃x,σ[i]?=some (some x)∧te σ H fun y H1=>ti x y H1 fun z H2=>D.nx (σ.set i (some z)) H2
theorem Ti{x:Str}{e:Expr}{op:Operator}{ti:BU}(hN:X.N.Nodup)(hi:X.N[i]?=some x)(hx:Loc X.env.scope x)(he:PE X e te)(ho:Lu X op ti)(hf:X.fn x=true∨X.env.scope.names.lookup x=some .local:=by first | exact .inl rfl | exact .inr rfl | assumption) :
  PS X (.AugAssign (.Name x pos') op e pos) (Th i te ti):=by
 intro pins s σ H D I h;obtain ⟨v,e1,h⟩:=h;obtain ⟨m,hn,hl⟩:=I.loc;have Tj:nP X.env.scope x:=by rcases hx with k | k;exact .inl k;exact .inr (.inl k)
 obtain ⟨u,r,l⟩:=hl i x v hi e1 Tj;refine wpAny_AugAssign_Name ?_;have go:wpAny (model X.prog X.w) X.A (eval e X.env) (fun w s₂=>wpAny (model X.prog X.w) X.A (inplaceOp op u w) (fun r s₃=>wpAny (model X.prog X.w) X.A (storeName X.env x r) (fun _=>SP X pins D .next) X.xe s₃) X.xe s₂) X.xe s:=by refine aS (he pins s σ H _ I h) fun w s1 ⟨y,H1,I1,r1,q1⟩=>?_;refine aS (ho pins s1 σ H1 v y u w _ I1 r r1 q1) fun z s2 ⟨zv,H2,I2,r2,q2⟩=>?_;exact zc I2 hN hi hx r2 (fun s3 I3=>⟨_,H2,I3,q2⟩) hf
 rcases l with ⟨hk,hm⟩ | ⟨hk,c,hc,BP⟩;·exact wpAny_loadName_local I.ok.kind hk hn hm go
 ·rcases hk with hk | hk
  ·exact wpAny_loadName_cell I.ok.kind hk hc BP go
  ·rcases hx with k | k
   ·have:X.env.scope.names.lookup x=some .free:=hk
    rw [k] at this;cases this
   ·have:X.env.scope.names.lookup x=some .free:=hk
    rw [k] at this;cases this
def Tn(f:Int→Int→Int):BU:=fun x y H Q=>∃i j,x=.int i∧y=.int j∧Q (.int (f i j)) H
theorem To:Lu X .Add (Tn fun i j=>i+j):=by intro pins s σ H x y v u Q I r1 r2 h;obtain ⟨i,j,e1,e2,q⟩:=h;subst e1;subst e2;obtain ⟨t,rfl⟩:=r1;obtain ⟨t',rfl⟩:=r2;exact iadd_int ⟨.int _,H,I.tok _,⟨_,rfl⟩,q⟩
end
section
variable {X:Cx} {pos:Pos}
def Tp(c:TT)(tb:TS):TS:=fun D σ H=>∃W:Nat→St→Hp→Prop,(∃m,W m σ H)∧∀m σ H,W m σ H→
 c σ H fun b H1=>if b=true then ∃N:St→Hp→Prop,(∀σ' H',N σ' H'→∃m',m'<m∧W m' σ' H')∧tb {D with nx:=N,ct:=N,bk:=D.nx} σ H1 else D.nx σ H1
theorem zf{c:Expr}{body:List Stmt}{tc:TT}{tb:TS}(hp:PassesOwn (model X.prog X.w) X.A X.env X.xe)(hc:PT X c tc)(hb:fZ X body tb):PS X (.While c body [] pos) (Tp tc tb):=by
 intro pins s σ H D I h;obtain ⟨W,⟨m0,w0⟩,turn⟩:=h;refine wpAny_While (codeAny_whileLoop (fun n s'=>∃σ' H',Inv X pins σ' H' s'∧W n σ' H') ?_ m0 ⟨σ,H,I,w0⟩);rintro n s1 ⟨σ1,H1,I1,w1⟩;refine qx hp (aS (hc pins s1 σ1 H1 _ I1 (turn n σ1 H1 w1)) fun b s2 ⟨H2,I2,q2⟩=>?_);cases b with
 | true=>
  obtain ⟨N,hN,q2⟩:=q2;rw [ak rfl];refine qx hp (aS (hb pins s2 σ1 H2 _ I2 q2) fun f s3 q3=>?_);cases f with
  | next=>obtain ⟨σ3,H3,I3,n3⟩:=q3;obtain ⟨m',hm,w3⟩:=hN σ3 H3 n3;exact ⟨m',hm,σ3,H3,I3,w3⟩
  | cont=>obtain ⟨σ3,H3,I3,n3⟩:=q3;obtain ⟨m',hm,w3⟩:=hN σ3 H3 n3;exact ⟨m',hm,σ3,H3,I3,w3⟩
  | brk=>exact q3
  | ret v=>exact q3
 | false=>rw [aj dW];exact Bj ⟨σ1,H2,I2,q2⟩
end
structure It where
 go:Nat→Hp→Prop
 f9:Nat→Hp→V→Hp→Prop
 stop:Nat→Hp→Prop
def kz(X:Cx)(pins:bS)(H:Hp)(b:Addr):Prop:=
 H b=none∧b≠X.env.locals∧b∉X.fs∧(b∈X.ex∨X.s₀.heap.objs.size≤b)∧(∀x c,X.env.cells.lookup x=some c→c≠b)∧∀p∈X.pn++pins,p.1≠b
variable {σ:St}
theorem Inv.FT{pins:bS}{H':Hp}{b:Addr}(I:Inv X pins σ H s)(hb:s.heap.objs.size≤b)(hn:H' b=none):kz X pins H' b:=by
 refine ⟨hn,Nat.ne_of_gt (dC I.lt hb),I.SX hb,.inr (av I.sz hb),fun x c e z=>?_,fun p hp z=>?_⟩
 ·obtain ⟨v,q⟩:=I.cell x c e
  exact absurd (dC q.lt (by rw [z];exact hb)) (gk _)
 ·exact absurd (dC (bN (I.pin p hp).1) (by rw [z];exact hb)) (gk _)
structure Turn (P:Program) (w:World) (K:aL) (tg:Expr) (J:It) (fp:List Addr) (it:Addr) (tn:Nat→Heap→Prop):Prop where
 mem:it∈fp
 obj:∀i h,tn i h→∀b∈fp,∃o,h.get? b=some o∧∀v,o.data≠.cell v
 keep:∀i h h',tn i h→(∀b∈fp,∀o,h.get? b=some o→h'.get? b=some o)→tn i h'
 item:∀(X:Cx),X.prog=P→X.w=w→X.K=K→X.calm=true→∀(i:Nat) (pins:bS) (s:Shared) (σ:St) (H:Hp) (E:cV),Inv X pins σ H s→(∀b∈fp,kz X pins H b)→tn i s.heap→J.go i H→
  wpAny (model P w) X.A (pyNext (.ref it)) (fun r s1=>∃u,r=some u ∧
   wpAny (model P w) X.A (letOwnedTupleGo tg (.ref it) u) (fun _ s2=>∃x H',Inv X pins σ H' s2∧RelV x u∧J.f9 i H x H'∧tn (i+1) s2.heap∧∀b∈fp,H' b=none) E s1) E s
 done:∀(X:Cx),X.prog=P→X.w=w→X.K=K→X.calm=true→∀(i:Nat) (pins:bS) (s:Shared) (σ:St) (H:Hp) (E:cV),Inv X pins σ H s→(∀b∈fp,kz X pins H b)→tn i s.heap→J.stop i H→
  wpAny (model P w) X.A (pyNext (.ref it)) (fun r s1=>r=none∧Inv X pins σ H s1) E s
 self:∀(A:Around) (i:Nat) (s:Shared) (Q:cV) (E:cV),tn i s.heap→Q (.ref it) s→wpAny (model P w) A (pyIter (.ref it)) Q E s
abbrev TI:=St→Hp→(It→Hp→Prop)→Prop
def Lv(X:Cx)(pins:bS)(σ:St)(tg:Expr)(R:It→Hp→Prop)(pB:Value)(s2:Shared):Prop:=
 ∃(it:Addr) (fp:List Addr) (tn:Nat→Heap→Prop) (J:It) (H':Hp),pB=.ref it∧Inv X pins σ H' s2∧Turn X.prog X.w X.K tg J fp it tn∧tn 0 s2.heap∧(∀b∈fp,kz X pins H' b)∧R J H'
def PI(X:Cx)(tg iter:Expr)(wi:TI):Prop:=
 ∀(pins:bS) (s:Shared) (σ:St) (H:Hp) (R:It→Hp→Prop),Inv X pins σ H s→wi σ H R→
  wpAny (model X.prog X.w) X.A (eval iter X.env) (fun v s1=>wpAny (model X.prog X.w) X.A (pyIter v) (Lv X pins σ tg R) X.xe s1) X.xe s
variable {tg:Expr}
theorem Lw{it:Addr}{o:Obj}{n:String}{vs:Array Value}{Q:Unit→Shared→Prop}(ho:s.heap.get? it=some o)(hc:o.cls=.type n)(hd:o.data=.fields vs)
    (hn:["enumerate","zip","dict_itemiterator","dict_reverseitemiterator","odict_iterator","itertools.zip_longest","itertools.pairwise"].contains n=false) (hQ:Q () s):wpAny M A (letOwnedTupleGo tg (.ref it) u) Q E s:=by
  unfold letOwnedTupleGo
  cases tg <;> first
    | exact e8 hQ
    | (cases u <;> first
        | exact e8 hQ
        | (refine cS (wpAny_load ho ?_)
           rw [hc,hd];show wpAny M A (if (["enumerate","zip","dict_itemiterator","dict_reverseitemiterator","odict_iterator","itertools.zip_longest","itertools.pairwise"].contains n && vs[0]? == some (rawInt _))=true then _ else _) Q E s
           rw [aj (by intro h;rw [hn,Bool.false_and] at h;cases h)]
           exact e8 hQ))
def u7(K:aL)(a:Addr):It:=
 ⟨fun i H=>∃xs x,cu K H a xs∧xs[i]?=some x,fun i H x H'=>H'=H∧∀xs,cu K H a xs→xs[i]?=some x,fun i H=>∃xs,cu K H a xs∧xs.length≤i⟩
def nU(lo:Int)(n:Nat):It:=⟨fun i _=>i<n,fun i H x H'=>H'=H∧x=.int (lo+i),fun i _=>n≤i⟩
variable {K:aL}
theorem Tq(a it:Addr):Turn P w K tg (u7 K a) [it] it (fun i h=>h.IsListIter it a i) where
 mem:=by simp
 obj:=fun i h st b hb=>by
  have e:b=it:=by simpa using hb
  subst e;obtain ⟨o,e,c,d⟩:=st;exact ⟨o,e,fun v z=>by rw [d] at z;cases z⟩
 keep:=fun i h h' st k=>st.at fun o e=>k it (by simp) o e
 item:=by
  intro X hP hw hK hc i pins s σ H E I hf st hg;subst hP hw hK;obtain ⟨xs,x,hq,hx⟩:=hg;obtain ⟨au,rv,p,hz⟩:=I.list hq;obtain ⟨u,hu,ru⟩:=rv.get hx;obtain ⟨f0,f1,f2,f3,f4,f5⟩:=hf it (by simp)
  refine wpAny_pyNext_list_item st p.isList (x:=u) (by simpa using hu) fun h' zg sb=>?_
  have I1:Inv X pins σ H {s with heap:=h'}:=I.turned (t':=s.toks) (fun b o hb e=>(sb.2 b hb).trans e) f0 f1 f3 f4 f5;obtain ⟨o,e,c,d⟩:=id zg;exact ⟨u,rfl,Lw (s:={s with heap:=h'}) e c d (by decide) ⟨x,H,I1,ru,⟨rfl,fun ys hy=>by rw [I.FI hy hq];exact hx⟩,zg,fun b hb=>(hf b hb).1⟩⟩
 done:=by
  intro X hP hw hK hc i pins s σ H E I hf st hg;subst hP hw hK;obtain ⟨xs,hq,hx⟩:=hg;obtain ⟨au,rv,p,hz⟩:=I.list hq;obtain ⟨f0,f1,f2,f3,f4,f5⟩:=hf it (by simp)
  have hl:=rv.length;exact wpAny_pyNext_list_end (I.ok.hd hc) st p.isList (by simp;lia) fun h' eb=>⟨rfl,I.turned (t':=s.toks) (fun b o hb e=>eb b o hb e) f0 f1 f3 f4 f5⟩
 self:=fun _ _ _ _ _ st h=>wpAny_pyIter_listiter st h
theorem Tr(it:Addr)(lo:Int)(n:Nat):Turn P w K tg (nU lo n) [it] it (fun i h=>IsRangeIter h it (lo+(i:Nat)*1) ((n:Int)-(i:Nat)) 1) where
 mem:=by simp
 obj:=fun i h st b hb=>by
  have e:b=it:=by simpa using hb
  subst e;exact ⟨_,st,fun v z=>by have z':Data.fields _=Data.cell v:=z;cases z'⟩
 keep:=fun i h h' st k=>k it (by simp) _ st
 item:=by
  intro X hP hw hK hc i pins s σ H E I hf st hg;subst hP hw hK;obtain ⟨f0,f1,f2,f3,f4,f5⟩:=hf it (by simp)
  have W:=Walks.range (prog:=X.prog) (w:=X.w) (I.ok.hd hc) it lo 1 n;refine W.item i s _ _ hg st fun v h' tk hv zg kk=>?_;obtain ⟨t,rfl⟩:=hv;have I1:Inv X pins σ H {s with heap:=h',toks:=tk}:=I.turned (fun b o hb e=>kk b o (by simpa using hb) e) f0 f1 f3 f4 f5
  refine ⟨_,rfl,Lw (s:={s with heap:=h',toks:=tk}) (n:="range_iterator") zg rfl rfl (by decide) ⟨.int (lo+i),H,I1,⟨t,?_⟩,⟨rfl,rfl⟩,zg,fun b hb=>(hf b hb).1⟩⟩
  rw [iC]
 done:=by
  intro X hP hw hK hc i pins s σ H E I hf st hg;subst hP hw hK;obtain ⟨f0,f1,f2,f3,f4,f5⟩:=hf it (by simp)
  exact wpAny_pyNext_range_end (I.ok.hd hc) st (by have:n≤i:=hg;lia) fun h' eb=>⟨rfl,I.turned (t':=s.toks) (fun b o hb e=>eb b o hb e) f0 f1 f3 f4 f5⟩
 self:=fun _ _ _ _ _ st h=>wpAny_pyIter_rangeiter st h
section
variable {X:Cx} {tg:Expr}
def FU(K:aL)(tl:TE):TI:=fun σ H R=>tl σ H fun x H1=>∃a,x=.ref a∧(∃xs,cu K H1 a xs)∧R (u7 K a) H1
theorem dH{l:Expr}{tl:TE}(hl:PE X l tl):PI X tg l (FU X.K tl):=by
 intro pins s σ H R I h;refine aS (hl pins s σ H _ I h) fun v s1 ⟨x,H1,I1,r1,q1⟩=>?_;obtain ⟨a,e,⟨xs,hq⟩,q⟩:=q1;subst e;cases r1;obtain ⟨au,rv,p,hz⟩:=I1.list hq;refine Bl p.isList ?_;refine ⟨s1.heap.objs.size,[s1.heap.objs.size],_,_,H1,rfl,I1.kept (t':=s1.toks) fun b o e=>df _ e,Tq a _,⟨_,gq _ rfl,rfl,rfl⟩,fun b hb=>?_,q⟩;have e:b=s1.heap.objs.size:=by simpa using hb
 subst e;exact I1.FT (aI _) (I1.aF.fresh (aI _))
variable {pins:bS}
theorem Lx{R:It→Hp→Prop}{lo hi:Int}{t u v:Tok}{tk:Nat}(I:Inv X pins σ H s)(h1:-(2 ^ 62)≤lo)(h2:lo<2 ^ 62)(h3:-(2 ^ 62)≤hi)(h4:hi<2 ^ 62)
  (q:R (nU lo (hi-lo).toNat) H):wpAny (model X.prog X.w) X.A (pyIter (.ref s.heap.objs.size)) (Lv X pins σ tg R) E {s with heap:=s.heap.push {cls:=.type "range",data:=.fields #[.int lo t,.int hi u,.int 1 v]},toks:=tk}:=by
 refine wpAny_pyIter_range (IsRange.new ..) (small_one h1 h2 h3 h4) ?_;have I1:Inv X pins σ H {s with heap:=s.heap.push {cls:=.type "range",data:=.fields #[.int lo t,.int hi u,.int 1 v]},toks:=tk}:=I.kept fun b o e=>df _ e
 refine ⟨(s.heap.push {cls:=.type "range",data:=.fields #[.int lo t,.int hi u,.int 1 v]}).objs.size,[(s.heap.push {cls:=.type "range",data:=.fields #[.int lo t,.int hi u,.int 1 v]}).objs.size],_,_,H,rfl,
  I1.kept (t':=tk) fun b o e=>df _ e,Tr _ lo (hi-lo).toNat,?_,fun b hb=>?_,q⟩
 ·have e1:lo+((0:Nat):Int)*1=lo:=by simp
  have e2:(((hi-lo).toNat:Nat):Int)-((0:Nat):Int)=Builtin.Range.rangeSize lo hi 1:=by rw [rangeSize_one];split <;> lia
  show IsRangeIter _ _ (lo+((0:Nat):Int)*1) ((((hi-lo).toNat:Nat):Int)-((0:Nat):Int)) 1;rw [e1,e2];exact gq _ rfl
 ·have e:b=(s.heap.push {cls:=.type "range",data:=.fields #[.int lo t,.int hi u,.int 1 v]}).objs.size:=by simpa using hb
  subst e;exact I1.FT (aI _) (I1.aF.fresh (aI _))
def Ts(ta:TA):TI:=fun σ H R=>ta σ H fun vs H1=>∃j:Int,vs=[.int j]∧-(2 ^ 62)≤j∧j<2 ^ 62∧R (nU 0 j.toNat) H1
def Tu(ta:TA):TI:=fun σ H R=>ta σ H fun vs H1=>∃i j:Int,vs=[.int i,.int j]∧(-(2 ^ 62)≤i∧i<2 ^ 62∧-(2 ^ 62)≤j∧j<2 ^ 62)∧R (nU i (j-i).toNat) H1
variable {ta:TA} {p pos:Pos}
theorem gG{a:Expr}(hg:Gl X "range")(hm:X.mg "range"=none)(ha:PA X [a] ta)(hs:starEach [a] X.env=[(false,eval a X.env)]:=by rfl):PI X tg (.Call (.Name "range" p) [a] [] pos) (Ts ta):=by
 intro pins s σ H R I h;refine Call_ (u4 I hg hm boot_range (Bm (aS (ha pos pins s σ H _ I h) fun us s1 ⟨vs,H1,I1,r1,q1⟩=>?_) hs rfl));obtain ⟨j,e,q1,q2,q⟩:=q1;subst e;cases r1 with
 | cons r rr=>cases rr;obtain ⟨t,rfl⟩:=r;exact call_range_1 (Lx I1 (by lia) (by lia) q1 q2 (by simpa using q))
theorem BX{a b:Expr}(hg:Gl X "range")(hm:X.mg "range"=none)(ha:PA X [a,b] ta)(hs:starEach [a,b] X.env=[(false,eval a X.env),(false,eval b X.env)]:=by rfl)(mO:starEach [b] X.env=[(false,eval b X.env)]:=by rfl) :
  PI X tg (.Call (.Name "range" p) [a,b] [] pos) (Tu ta):=by
 intro pins s σ H R I h;refine Call_ (u4 I hg hm boot_range (Bm (aS (ha pos pins s σ H _ I h) fun us s1 ⟨vs,H1,I1,r1,q1⟩=>?_) (by rw [hs,mO]) (by rw [mO];rfl)))
 obtain ⟨i,j,e,⟨q1,q2,q3,q4⟩,q⟩:=q1;subst e;cases r1 with
 | cons r rr=>
  cases rr with
  | cons r' rr=>cases rr;obtain ⟨t,rfl⟩:=r;obtain ⟨t',rfl⟩:=r';exact call_range_2 (Lx I1 q1 q2 q3 q4 q)
def Tv(wi:TI)(g:TG)(tb:TS):TS:=fun D σ H=>wi σ H fun J H1=>∃W:Nat→Nat→St→Hp→Prop,(∃m,W 0 m σ H1)∧∀i m σ H,W i m σ H→
 (J.stop i H∧D.nx σ H)∨(J.go i H∧∃N:St→Hp→Prop,(∀σ' H',N σ' H'→∃m',m'<m∧W (i+1) m' σ' H')∧∀x H',J.f9 i H x H'→g x σ H' fun σ2 H2=>tb {D with nx:=N,ct:=N,bk:=D.nx} σ2 H2)
def iF(fp:List Addr)(h:Heap):List (Addr×Obj):=fp.filterMap fun b=>(h.get? b).map fun o=>(b,o)
variable {fp:List Addr}
theorem jd{b:Addr}{o:Obj}(hb:b∈fp)(e:h.get? b=some o):(b,o)∈iF fp h:=List.mem_filterMap.mpr ⟨b,hb,by rw [e];rfl⟩
theorem Tw{p:Addr×Obj}(hp:p∈iF fp h):p.1∈fp∧h.get? p.1=some p.2:=by
 obtain ⟨b,hb,e⟩:=List.mem_filterMap.mp hp;cases q:h.get? b with
 | none=>rw [q] at e;cases e
 | some o=>rw [q] at e;have e':(b,o)=p:=Option.some.inj e;subst e';exact ⟨hb,q⟩
theorem Inv.pinned(I:Inv X pins σ H s)(hf:∀b∈fp,kz X pins H b)(ho:∀b∈fp,∃o,s.heap.get? b=some o∧∀v,o.data≠.cell v):Inv X (pins++iF fp s.heap) σ H s:=
 I.Le fun p hp=>(uJ.mp hp).elim (fun z=>I.pin p (d7 _ z)) fun z=>by obtain ⟨hb,e⟩:=Tw z;obtain ⟨f0,f1,f2,_⟩:=hf p.1 hb;obtain ⟨o,e',d⟩:=ho p.1 hb;rw [e] at e';cases e';exact ⟨e,f0,f1,f2,d⟩
theorem Inv.nV{pl:bS}(I:Inv X (pins++pl) σ H s):Inv X pins σ H s:=I.Le fun p hp=>I.pin p (d7 _ (List.mem_append_left _ hp))
theorem iG{iter:Expr}{body:List Stmt}{wi:TI}{g:TG}{tb:TS}(hp:PassesOwn (model X.prog X.w) X.A X.env X.xe)(hc:X.calm=true)(hi:PI X tg iter wi)(hg:PG X tg g)(hb:fZ X body tb)
  (hs:∀x,foldedSetIterable iter X.env x=pure x:=by intro _;rfl):PS X (.For tg iter body [] pos) (Tv wi g tb):=by
 intro pins s σ H D I h;refine wpAny_For (aS (hi pins s σ H _ I h) fun v s1 h1=>aS h1 fun pB s2 h2=>?_) hs;obtain ⟨it,fp,tn,J,H2,e,I2,T,fk,f2,W,⟨m0,w0⟩,turn⟩:=h2;subst e;have eX:∀{H':Hp},(∀b∈fp,H' b=none)→∀b∈fp,kz X pins H' b:=fun hn b hb=>⟨hn b hb,(f2 b hb).2⟩;refine codeAny_forLoop_any (fun n s'=>∃i σ' H',Inv X pins σ' H' s'∧tn i s'.heap∧(∀b∈fp,H' b=none)∧W i n σ' H') ?_ m0 ⟨0,σ,H2,I2,fk,fun b hb=>(f2 b hb).1,w0⟩;rintro n s3 ⟨i,σ3,H3,I3,Ly,Lz,w3⟩;rcases turn i n σ3 H3 w3 with ⟨stop,qn⟩ | ⟨go,N,hN,step⟩
 ·refine qx hp (aS (T.done X rfl rfl rfl hc i pins s3 σ3 H3 X.xe I3 (eX Lz) Ly stop) fun r s4 ⟨hr,I4⟩=>?_)
  subst hr;exact Bj ⟨σ3,H3,I4,qn⟩
 ·refine qx hp (aS (T.item X rfl rfl rfl hc i pins s3 σ3 H3 X.xe I3 (eX Lz) Ly go) fun r s4 ⟨u,hr,h4⟩=>?_)
  subst hr;refine qx hp (aS h4 fun _ s5 ⟨x,H5,I5,r5,y5,eY,jK⟩=>?_);have jM:=I5.pinned (eX jK) (T.obj _ _ eY);refine qx hp (aS (hg _ s5 σ3 H5 x u _ jM r5 (step x H5 y5)) fun _ s6 ⟨σ6,H6,I6,q6⟩=>?_);refine qx hp (aS (hb _ s6 σ6 H6 _ I6 q6) fun f s7 q7=>?_);have again:∀{σ7:St} {H7:Hp},Inv X (pins++iF fp s5.heap) σ7 H7 s7→N σ7 H7→∃m,m<n∧∃i σ' H',Inv X pins σ' H' s7∧tn i s7.heap∧(∀b∈fp,H' b=none)∧W i m σ' H':=fun{σ7 H7} I7 n7=>by obtain ⟨m',hm,w7⟩:=hN σ7 H7 n7;refine ⟨m',hm,i+1,σ7,H7,I7.nV,T.keep _ _ _ eY fun b hb o e=>(I7.pin (b,o) (d7 _ (d7 _ (jd hb e)))).1,fun b hb=>?_,w7⟩;obtain ⟨o,e,d⟩:=T.obj _ _ eY b hb;exact (I7.pin (b,o) (d7 _ (d7 _ (jd hb e)))).2.1
  cases f with
  | next=>obtain ⟨σ7,H7,I7,n7⟩:=q7;exact again I7 n7
  | cont=>obtain ⟨σ7,H7,I7,n7⟩:=q7;exact again I7 n7
  | brk=>obtain ⟨σ7,H7,I7,q7⟩:=q7;exact ⟨σ7,H7,I7.nV,q7⟩
  | ret v=>obtain ⟨x7,σ7,H7,I7,r7,q7⟩:=q7;exact ⟨x7,σ7,H7,I7.nV,r7,q7⟩
end
variable {g:TG} {tb:TS} {D:Ends}
theorem qN(Pv:Nat→St→Hp→Prop)(h0:Pv 0 σ H)(hl:∀i σ H,i≤xs.length→Pv i σ H→cu K H a xs)
  (hs:∀i x σ H,xs[i]?=some x→Pv i σ H→g x σ H fun σ2 H2=>tb {D with nx:=Pv (i+1),ct:=Pv (i+1),bk:=D.nx} σ2 H2) (hd:∀σ H,Pv xs.length σ H→D.nx σ H) :
  ∃W:Nat→Nat→St→Hp→Prop,(∃m,W 0 m σ H)∧∀i m σ H,W i m σ H→
   ((u7 K a).stop i H∧D.nx σ H)∨((u7 K a).go i H∧∃N:St→Hp→Prop,(∀σ' H',N σ' H'→∃m',m'<m∧W (i+1) m' σ' H')∧∀x H',(u7 K a).f9 i H x H'→g x σ H' fun σ2 H2=>tb {D with nx:=N,ct:=N,bk:=D.nx} σ2 H2):=by
 refine ⟨fun i m σ H=>m=xs.length-i∧i≤xs.length∧Pv i σ H,⟨xs.length,by simp,fh _,h0⟩,?_⟩
 rintro i m σ H ⟨rfl,hi,p⟩;have q:=hl i σ H hi p;by_cases d3:i<xs.length
 ·refine .inr ⟨⟨xs,xs[i],q,by simp [d3]⟩,Pv (i+1),fun σ' H' p'=>⟨xs.length-(i+1),by lia,rfl,d3,p'⟩,fun x H' y=>?_⟩
  obtain ⟨e,y⟩:=y;subst e;exact hs i x σ _ (y xs q) p
 ·have e:i=xs.length:=by lia
  subst e;exact .inl ⟨⟨xs,q,aI _⟩,hd σ H p⟩
variable {n:Nat}
theorem pC{lo:Int}(Pv:Nat→St→Hp→Prop)(h0:Pv 0 σ H)
  (hs:∀i σ H,i<n→Pv i σ H→g (.int (lo+i)) σ H fun σ2 H2=>tb {D with nx:=Pv (i+1),ct:=Pv (i+1),bk:=D.nx} σ2 H2) (hd:∀σ H,Pv n σ H→D.nx σ H) :
  ∃W:Nat→Nat→St→Hp→Prop,(∃m,W 0 m σ H)∧∀i m σ H,W i m σ H→
   ((nU lo n).stop i H∧D.nx σ H)∨((nU lo n).go i H∧∃N:St→Hp→Prop,(∀σ' H',N σ' H'→∃m',m'<m∧W (i+1) m' σ' H')∧∀x H',(nU lo n).f9 i H x H'→g x σ H' fun σ2 H2=>tb {D with nx:=N,ct:=N,bk:=D.nx} σ2 H2):=by
 refine ⟨fun i m σ H=>m=n-i∧i≤n∧Pv i σ H,⟨n,by simp,fh _,h0⟩,?_⟩
 rintro i m σ H ⟨rfl,hi,p⟩;by_cases d3:i<n
 ·refine .inr ⟨d3,Pv (i+1),fun σ' H' p'=>⟨n-(i+1),by lia,rfl,d3,p'⟩,fun x H' y=>?_⟩
  obtain ⟨e,y⟩:=y;subst e y;exact hs i σ _ d3 p
 ·have e:i=n:=by lia
  subst e;exact .inl ⟨aI _,hd σ H p⟩
abbrev R2:=V→V→Hp→VK→Prop
def dE(X:Cx)(f:Value→Value→Sem Value)(r:R2):Prop:=
 ∀(pins:bS) (s:Shared) (σ:St) (H:Hp) (x y:V) (v u:Value) (Q:VK),Inv X pins σ H s→RelV x v→RelV y u→r x y H Q→
  wpAny (model X.prog X.w) X.A (f v u) (EP X pins σ Q) X.xe s
def FV(X:Cx)(f:Value→Sem Value)(r:V→Hp→VK→Prop):Prop:=
 ∀(pins:bS) (s:Shared) (σ:St) (H:Hp) (x:V) (v:Value) (Q:VK),Inv X pins σ H s→RelV x v→r x H Q→
  wpAny (model X.prog X.w) X.A (f v) (EP X pins σ Q) X.xe s
def iV(X:Cx)(f:Value)(r:List V→Hp→VK→Prop):Prop:=
 ∀(pins:bS) (s:Shared) (σ:St) (H:Hp) (xs:List V) (us:List Value) (Q:VK),Inv X pins σ H s→Vals xs us→r xs H Q→
  wpAny (model X.prog X.w) X.A (call f us) (EP X pins σ Q) X.xe s
def Tx(X:Cx)(r:V→Hp→(Bool→Hp→Prop)→Prop):Prop:=
 ∀(pins:bS) (s:Shared) (σ:St) (H:Hp) (x:V) (v:Value) (Q:Bool→Hp→Prop),Inv X pins σ H s→RelV x v→r x H Q→
  wpAny (model X.prog X.w) X.A (truthy v) (TP X pins σ Q) X.xe s
def kC(r:R2)(ta tb:TE):TE:=fun σ H Q=>ta σ H fun x H1=>tb σ H1 fun y H2=>r x y H2 Q
def Tz(r:V→Hp→VK→Prop)(ta:TE):TE:=fun σ H Q=>ta σ H fun x H1=>r x H1 Q
def rI(C:Int→Int→Prop)(g:Int→Int→V):R2:=fun x y H Q=>∃i j,x=.int i∧y=.int j∧C i j∧Q (g i j) H
def pD(g:Int→Int→V):R2:=fun x y H Q=>∃i j,x=.int i∧y=.int j∧Q (g i j) H
def rU(g:Int→V):V→Hp→VK→Prop:=fun x H Q=>∃i,x=.int i∧Q (g i) H
section
variable {X:Cx} {a b c:Expr} {ta tb tc:TE} {pos:Pos}
variable {f:Value→Value→Sem Value}
theorem FW(ha:PE X a ta)(hb:PE X b tb){pins:bS}{R:V→V→Hp→Prop}(I:Inv X pins σ H s)
  (h:ta σ H fun x H1=>tb σ H1 fun y H2=>R x y H2) {Q:cV}
  (hf:∀v u s2 x y H2,Inv X pins σ H2 s2→RelV x v→RelV y u→R x y H2→wpAny (model X.prog X.w) X.A (f v u) Q X.xe s2) :
  wpAny (model X.prog X.w) X.A (eval a X.env) (fun v s₁=>wpAny (model X.prog X.w) X.A (eval b X.env) (fun u s₂=>wpAny (model X.prog X.w) X.A (f v u) Q X.xe s₂) X.xe s₁) X.xe s:=by
 refine aS (ha pins s σ H _ I h) fun v s1 ⟨x,H1,I1,r1,q1⟩=>?_;refine aS (hb pins s1 σ H1 _ I1 q1) fun u s2 ⟨y,H2,I2,r2,q2⟩=>?_;exact hf v u s2 x y H2 I2 r1 r2 q2
theorem ar{op:Operator}{r:R2}(ho:dE X (binaryOp op) r)(ha:PE X a ta)(hb:PE X b tb):PE X (.BinOp a op b pos) (kC r ta tb):=by intro pins s σ H Q I h;exact wpAny_BinOp (FW ha hb I h fun v u s2 x y H2 I2 rx ry q=>ho pins s2 σ H2 x y v u Q I2 rx ry q)
theorem TC{op:UnaryOp}{r:V→Hp→VK→Prop}(ho:FV X (unaryOp op) r)(ha:PE X a ta):PE X (.UnaryOp op a pos) (Tz r ta):=by intro pins s σ H Q I h;exact UnaryOp_ (aS (ha pins s σ H _ I h) fun v s1 ⟨x,H1,I1,r1,q1⟩=>ho pins s1 σ H1 x v Q I1 r1 q1)
theorem nX{C:Int→Int→Prop}{g:Int→Int→Int}
  (rule:∀(i j:Int) (t u:Tok) (s:Shared) (Q:cV) (E:cV),C i j→Q (.int (g i j) s.toks) {s with toks:=s.toks+1}→wpAny (model X.prog X.w) X.A (f (.int i t) (.int j u)) Q E s) :
  dE X f (rI C fun i j=>.int (g i j)):=by
 intro pins s σ H x y v u Q I rx ry h;obtain ⟨i,j,rfl,rfl,hc,q⟩:=h;obtain ⟨t,rfl⟩:=rx;obtain ⟨t',rfl⟩:=ry;exact rule i j t t' s _ _ hc ⟨.int (g i j),H,I.tok _,⟨_,rfl⟩,q⟩
theorem LA{g:Int→Int→Int}
  (rule:∀(i j:Int) (t u:Tok) (s:Shared) (Q:cV) (E:cV),Q (.int (g i j) s.toks) {s with toks:=s.toks+1}→wpAny (model X.prog X.w) X.A (f (.int i t) (.int j u)) Q E s) :
  dE X f (pD fun i j=>.int (g i j)):=by
 intro pins s σ H x y v u Q I rx ry h;obtain ⟨i,j,rfl,rfl,q⟩:=h;obtain ⟨t,rfl⟩:=rx;obtain ⟨t',rfl⟩:=ry;exact rule i j t t' s _ _ ⟨.int (g i j),H,I.tok _,⟨_,rfl⟩,q⟩
theorem BY{g:Int→Int→Bool}
  (rule:∀(i j:Int) (t u:Tok) (s:Shared) (Q:cV) (E:cV),Q (.bool (g i j)) s→wpAny (model X.prog X.w) X.A (f (.int i t) (.int j u)) Q E s) :
  dE X f (pD fun i j=>.bl (g i j)):=by
 intro pins s σ H x y v u Q I rx ry h;obtain ⟨i,j,rfl,rfl,q⟩:=h;obtain ⟨t,rfl⟩:=rx;obtain ⟨t',rfl⟩:=ry;exact rule i j t t' s _ _ ⟨.bl (g i j),H,I,rfl,q⟩
def TF(i j:Int):Prop:=0<j∧j<1073741824
def TH(i j:Int):Prop:=0≤j∧j≤1000000∧i.natAbs<2 ^ 64
def FX(i j:Int):Prop:=(-(2 ^ 64)<i∧i<2 ^ 64)∨(-(2 ^ 64)<j∧j<2 ^ 64)
theorem FX.ok{i j:Int}(h:FX i j):IntMulOk i j:=by
 rcases h with ⟨h1,h2⟩ | ⟨h1,h2⟩;·exact .of_left (intBits_le_64 h1 h2)
 ·exact .of_right (intBits_le_64 h1 h2)
theorem gT:dE X (binaryOp .Add) (pD fun i j=>.int (i+j)):=LA fun _ _ _ _ _ _ _ q=>add_int q
theorem k_:dE X (binaryOp .Sub) (pD fun i j=>.int (i-j)):=LA fun _ _ _ _ _ _ _ q=>sub_int q
theorem f_:dE X (binaryOp .Mult) (rI FX fun i j=>.int (i*j)):=nX fun _ _ _ _ _ _ _ hc q=>mul_int q hc.ok
theorem pF:dE X (binaryOp .FloorDiv) (rI TF fun i j=>.int (i / j)):=nX fun i j _ _ _ _ _ hc q=>by have h1:(0:Int)<j:=hc.1;have h2:j<1073741824:=hc.2;exact floordiv_int (by lia) (by rw [yO i (by lia)];exact q) (.inl (PyProof.noPylong_small (by lia)))
theorem cX:dE X (binaryOp .Mod) (rI (fun _ j=>0<j) fun i j=>.int (i % j)):=nX fun i j _ _ _ _ _ hc q=>by have h1:(0:Int)<j:=hc;exact mod_int' (by lia) (by rw [Int.fmod_eq_emod_of_nonneg i (by lia)];exact q)
theorem TJ:dE X (binaryOp .Pow) (rI TH fun i j=>.int (i ^ j.toNat)):=nX fun _ _ _ _ _ _ _ hc q=>pow_int_small hc.1 hc.2.1 hc.2.2 q
theorem TK{f:Value→Sem Value}{g:Int→Int}
  (rule:∀(i:Int) (t:Tok) (s:Shared) (Q:cV) (E:cV),Q (.int (g i) s.toks) {s with toks:=s.toks+1}→wpAny (model X.prog X.w) X.A (f (.int i t)) Q E s) :
  FV X f (rU fun i=>.int (g i)):=by
 intro pins s σ H x v Q I rx h;obtain ⟨i,rfl,q⟩:=h;obtain ⟨t,rfl⟩:=rx;exact rule i t s _ _ ⟨.int (g i),H,I.tok _,⟨_,rfl⟩,q⟩
theorem TL:FV X (unaryOp .USub) (rU fun i=>.int (-i)):=TK fun _ _ _ _ _ q=>neg_int q
end
def LB:V→V→Bool
 | .aV,.aV=>true | .aV,.int _=>true | .int _,.aV=>true | .aV,.bl _=>true | .bl _,.aV=>true | .aV,.str _=>true | .str _,.aV=>true
 | .int _,.int _=>true | .bl _,.bl _=>true | .str _,.str _=>true | .i_ _,.i_ _=>true
 | .int _,.str _=>true | .str _,.int _=>true | .bl _,.str _=>true | .str _,.bl _=>true
 | _,_=>false
def BZ:R2:=fun x y H Q=>LB x y=true∧Q (.bl (decide (x=y))) H
def TM:R2:=fun x y H Q=>LB x y=true∧Q (.bl (!decide (x=y))) H
theorem LC{i j:Int}:decide (V.int i=V.int j)=(i == j):=by rw [yP];simp
theorem LD{i j:Bool}:decide (V.bl i=V.bl j)=(i == j):=by rw [yP];simp
theorem LF{i j:Str}:decide (V.str i=V.str j)=(i == j):=by rw [yP];simp
theorem LG{i j:Array UInt8}:decide (V.i_ i=V.i_ j)=(i.toList == j.toList):=by rw [yP];cases i;cases j;simp
section
variable {X:Cx} {a b c:Expr} {ta tb tc:TE} {pos:Pos}
theorem dR{pins:bS}{Q:VK}{k k':Bool}(I:Inv X pins σ H s)(q:Q (.bl k) H)(e:k=k'):EP X pins σ Q (.bool k') s:=by subst e;exact ⟨.bl k,H,I,rfl,q⟩
theorem gc:dE X (compareOp .Eq) BZ:=by
 intro pins s σ H x y v u Q I rx ry h;obtain ⟨hs,q⟩:=h;cases x with
 | aV=>
  cases rx;cases y with
  | aV=>cases ry;exact PySem.EqNone.eq_none_none (dR I q (by simp))
  | bl j=>cases ry;exact PySem.EqNone.eq_none_bool (dR I q (by simp))
  | int j=>obtain ⟨t',rfl⟩:=ry;exact PySem.EqNone.eq_none_int (dR I q (by simp))
  | str j=>obtain ⟨t',rfl⟩:=ry;exact PySem.EqNone.eq_none_str (dR I q (by simp))
  | _=>exact absurd (show false=true from hs) dW
 | bl i=>
  cases rx;cases y with
  | aV=>cases ry;exact PySem.EqNone.eq_bool_none (dR I q (by simp))
  | bl j=>cases ry;exact eq_bool (dR I q LD)
  | str j=>obtain ⟨t',rfl⟩:=ry;exact PySem.EqMixed.eq_bool_str (dR I q (by simp))
  | _=>exact absurd (show false=true from hs) dW
 | int i=>
  obtain ⟨t,rfl⟩:=rx;cases y with
  | aV=>cases ry;exact PySem.EqNone.eq_int_none (dR I q (by simp))
  | int j=>obtain ⟨t',rfl⟩:=ry;exact eq_int (dR I q LC)
  | str j=>obtain ⟨t',rfl⟩:=ry;exact PySem.EqMixed.eq_int_str (dR I q (by simp))
  | _=>exact absurd (show false=true from hs) dW
 | str i=>
  obtain ⟨t,rfl⟩:=rx;cases y with
  | aV=>cases ry;exact PySem.EqNone.eq_str_none (dR I q (by simp))
  | bl j=>cases ry;exact PySem.EqMixed.eq_str_bool (dR I q (by simp))
  | int j=>obtain ⟨t',rfl⟩:=ry;exact PySem.EqMixed.eq_str_int (dR I q (by simp))
  | str j=>obtain ⟨t',rfl⟩:=ry;exact eq_str (dR I q LF)
  | _=>exact absurd (show false=true from hs) dW
 | i_ i=>
  obtain ⟨t,rfl⟩:=rx;cases y with
  | i_ j=>obtain ⟨t',rfl⟩:=ry;exact PySem.W.eq_bytes (dR I q LG)
  | _=>exact absurd (show false=true from hs) dW
 | _=>cases y <;> exact absurd (show false=true from hs) dW
theorem je:dE X (compareOp .NotEq) TM:=by
 intro pins s σ H x y v u Q I rx ry h;obtain ⟨hs,q⟩:=h;cases x with
 | aV=>
  cases rx;cases y with
  | aV=>cases ry;exact PySem.EqNone.ne_none_none (dR I q (by simp))
  | bl j=>cases ry;exact PySem.EqNone.ne_none_bool (dR I q (by simp))
  | int j=>obtain ⟨t',rfl⟩:=ry;exact PySem.EqNone.ne_none_int (dR I q (by simp))
  | str j=>obtain ⟨t',rfl⟩:=ry;exact PySem.EqNone.ne_none_str (dR I q (by simp))
  | _=>exact absurd (show false=true from hs) dW
 | bl i=>
  cases rx;cases y with
  | aV=>cases ry;exact PySem.EqNone.ne_bool_none (dR I q (by simp))
  | bl j=>cases ry;exact ne_bool (dR I q (fK not LD))
  | str j=>obtain ⟨t',rfl⟩:=ry;exact PySem.EqMixed.ne_bool_str (dR I q (by simp))
  | _=>exact absurd (show false=true from hs) dW
 | int i=>
  obtain ⟨t,rfl⟩:=rx;cases y with
  | aV=>cases ry;exact PySem.EqNone.ne_int_none (dR I q (by simp))
  | int j=>obtain ⟨t',rfl⟩:=ry;exact ne_int (dR I q (fK not LC))
  | str j=>obtain ⟨t',rfl⟩:=ry;exact PySem.EqMixed.ne_int_str (dR I q (by simp))
  | _=>exact absurd (show false=true from hs) dW
 | str i=>
  obtain ⟨t,rfl⟩:=rx;cases y with
  | aV=>cases ry;exact PySem.EqNone.ne_str_none (dR I q (by simp))
  | bl j=>cases ry;exact PySem.EqMixed.ne_str_bool (dR I q (by simp))
  | int j=>obtain ⟨t',rfl⟩:=ry;exact PySem.EqMixed.ne_str_int (dR I q (by simp))
  | str j=>obtain ⟨t',rfl⟩:=ry;exact ne_str (dR I q (fK not LF))
  | _=>exact absurd (show false=true from hs) dW
 | i_ i=>
  obtain ⟨t,rfl⟩:=rx;cases y with
  | i_ j=>obtain ⟨t',rfl⟩:=ry;exact PySem.W.ne_bytes (dR I q (fK not LG))
  | _=>exact absurd (show false=true from hs) dW
 | _=>cases y <;> exact absurd (show false=true from hs) dW
theorem jN:dE X (compareOp .Lt) (pD fun i j=>.bl (decide (i<j))):=BY fun _ _ _ _ _ _ _ q=>lt_int q
theorem zh:dE X (compareOp .LtE) (pD fun i j=>.bl (decide (i≤j))):=BY fun _ _ _ _ _ _ _ q=>le_int q
theorem zi:dE X (compareOp .Gt) (pD fun i j=>.bl (decide (j<i))):=BY fun _ _ _ _ _ _ _ q=>gt_int q
theorem TN:dE X (compareOp .GtE) (pD fun i j=>.bl (decide (j≤i))):=BY fun _ _ _ _ _ _ _ q=>ge_int q
theorem B0:dE X (compareOp .Is) (fun x y H Q=>y=.aV∧Q (.bl (decide (x=.aV))) H):=by
 intro pins s σ H x y v u Q I rx ry h;obtain ⟨rfl,q⟩:=h;cases ry;refine is_none_gen (dR I q ?_)
 cases x <;> first
  | (cases rx;rfl)
  | (obtain ⟨t,rfl⟩:=rx;rfl)
theorem LH:dE X (compareOp .IsNot) (fun x y H Q=>y=.aV∧Q (.bl (!decide (x=.aV))) H):=by
 intro pins s σ H x y v u Q I rx ry h;obtain ⟨rfl,q⟩:=h;cases ry;refine isnot_none_gen (dR I q ?_)
 cases x <;> first
  | (cases rx;rfl)
  | (obtain ⟨t,rfl⟩:=rx;rfl)
variable {op:CmpOp}
theorem LI(b:Expr)(h:op≠.In:=by decide)(h2:op≠.NotIn:=by decide):behindInMarks op b=false:=by
 have e1:(op == CmpOp.In)=false:=by cases op <;> first | rfl | exact absurd rfl h
 have e2:(op == CmpOp.NotIn)=false:=by cases op <;> first | rfl | exact absurd rfl h2
 cases b <;> simp [behindInMarks,e1,e2]
variable {r:R2}
theorem TQ(ho:dE X (compareOp op) r)(ha:PE X a ta)(hb:PE X b tb)(hm:behindInMarks op b=false):PE X (.Compare a [op] [b] pos) (kC r ta tb):=by intro pins s σ H Q I h;exact wpAny_Compare1 (FW ha hb I h fun v u s2 x y H2 I2 rx ry q=>ho pins s2 σ H2 x y v u Q I2 rx ry q) hm
theorem gU{b:Expr}(ho:dE X (compareOp op) r)(ha:PE X a ta)(hb:PE X b tb)(hm:behindInMarks op b=false:=by exact LI _):PE X (.Compare a [op] [b] pos) (kC r ta tb):=TQ ho ha hb hm
def zj(t:TE):TT:=fun σ H Q=>t σ H fun x H'=>∃k,x=.bl k∧Q k H'
theorem TR(ho:dE X (compareOp op) r)(ha:PE X a ta)(hb:PE X b tb)(hm:behindInMarks op b=false):PT X (.Compare a [op] [b] pos) (zj (kC r ta tb)):=by intro pins s σ H Q I h;refine wpAny_isTrue_Compare1 (aS (ha pins s σ H _ I h) fun v s1 ⟨x,H1,I1,r1,q1⟩=>aS (hb pins s1 σ H1 _ I1 q1) fun u s2 ⟨y,H2,I2,r2,q2⟩=>aS (ho pins s2 σ H2 x y v u _ I2 r1 r2 q2) fun c s3 ⟨z,H3,I3,r3,k,e,q3⟩=>?_) hm;subst e;cases r3;exact mf ⟨H3,I3,q3⟩
theorem cI{b:Expr}(ho:dE X (compareOp op) r)(ha:PE X a ta)(hb:PE X b tb)(hm:behindInMarks op b=false:=by exact LI _):PT X (.Compare a [op] [b] pos) (zj (kC r ta tb)):=TR ho ha hb hm
def TU(r r':R2)(ta tb tc:TE):TE:=fun σ H Q=>ta σ H fun x H1=>tb σ H1 fun y H2=>r x y H2 fun z H3=>∃k,z=.bl k ∧
 (if k=true then tc σ H3 fun w' H4=>r' y w' H4 Q else Q (.bl false) H3)
theorem FY{FZ:CmpOp}{r':R2}(ho:dE X (compareOp op) r)(nS:dE X (compareOp FZ) r')(ha:PE X a ta)(hb:PE X b tb)(hc:PE X c tc)
  (hm:lastMarks [op,FZ] [b,c]=false:=by with_unfolding_all rfl):PE X (.Compare a [op,FZ] [b,c] pos) (TU r r' ta tb tc):=by
 intro pins s σ H Q I h;refine Compare_chain (aS (ha pins s σ H _ I h) fun v s1 ⟨x,H1,I1,r1,q1⟩=>chain_link (aS (hb pins s1 σ H1 _ I1 q1) fun u s2 ⟨y,H2,I2,r2,q2⟩=>aS (ho pins s2 σ H2 x y v u _ I2 r1 r2 q2) fun d s3 ⟨z,H3,I3,r3,k,e,q3⟩=>?_)) hm;subst e;cases r3;refine mf ?_;cases k with
 | false=>exact ite_ff ⟨.bl false,H3,I3,rfl,q3⟩
 | true=>exact ite_tt (chain_last (aS (hc pins s3 σ H3 _ I3 q3) fun w' s4 ⟨z',H4,I4,r4,q4⟩=>nS pins s4 σ H4 y z' u w' Q I4 r2 r4 q4))
def F0(K:aL)(x:V)(H:Hp)(k:Bool):Prop:=
 match x with
 | .aV=>k=false
 | .bl b=>k=b
 | .int i=>k=(i != 0)
 | .str y=>y.length≤sizeLine∧k=((y.length:Int) != 0)
 | .i_ y=>y.size≤sizeLine∧k=((y.size:Int) != 0)
 | .ref p=>(∃xs,cu K H p xs∧k = !xs.isEmpty)∨(∃xs,jc K H p xs∧k = !xs.isEmpty)∨∃dj,H p=some (.dK dj)∧k = !dj.isEmpty
 | _=>False
theorem TV{κ:Type}{dj:List (κ×V)}{vs:List (κ×Value)}(r:KV dj vs):(!vs.isEmpty) = !dj.isEmpty:=by cases r <;> rfl
theorem LJ{au:List Value}(r:Vals xs au):(!au.toArray.isEmpty) = !xs.isEmpty:=by cases r <;> simp
theorem zk:(sizeLine:Nat)<2 ^ 63:=by rw [sizeLine_eq];decide
theorem TY:Tx X (fun x H Q=>∃k,F0 X.K x H k∧Q k H):=by
 intro pins s σ H x v Q I rx h;obtain ⟨k,e,q⟩:=h;have hl:=zk;have hs:sizeLine=16777216:=sizeLine_eq;cases x with
 | aV=>cases rx;have e':k=false:=e;subst e';exact truthy_none ⟨H,I,q⟩
 | bl b=>cases rx;have e':k=b:=e;subst e';exact mf ⟨H,I,q⟩
 | int i=>obtain ⟨t,rfl⟩:=rx;have e':k=(i != 0):=e;subst e';exact PySem.P.truthy_int ⟨H,I,q⟩
 | str y=>obtain ⟨t,rfl⟩:=rx;obtain ⟨hy,e'⟩:y.length≤sizeLine∧k=((y.length:Int) != 0):=e;subst e';exact PySem.P.truthy_str (by lia) ⟨H,I.tok _,q⟩
 | i_ y=>obtain ⟨t,rfl⟩:=rx;obtain ⟨hy,e'⟩:y.size≤sizeLine∧k=((y.size:Int) != 0):=e;subst e';exact PySem.W.truthy_bytes (by lia) ⟨H,I.tok _,q⟩
 | ref p=>
  cases rx;have e':(∃xs,cu X.K H p xs∧k = !xs.isEmpty)∨(∃xs,jc X.K H p xs∧k = !xs.isEmpty)∨∃dj,H p=some (.dK dj)∧k = !dj.isEmpty:=e;rcases e' with ⟨xs,hx,e'⟩ | ⟨xs,hx,e'⟩ | ⟨dj,hx,e'⟩
  ·subst e'
   obtain ⟨au,r,pl,hz⟩:=I.list hx;have hlen:=r.length;exact wpAny_truthy_list pl.isList (by simp only [eQ];lia) ⟨H,I.tok _,by rw [LJ r];exact q⟩
  ·subst e'
   obtain ⟨au,r,pl,hz⟩:=I.tuple hx;have hlen:=r.length;exact truthy_tuple pl (by simp only [eQ];lia) ⟨H,I.tok _,by rw [LJ r];exact q⟩
  ·subst e'
   obtain ⟨hz,hS,vs,r,m⟩:dj.length≤sizeLine∧(p == sysModules)=false∧∃vs,KV dj vs∧s.heap.DictOf (FC X.prog X.w) p vs:=I.aF p _ hx;have hlen:dj.length=vs.length:=Paired.length r;exact wpAny_truthy_dict hS m (by lia) ⟨H,I.tok _,by rw [TV r];exact q⟩
 | _=>exact (show False from e).elim
theorem qO(ha:PE X a ta)(he:∀whole,isTrue a X.env whole=(do let v ←whole;standAt a.pos;holding [v] (truthy v))) :
  PT X a (fun σ H Q=>ta σ H fun x H'=>∃k,F0 X.K x H' k∧Q k H'):=by
 intro pins s σ H Q I h
 exact isTrue_plain (aS (ha pins s σ H _ I h) fun v s1 ⟨x,H1,I1,r1,q1⟩=>TY pins s1 σ H1 x v Q I1 r1 q1) (he _)
theorem vals1(r:Vals [x] us):∃u,us=[u]∧RelV x u:=by
 cases r with
 | cons r1 r2=>cases r2;exact ⟨_,rfl,r1⟩
theorem vals2{y:V}(r:Vals [x,y] us):∃u w',us=[u,w']∧RelV x u∧RelV y w':=by
 cases r with
 | cons r1 r2=>
  cases r2 with
  | cons r3 r4=>cases r4;exact ⟨_,_,rfl,r1,r3⟩
theorem B3:iV X (.builtin "abs") (fun xs H Q=>∃i,xs=[.int i]∧Q (.int (if i<0 then -i else i)) H):=by intro pins s σ H xs us Q I r h;obtain ⟨i,rfl,q⟩:=h;obtain ⟨u,rfl,t,rfl⟩:=vals1 r;exact call_abs_int fun u tk=>⟨.int (if i<0 then -i else i),H,I.tok _,⟨_,rfl⟩,q⟩
theorem TZ(hc:X.calm=true):iV X (.builtin "min") (fun xs H Q=>∃i j,xs=[.int i,.int j]∧Q (.int (if j<i then j else i)) H):=by
 intro pins s σ H xs us Q I r h;obtain ⟨i,j,rfl,q⟩:=h;obtain ⟨u,w',rfl,⟨t,rfl⟩,⟨t',rfl⟩⟩:=vals2 r;refine min_two_ints (I.ok.hd hc) fun h' tk k=>⟨_,H,I.kept k,?_,q⟩;by_cases hj:j<i;·rw [ak hj,ak hj];exact ⟨_,rfl⟩
 ·rw [aj hj,aj hj];exact ⟨_,rfl⟩
theorem LK:iV X (.type "int") (fun xs H Q=>(∃i,xs=[.int i]∧Q (.int i) H)∨∃k,xs=[.bl k]∧Q (.int (if k then 1 else 0)) H):=by
 intro pins s σ H xs us Q I r h;rcases h with ⟨i,rfl,q⟩ | ⟨k,rfl,q⟩
 ·obtain ⟨u,rfl,t,rfl⟩:=vals1 r
  exact call_int_int ⟨.int i,H,I,⟨_,rfl⟩,q⟩
 ·obtain ⟨u,rfl,r1⟩:=vals1 r
  cases r1;exact call_int_bool ⟨.int (if k then 1 else 0),H,I.tok _,⟨_,rfl⟩,q⟩
end
structure qP (h:Heap) (x dx C:Addr) (mA:d8):Prop where
 obj:h.get? x=some (PySem.W.instObj C dx)
 ns:h.Ns1 dx mA
 ne:dx≠x
variable {dx:Addr} {mA:d8}
theorem T1(n:h.Ns1 dx mA):∃od,h.get? dx=some od∧∀name,PySem.W.lookIn name od=some (mA name):=by
 obtain ⟨o,es,ep,ho,hd,hk,_,hm⟩:=n;refine ⟨o,ho,fun name=>?_⟩;have e:=hm name;unfold nsFind findBy at e;rw [←Array.find?_toList] at e;unfold PySem.W.lookIn;rw [hd];dsimp only
 split
 ·rename_i y q
  rw [q] at e;exact fK some e
 ·rename_i q
  rw [q] at e;have a:es.toList.any (·.refKey)=false:=by rw [List.any_eq_false];intro y hy;obtain ⟨z,t,T2⟩:=hk y (Array.mem_toList_iff.mp hy);simp [DictEntry.refKey,T2]
  have a':¬es.toList.any (·.refKey)=true:=by rw [a];exact dW
  rw [aj a'];exact fK some e
variable {C:Addr}
theorem qP.look{x:Addr}(I:qP h x dx C mA):∃od,PySem.W.InstAt h x (PySem.W.instObj C dx) C (some od)∧∀name,PySem.W.lookIn name od=some (mA name):=
 let ⟨od,ho,hl⟩:=T1 I.ns
 ⟨od,⟨I.obj,rfl,rfl,ho⟩,hl⟩
section
variable {prog:Program} {w:World} {A:Around} {E:cV} {s:Shared} {K:aL} {x dx C f:Addr} {mA:d8} {name:Str} {v:Value}
theorem get_map{expr:Bool}{Q:cV}(X:K.In s.heap)(I:qP s.heap x dx C mA)(hg:PySem.W.plainGet K C name=true)(hh:PySem.W.hasDictIn K C=true)
  (ha:PySem.W.findIn K (.ref C) name=some none) (hv:mA name=some v) (fc:PySem.W.handedIn v=true) (h:Q v {s with toks:=s.toks+1}) :
  wpAny (model prog w) A (getAttr (.ref x) name expr) Q E s:=by
 obtain ⟨od,J,hl⟩:=I.look;exact PySem.W.get_value X J (PySem.W.plainGet_of hg).1 (PySem.W.findObj_own hh ha rfl (by rw [hl,hv])) fc h
theorem T3{pl:Sem Bool}{Q:Value×List Value→Shared→Prop}(X:K.In s.heap)(I:qP s.heap x dx C mA)(hg:PySem.W.plainGet K C name=true)
  (hf:PySem.W.findIn K (.ref C) name=some (some (.ref f))) (ht:PySem.W.isFn K (.ref f)=true) (hv:mA name=none) (h:Q (.ref f,[.ref x]) s) :
  wpAny (model prog w) A (getMethod (.ref x) name pl) Q E s:=by
 obtain ⟨od,J,hl⟩:=I.look;exact PySem.W.method_fn X J (PySem.W.plainGet_of hg).1 (PySem.W.plainGet_of hg).2 hf (oZ.mp ht) (by show (PySem.W.lookIn name od).map (·.isSome)=some false;rw [hl,hv];rfl) h
theorem T4{ns:List Str}{Q:Unit→Shared→Prop}(X:K.In s.heap)(I:qP s.heap x dx C mA)
  (hs:PySem.W.findIn K (.ref C) "__setattr__"=some (some (.builtin "object.__setattr__"))) (hp:PySem.W.plainOver K C=true) (ht:PySem.W.takerIn K C name=some none) (hh:PySem.W.hasDictIn K C=true)
  (hw:PySem.Within mA ns) (LM:ns.length≤sizeLine)
  (h:∀h',qP h' x dx C (fun y=>if y=name then some v else mA y)→Heap.SameBut dx s.heap h'→Q () {s with heap:=h',toks:=s.toks+2}) :
  wpAny (model prog w) A (setAttr (.ref x) name v) Q E s:=by
 obtain ⟨od,J,hl⟩:=I.look;refine PySem.W.set_plain X J hs (PySem.W.osa_open (s:={s with toks:=s.toks+1}) (r:=none) X J hp ht fun b=>?_);obtain ⟨cd,hc,FD⟩:=PySem.W.any_some hh;have hx:s.heap.get? x=some ⟨.ref C,some dx,.plain,#[]⟩:=I.obj;refine cS (e8 (cS (cS (wpAny_loadPart hx (cS (PySem.W.Looks.here (s:={s with toks:=s.toks+1}) (PySem.W.looks_clsIn X hc) ?_))))));rw [FD];refine e8 (a:=some dx) (cS (e8 (cS ?_)));refine wpAny_nsSet1 (s:={s with toks:=s.toks+1}) I.ns fun h' u9 mO=>?_;obtain ⟨oD,esD,epD,T5,T6,T7⟩:=u9.count (PySem.Within.cons name v hw);refine cS (wpAny_lookBehind T5 (by rw [T6];exact pastItsLine_dict (av T7 (by rw [dN];lia))) ?_)
 exact e8 (h _ ⟨(mO.2 _ (Ne.symm I.ne)).trans I.obj,u9,I.ne⟩ mO)
theorem T8{R:Result→Shared→Prop}{vs:List Value}{kw:List (Str×Value)}(X:K.In s.heap)(hm:PySem.W.makesIn K C=true)
  (hi:PySem.W.findIn K (.ref C) "__init__"=some (some (.ref f))) (hf:PySem.W.typeIn K (.ref f)=some (.type "function"))
  (h:codeAny (model prog w) (A.under (.builtin "type.__call__" ⟨.ref C::vs,kw⟩)) (.call (.ref f) ⟨.ref (s.heap.objs.size+1)::vs,kw⟩) (PySem.W.InitBack (s.heap.objs.size+1) R)
   {s with heap:=(s.heap.push PySem.W.emptyDict).push (PySem.W.instObj C s.heap.objs.size)}) :
  codeAny (model prog w) A (.call (.ref C) ⟨vs,kw⟩) R s:=by
 obtain ⟨hh,g,d,t,os⟩:=s;exact PySem.W.make_core (PySem.W.makes_of X hm) (Bn X hi) (fun self=>PySem.W.bind_fn X self hf) (.inl rfl) h
end
def iH(f:Str)(v:V):List (Str×V)→List (Str×V)
 | []=>[(f,v)]
 | (g,x)::r=>if g=f then (g,v)::r else (g,x)::iH f v r
theorem LN(f g:Str)(v:V):∀fs:List (Str×V),(iH f v fs).lookup g=if g=f then some v else fs.lookup g
 | []=>by
  show List.lookup g [(f,v)]=_;by_cases h:g=f
  ·have hb:(g == f)=true:=oZ.mpr h
   simp only [List.lookup,hb,ak h]
  ·have hb:(g == f)=false:=m_.mpr h
   simp only [List.lookup,hb,aj h]
 | (k,x)::r=>by
  have ih:=LN f g v r;rw [show iH f v ((k,x)::r)=(if k=f then (k,v)::r else (k,x)::iH f v r) from rfl]
  by_cases hk:k=f
  ·rw [ak hk]
   by_cases h:g=k
   ·have hb:(g == k)=true:=oZ.mpr h
    simp only [List.lookup,hb,ak (h.trans hk)]
   ·have hb:(g == k)=false:=m_.mpr h
    simp only [List.lookup,hb,aj (fun e:g=f=>h (e.trans hk.symm))]
  ·rw [aj hk]
   by_cases h:g=k
   ·have hb:(g == k)=true:=oZ.mpr h
    simp only [List.lookup,hb,aj (fun e:g=f=>hk (h.symm.trans e))]
   ·have hb:(g == k)=false:=m_.mpr h
    simp only [List.lookup,hb];exact ih
theorem F3(f:Str)(v:V):∀fs:List (Str×V),f∈(iH f v fs).map (·.1)∧∀g,g∈fs.map (·.1)→g∈(iH f v fs).map (·.1)
 | []=>⟨by simp [iH],fun g h=>by simp at h⟩
 | (k,x)::r=>by
  obtain ⟨i1,i2⟩:=F3 f v r;rw [show iH f v ((k,x)::r)=(if k=f then (k,v)::r else (k,x)::iH f v r) from rfl]
  by_cases hk:k=f
  ·rw [ak hk]
   subst hk;exact ⟨by simp,fun g h=>by simpa using h⟩
  ·rw [aj hk]
   refine ⟨?_,fun g h=>?_⟩
   ·rw [iP]
    exact ia _ i1
   ·rw [iP] at h ⊢
    rcases fg.mp h with e | e;·exact fg.mpr (.inl e)
    ·exact ia _ (i2 g e)
theorem LO(f:Str)(v:V):∀fs:List (Str×V),(iH f v fs).length≤fs.length+1
 | []=>by simp [iH]
 | (k,x)::r=>by
  have ih:=LO f v r;rw [show iH f v ((k,x)::r)=(if k=f then (k,v)::r else (k,x)::iH f v r) from rfl]
  by_cases hk:k=f;·rw [ak hk,dN,dN];lia
  ·rw [aj hk,dN,dN];lia
variable {v:V}
theorem mw.some_of{o:Option Value}(r:mw (some v) o):∃u,o=some u∧RelV v u:=by
 cases o with
 | none=>exact (show False from r).elim
 | some u=>exact ⟨u,rfl,r⟩
theorem mw.none_of{o:Option Value}(r:mw none o):o=none:=by
 cases o with
 | none=>rfl
 | some u=>exact (show False from r).elim
theorem T9(r:RelV v u):PySem.W.handedIn u=true:=by
 cases v with
 | aV=>cases (show u=Value.none from r);rfl
 | bl b=>cases (show u=Value.bool b from r);rfl
 | int i=>obtain ⟨t,e⟩:=(show ∃t,u=Value.int i t from r);cases e;rfl
 | str x=>obtain ⟨t,e⟩:=(show ∃t,u=Value.str x t from r);cases e;rfl
 | i_ b=>obtain ⟨t,e⟩:=(show ∃t,u=Value.bytes b t from r);cases e;rfl
 | qI b=>obtain ⟨t,e⟩:=(show ∃t,u=Value.float b t from r);cases e;rfl
 | ref a=>cases (show u=Value.ref a from r);rfl
 | ty n=>cases (show u=Value.type n from r);rfl
section
variable {P:Program} {w:World} {H H':Hp} {h h':Heap} {a C dx:Addr} {fs SR:List (Str×V)}
theorem B4(aF:dQ P w H h)(e:H a=some (.ins C dx fs)):∃mA,qP h a dx C mA∧(∀f,mw (fs.lookup f) (mA f))∧PySem.Within mA (fs.map (·.1))∧fs.length≤1000∧H dx=some (.own a):=by obtain ⟨d,z,ne,ob,mA,n,r,q⟩:=(show fQ P w H h a (.ins C dx fs) from aF a _ e);exact ⟨mA,⟨ob,n,ne⟩,r,q,z,d⟩
end
structure lg (K:aL) (C:Addr):Prop where
 pg:PySem.W.plainGet K C Str.empty=true
 hd:PySem.W.hasDictIn K C=true
 po:PySem.W.plainOver K C=true
 sa:PySem.W.findIn K (.ref C) "__setattr__"=some (some (.builtin "object.__setattr__"))
theorem lg.get{K:aL}{C:Addr}(c:lg K C)(f:Str):PySem.W.plainGet K C f=true:=c.pg
def qQ(K:aL)(C:Addr)(f:Str):Prop:=PySem.W.findIn K (.ref C) f=some none
theorem qQ.T_{f:Str}(n:qQ K C f):PySem.W.takerIn K C f=some none:=by unfold PySem.W.takerIn;rw [show PySem.W.findIn K (.ref C) f=some none from n];rfl
structure Meth (K:aL) (C:Addr) (m:Str) (f:Addr):Prop where
 at_:PySem.W.findIn K (.ref C) m=some (some (.ref f))
 fn:PySem.W.isFn K (.ref f)=true
 kp:PySem.W.keepIn K (.ref f)=true
section
variable {X:Cx} {pins:bS} {σ:St} {H:Hp} {s:Shared} {a C dx:Addr} {fs:List (Str×V)} {f:Str} {v:V} {A:Around} {E:cV}
variable {Q:cV}
theorem Ua{b:Bool}(I:Inv X pins σ H s)(e:H a=some (.ins C dx fs))(c:lg X.K C)(n:qQ X.K C f)(l:fs.lookup f=some v)
  (h:∀u s',Inv X pins σ H s'→RelV v u→Q u s'):wpAny (model X.prog X.w) A (getAttr (.ref a) f b) Q E s:=by
 obtain ⟨mA,O,r,_,_,_⟩:=B4 I.aF e;obtain ⟨u,hu,ru⟩:=mw.some_of (v:=v) (o:=mA f) (by rw [←l];exact r f)
 exact get_map I.e9 O (c.get f) c.hd n hu (T9 ru) (h u _ (I.tok _) ru)
theorem LQ{m:Str}{g:Addr}{pl:Sem Bool}{Q:Value×List Value→Shared→Prop}(I:Inv X pins σ H s)(e:H a=some (.ins C dx fs))(c:lg X.K C)(k:Meth X.K C m g)(l:fs.lookup m=none)
  (h:Q (.ref g,[.ref a]) s):wpAny (model X.prog X.w) A (getMethod (.ref a) m pl) Q E s:=by
 obtain ⟨mA,O,r,_,_,_⟩:=B4 I.aF e;have hn:mA m=none:=mw.none_of (by rw [←l];exact r m)
 exact T3 I.e9 O (c.get m) k.at_ k.fn hn h
theorem Ub{y:V}{Q:Unit→Shared→Prop}(I:Inv X pins σ H s)(e:H a=some (.ins C dx fs))(c:lg X.K C)(n:qQ X.K C f)(hl:fs.length<1000)(ry:RelV y u)
  (h:∀s',Inv X pins σ (upd H a (.ins C dx (iH f y fs))) s'→Q () s'):wpAny (model X.prog X.w) A (setAttr (.ref a) f u) Q E s:=by
 obtain ⟨mA,O,r,wi,_,ho⟩:=B4 I.aF e;have hz:(fs.map (·.1)).length≤sizeLine:=by rw [aY,sizeLine_eq];lia
 refine T4 I.e9 O c.sa c.po n.T_ c.hd wi hz fun h' O' sb=>h _ ?_;have hd:∃o,h'.get? dx=some o:=let ⟨o,_,_,e',_⟩:=O'.ns;⟨o,e'⟩
 refine I.write (x:=a) (e:=dx) (by rw [e];exact True.intro) (.inr ho) (fun b q hb z=>(sb.2 b hb).trans z) hd ?_
 refine ⟨by rw [bE O.ne];exact ho,?_,O.ne,O'.obj,_,O'.ns,fun g=>?_,fun g hg=>?_⟩
 ·have:=LO f y fs;lia
 ·show mw ((iH f y fs).lookup g) (if g=f then some u else mA g)
  rw [LN];by_cases q:g=f;·rw [ak q,ak q];exact ry
  ·rw [aj q,aj q];exact r g
 ·by_cases q:g=f
  ·rw [q];exact (F3 f y fs).1
  ·refine (F3 f y fs).2 g (wi g fun z=>hg ?_)
   show (if g=f then some u else mA g)=none
   rw [aj q];exact z
theorem Inv.made(I:Inv X pins σ H s):Inv X pins σ (upd (upd H s.heap.objs.size (.own (s.heap.objs.size+1))) (s.heap.objs.size+1) (.ins C s.heap.objs.size []))
  {s with heap:=(s.heap.push PySem.W.emptyDict).push (PySem.W.instObj C s.heap.objs.size)}:=by
 have e1:(s.heap.push PySem.W.emptyDict).get? s.heap.objs.size=some PySem.W.emptyDict:=gq s.heap rfl;have e2:((s.heap.push PySem.W.emptyDict).push (PySem.W.instObj C s.heap.objs.size)).get? (s.heap.objs.size+1)=some (PySem.W.instObj C s.heap.objs.size):=by
  have:=gq (s.heap.push PySem.W.emptyDict) (o:=PySem.W.instObj C s.heap.objs.size) rfl
  rwa [uN] at this
 have e3:(s.heap.push PySem.W.emptyDict).Ns s.heap.objs.size (fun _=>none):=⟨PySem.W.emptyDict,#[],_,e1,rfl,(fun e he=>absurd he (by simp)),fun _=>rfl⟩
 have I1:=I.laid (a:=s.heap.objs.size) (o:=.own (s.heap.objs.size+1)) (h':=s.heap.push PySem.W.emptyDict) (t':=s.toks) (fun b u q=>df _ q) (aI _) ⟨_,e1⟩;refine I1.laid (a:=s.heap.objs.size+1) (o:=.ins C s.heap.objs.size []) (t':=s.toks) (fun b u q=>df _ q) (jy (uN _ _)) ?_;have ne:s.heap.objs.size≠s.heap.objs.size+1:=fG (Nat.lt_succ_self _);refine ⟨by rw [bE ne,aM],fh _,ne,e2,fun _=>none,(Heap.Ns1.of_empty e3).at fun o q=>df _ q,fun _=>True.intro,fun y hy=>absurd rfl hy⟩
theorem Uc{prog:Program}{env:Env}{e:Expr}{pos:Pos}(hb:attributeBase e f env (eval e env)=eval e env)
  (h:wpAny (model prog w) A (eval e env) (fun o s₁=>wpAny (model prog w) A (getAttr o f true) Q E s₁) E s):wpAny (model prog w) A (eval (.Attribute e f pos) env) Q E s:=
 Attribute_any_ h (by rw [arm_eval_Attribute,hb])
end
def LR(K:aL)(ta:TE)(f:Str):TE:=fun σ H Q=>ta σ H fun x H1=>∃a C dx fs v,x=.ref a∧H1 a=some (.ins C dx fs)∧lg K C∧qQ K C f∧fs.lookup f=some v∧Q v H1
def Ud(K:aL)(ta tv:TE)(f:Str):TS:=fun D σ H=>tv σ H fun y H1=>ta σ H1 fun x H2=>∃a C dx fs,x=.ref a∧H2 a=some (.ins C dx fs)∧lg K C∧qQ K C f∧fs.length<1000 ∧
 D.nx σ (upd H2 a (.ins C dx (iH f y fs)))
section
variable {X:Cx} {o e value:Expr} {f:Str} {pos pos' LS:Pos} {ta tv:TE}
theorem nY(he:PE X e ta)(hb:attributeBase e f X.env (eval e X.env)=eval e X.env):PE X (.Attribute e f pos) (LR X.K ta f):=by intro pins s σ H Q I h;refine Uc hb (aS (he pins s σ H _ I h) fun u s1 ⟨x,H1,I1,rx,a,C,dx,fs,v,ex,ea,c,n,l,q⟩=>?_);subst ex;obtain rfl:u=Value.ref a:=rx;exact Ua I1 ea c n l fun u' s2 I2 ru=>⟨v,H1,I2,ru,q⟩
theorem LU(ha:PE X o ta)(hv:PE X value tv)(hs:swapsWith value (some (.Attribute o f pos')) pos.line X.env=pure false):PS X (.Assign [.Attribute o f pos'] value pos) (Ud X.K ta tv f):=by intro pins s σ H D I h;refine plainObj_wpAny_Assign_Attribute (aS (hv pins s σ H _ I h) fun u s1 ⟨y,H1,I1,ry,q⟩=>aS (ha pins s1 σ H1 _ I1 q) fun ov s2 ⟨x,H2,I2,rx,a,C,dx,fs,ex,ea,c,n,l,q2⟩=>?_) hs;subst ex;obtain rfl:ov=Value.ref a:=rx;exact Ub I2 ea c n l ry fun s3 I3=>⟨σ,_,I3,q2⟩
theorem aiE{pl:Sem Bool}{m:Str}{apos:Pos}{args:List Expr}{pins:bS}{Q:cV}{te:TE}(he:PE X e te)(I:Inv X pins σ H s)
  (h:te σ H fun x H1=>∃a C dx fs g,x=.ref a∧H1 a=some (.ins C dx fs)∧lg X.K C∧Meth X.K C m g∧fs.lookup m=none ∧
   ∀s1,Inv X pins σ H1 s1→wpAny (model X.prog X.w) X.A (callWith pos (.ref g) [.ref a] (backTo pos (starEach args X.env)) (backToKw pos (keywordEach [] X.env))) Q X.xe s1)
  (ht:eval (.Call (.Attribute e m apos) args [] pos) X.env=(do
   let ov ←eval e X.env
   standAt apos.atName
   let (f,first) ←holding [ov] (getMethod ov m pl)
   callWith pos f first (backTo pos (starEach args X.env)) (backToKw pos (keywordEach [] X.env)))) :
  wpAny (model X.prog X.w) X.A (eval (.Call (.Attribute e m apos) args [] pos) X.env) Q X.xe s:=by
 refine PySem.W.methodCall_KW (pl:=pl) (aS (he pins s σ H _ I h) fun u s1 ⟨x,H1,I1,rx,a,C,dx,fs,g,ex,ea,c,k,l,q⟩=>?_) ht
 subst ex
 obtain rfl:u=Value.ref a:=rx
 exact LQ I1 ea c k l (q s1 I1)
end
section
variable {X:Cx} {pins:bS} {σ:St} {H:Hp} {s:Shared} {A:Around} {E:cV} {Q:cV} {c:Value} {b:Bool}
inductive jO (K:aL) (H:Hp):V→Value→Prop where
 | aV:jO K H .aV (.type "NoneType")
 | bl (x:Bool):jO K H (.bl x) (.type "bool")
 | int (i:Int):jO K H (.int i) (.type "int")
 | str (x:Str):jO K H (.str x) (.type "str")
 | qI (x:UInt64):jO K H (.qI x) (.type "float")
 | lst {a:Addr} {xs:List V} (e:H a=some (.lst xs)):jO K H (.ref a) (.type "list")
 | iD {a:Addr} {o:Obj} {xs:List V} (e:H a=some (.iD o (.lst xs))):jO K H (.ref a) (.type "list")
 | tup {a:Addr} {xs:List V} (e:H a=some (.tup xs)):jO K H (.ref a) (.type "tuple")
 | dK {a:Addr} {dj:List (Key×V)} (e:H a=some (.dK dj)):jO K H (.ref a) (.type "dict")
 | dT {a:Addr} {dj:List (List Key×V)} (e:H a=some (.dT dj)):jO K H (.ref a) (.type "dict")
 | ins {a C dx:Addr} {fs:List (Str×V)} (e:H a=some (.ins C dx fs)) (cl:lg K C) (ha:PySem.W.findIn K (.ref C) "__class__"=some (some (.builtin "object.__class__")))
   (hn:PySem.W.specialIn K (.builtin "object.__class__") "__get__"=some (some (.builtin "getset_descriptor.__get__"))) (LV:PySem.W.takesIn K (.builtin "object.__class__")=some true)
   (hm:PySem.W.mroIn K C (.type "object")=some true):jO K H (.ref a) (.ref C)
theorem Ue{t:Value}(I:Inv X pins σ H s)(rx:RelV x u)(ty:jO X.K H x t)(e:PySem.W.kitOne X.K t c=some b)(h:∀tk,Q (.bool b) {s with toks:=tk}) :
  wpAny (model X.prog X.w) A (call (.builtin "isinstance") [u,c]) Q E s:=by
 cases ty with
 | aV=>cases (show u=Value.none from rx);exact jz PySem.W.kitx_none I.e9 True.intro e (fun z=>nomatch z) h
 | bl y=>cases (show u=Value.bool y from rx);exact jz PySem.W.kitx_bool I.e9 True.intro e (fun z=>nomatch z) h
 | int i=>obtain ⟨t,q⟩:=(show ∃t,u=Value.int i t from rx);cases q;exact jz PySem.W.kitx_int I.e9 True.intro e (fun z=>nomatch z) h
 | str y=>obtain ⟨t,q⟩:=(show ∃t,u=Value.str y t from rx);cases q;exact jz PySem.W.kitx_str I.e9 True.intro e (fun z=>nomatch z) h
 | qI y=>obtain ⟨t,q⟩:=(show ∃t,u=Value.float y t from rx);cases q;exact jz PySem.W.kitx_float I.e9 True.intro e (fun z=>nomatch z) h
 | @lst a xs ea=>cases (show u=Value.ref a from rx);obtain ⟨_,_,n,_,h1⟩:=(show fQ X.prog X.w H s.heap a (.lst xs) from I.aF a _ ea);exact jz PySem.W.kitx_list I.e9 ⟨_,h1,rfl⟩ e (fun z=>nomatch z) h
 | @iD a ob xs ea=>cases (show u=Value.ref a from rx);obtain ⟨_,_,_,n,_,h1⟩:=(show fQ X.prog X.w H s.heap a (.iD ob (.lst xs)) from I.aF a _ ea);exact jz PySem.W.kitx_list I.e9 ⟨_,h1,rfl⟩ e (fun z=>nomatch z) h
 | @tup a xs ea=>cases (show u=Value.ref a from rx);obtain ⟨_,_,_,p⟩:=(show fQ X.prog X.w H s.heap a (.tup xs) from I.aF a _ ea);obtain ⟨o,h1,h2,_⟩:=p;exact jz PySem.W.kitx_tuple I.e9 ⟨o,h1,h2⟩ e (fun z=>nomatch z) h
 | @dK a dj ea=>cases (show u=Value.ref a from rx);obtain ⟨_,_,vs,_,p⟩:=(show fQ X.prog X.w H s.heap a (.dK dj) from I.aF a _ ea);obtain ⟨o,es,ep,h1,h2,_⟩:=p;exact jz PySem.W.kitx_dict I.e9 ⟨o,h1,h2.1⟩ e (fun z=>nomatch z) h
 | @dT a dj ea=>cases (show u=Value.ref a from rx);obtain ⟨_,_,xs,_,o,es,ep,h1,h2,_⟩:=(show fQ X.prog X.w H s.heap a (.dT dj) from I.aF a _ ea);exact jz PySem.W.kitx_dict I.e9 ⟨o,h1,h2.1⟩ e (fun z=>nomatch z) h
 | @ins a C dx fs ea cl ha hn LV hm=>cases (show u=Value.ref a from rx);obtain ⟨mA,O,_⟩:=B4 I.aF ea;obtain ⟨od,J,_⟩:=O.look;exact jz (PySem.W.kitx_own (cl.get _) cl.hd ha hn LV hm) I.e9 J e (fun z=>nomatch z) h
end
structure eF (k:Nat) (A:Around):Prop where
 hd:A.handled=none
 dp:A.depth+3*k+5<recursionLimit
 un:A.units+16*k+200<cLine
variable {k:Nat}
theorem eF.mono{j:Nat}(r:eF k A)(h:j≤k):eF j A:=⟨r.hd,by have:=r.dp;lia,by have:=r.un;lia⟩
theorem eF.deeper(r:eF (k+1) A)(env:Env):eF k (A.deeper env):=
 ⟨r.hd,by have:=r.dp;show A.depth+1+3*k+5<_;lia,by have:=r.un;show A.units+3+16*k+200<_;lia⟩
variable {kw:List (Str×Value)}
theorem Ug:(A.under (.builtin "type.__call__" ⟨.ref C::us,kw⟩)).depth=A.depth+1:=by first | rfl | simp [Around.under,Code.weight,Code.isCreation,Code.isGuard,Code.isCaller,Code.frames,Code.isFrame,guardIds]
theorem Uh:(A.under (.builtin "type.__call__" ⟨.ref C::us,kw⟩)).units=A.units+1:=by first | rfl | simp [Around.under,Code.cUnits,Code.frames,Code.isFrame]
theorem eF.make(r:eF (k+1) A)(C:Addr)(us:List Value)(kw:List (Str×Value)):eF k (A.under (.builtin "type.__call__" ⟨.ref C::us,kw⟩)):=
 ⟨r.hd,by have:=r.dp;rw [Ug];lia,by have:=r.un;rw [Uh];lia⟩
theorem eF.depth(r:eF k A):A.depth<recursionLimit:=by have:=r.dp;lia
theorem eF.units(r:eF k A):A.units+64<cLine:=by have:=r.un;lia
def LW:TA:=fun _ H Q=>Q [] H
def zl(ta:TE)(tr:TA):TA:=fun σ H Q=>ta σ H fun x H1=>tr σ H1 fun xs H2=>Q (x::xs) H2
section
variable {X:Cx} {e:Expr} {es:List Expr} {te:TE} {t:TA} {pos:Pos}
theorem ah:PA X [] LW:=fun _ _ _ _ H Q I h=>Calls.spliced_nil ⟨[],H,I,.nil,h⟩
theorem Ui(ha:PE X e te)(hr:PA X es t)(hs:starEach (e::es) X.env=(false,eval e X.env)::starEach es X.env:=by rfl):PA X (e::es) (zl te t):=by intro pos pins s σ H Q I h;rw [hs];show wpAny _ _ (spliced ((false,eval e X.env)::backTo pos (starEach es X.env))) _ _ s;refine Calls.spliced_cons (aS (ha pins s σ H _ I h) fun u s1 ⟨x,H1,I1,r1,q1⟩=>?_);exact aS (hr pos pins s1 σ H1 _ I1 q1) fun us s2 ⟨xs,H2,I2,r2,q2⟩=>⟨x::xs,H2,I2,.cons r1 r2,q2⟩
def LX(t:TA):TE:=fun σ H Q=>t σ H fun xs H1=>xs.length≤sizeLine∧∀p,H1 p=none→Q (.ref p) (upd H1 p (.tup xs))
def Uj(t:TA):TE:=fun σ H Q=>t σ H fun xs H1=>xs.length≤sizeLine∧∀p,H1 p=none→Q (.ref p) (upd H1 p (.lst xs))
theorem jf{x1}(h:PA X es t):PE X (.Tuple es x1 pos) (LX t):=by
 intro pins s σ H Q I hq;refine wpAny_Tuple_spliced (aS (h pos pins s σ H _ I hq) fun us s1 ⟨xs,H1,I1,r,z,q⟩=>⟨by rw [←r.length];exact z,?_⟩)
 have hf:H1 s1.heap.objs.size=none:=I1.aF.fresh (aI _);refine ⟨.ref s1.heap.objs.size,upd H1 s1.heap.objs.size (.tup xs),I1.laid (t':=s1.toks) (fun b u e=>df _ e) (aI _) ?_,rfl,q _ hf⟩;exact ⟨z,us,r,⟨_,gq _ rfl,rfl,_,rfl⟩⟩
theorem gH(h:PA X es t):PE X (.List es pos) (Uj t):=by
 intro pins s σ H Q I hq;refine wpAny_List_spliced (aS (h pos pins s σ H _ I hq) fun us s1 ⟨xs,H1,I1,r,z,q⟩=>⟨by rw [←r.length];exact z,?_⟩)
 have hf:H1 s1.heap.objs.size=none:=I1.aF.fresh (aI _);refine ⟨.ref s1.heap.objs.size,upd H1 s1.heap.objs.size (.lst xs),I1.laid (t':=s1.toks) (fun b u e=>df _ e) (aI _) ?_,rfl,q _ hf⟩;exact ⟨z,us,0,r,gq _ rfl⟩
end
abbrev Sp:=List V→Hp→VK→XK→Prop
abbrev iW:=List Env→Hp→Shared→XK→Value→Shared→Prop
structure qR (P:Program) (w:World) (K:aL) (mg:d8) (base:Heap) (A:Around) (outer:List Env) (s:Shared) (H:Hp):Prop where
 frames:A.frames=some outer
 mod:Mod K mg base
 bs:∀b o,base.get? b=some o→s.heap.get? b=some o∧H b=none
 gE:base.objs.size≤s.heap.objs.size
 kx:s.heap.FunFrames base outer
 nR:∀b∈dy outer,H b=none
 aF:dQ P w H s.heap
 bare:AllBare s.gens
def CE(outer:List Env)(P:Program)(w:World)(H:Hp)(s:Shared)(Q:VK)(u:Value)(s':Shared):Prop:=
 ∃v H',s'.os=s.os∧AllBare s'.gens∧Un (dy outer) [] H H' s.heap s'.heap∧dQ P w H' s'.heap∧RelV v u∧Q v H'
def CR(CX:iW)(outer:List Env)(P:Program)(w:World)(H:Hp)(s:Shared)(Q:VK)(E:XK)(r:Result)(s':Shared):Prop:=
 match r with
 | .ok (.ret u)=>CE outer P w H s Q u s'
 | .ok _=>False
 | .error e=>CX outer H s E e s'
structure aK (P:Program) (w:World) (K:aL) (mg:d8) (base:Heap) (CX:iW) (k:Nat) (f:Addr) (fd:FuncData) (ps:List Str) (sp:Sp):Prop where
 len:∀vs H Q E,sp vs H Q E→vs.length=ps.length
 run:∀(A:Around) (outer:List Env) (s:Shared) (H:Hp) (args:Args) (us:List Value) (vs:List V) (Q:VK) (E:XK),eF k A→qR P w K mg base A outer s H→BindsTo s fd args (ps.zip us)→Vals vs us→sp vs H Q E→
  codeAny (model P w) A (.call (.ref f) args) (CR CX outer P w H s Q E) s
variable {mg:d8} {base:Heap} {outer:List Env}
theorem qR.make(e:qR P w K mg base A outer s H)(C:Addr)(us:List Value)(kw:List (Str×Value)) :
  qR P w K mg base (A.under (.builtin "type.__call__" ⟨.ref C::us,kw⟩)) outer s H:=⟨by first | exact e.frames | (simpa [Around.under,Code.envs,Code.isFrame,pushEnvs] using e.frames),e.mod,e.bs,e.gE,e.kx,e.nR,e.aF,e.bare⟩
section
variable {X:Cx} {pins:bS} {σ:St} {H:Hp} {s s':Shared}
theorem Inv.LY(I:Inv X pins σ H s):qR X.prog X.w X.K X.mg X.base X.A X.stack s H:=
 ⟨I.ok.frames,I.ok.mod,I.bs,av I.ok.gE I.sz,I.stack,I.pf,I.aF,I.bare⟩
theorem Inv.after{Q:VK}(I:Inv X pins σ H s)(h:CE X.stack X.prog X.w H s Q u s'):EP X pins σ Q u s':=by obtain ⟨v,H',os,bare,un,aF,r,q⟩:=h;obtain ⟨hh,g,d,t,Uk⟩:=s';obtain rfl:Uk=s.os:=os;exact ⟨v,H',I.call (h':=hh) (g':=g) (d':=d) (t':=t) (ch:=[]) un aF bare (fun b z=>absurd z (by simp)),r,q⟩
end
def LZ(sp:Sp)(gz:List V)(E:XK)(t:TA):TE:=fun σ H Q=>t σ H fun vs H1=>sp (vs++gz) H1 Q E
def Ul(C:Addr)(m:Str)(sp:Sp)(gz:List V)(E:XK)(ta:TE)(t:TA):TE:=fun σ H Q=>ta σ H fun x H1=>∃a dx fs,x=.ref a∧H1 a=some (.ins C dx fs)∧fs.lookup m=none ∧
 t σ H1 fun vs H2=>sp (x::(vs++gz)) H2 Q E
def Um(C:Addr)(sp:Sp)(gz:List V)(E:XK)(t:TA):TE:=fun σ H Q=>t σ H fun vs H1=>∀x dx,H1 x=none→H1 dx=none→dx≠x→
 sp (.ref x::(vs++gz)) (upd (upd H1 dx (.own x)) x (.ins C dx [])) (fun v H2=>v=.aV∧Q (.ref x) H2) E
def Binds(K:aL)(fd:FuncData)(ps:List Str)(ds:List Value):Prop:=
 ∀(s:Shared) (us:List Value),K.In s.heap→(us++ds).length=ps.length→BindsTo s fd ⟨us,[]⟩ (ps.zip (us++ds))
variable {ps:List Str}
theorem Binds.all{fd:FuncData}(h:∀us:List Value,us.length=ps.length→bindArgs fd ⟨us,[]⟩=pure (ps.zip us)):Binds K fd ps []:=fun s us _ hl=>by rw [List.append_nil] at hl ⊢;exact .of_eq (h us hl)
def Passes(CX:iW)(X:Cx)(E:XK):Prop:=∀(pins:bS) (σ:St) (H:Hp) (s:Shared) (e:Value) (s':Shared),Inv X pins σ H s→CX X.stack H s E e s'→X.xe e s'
section
variable {X:Cx} {CX:iW} {k:Nat} {f C:Addr} {fd:FuncData} {ps:List Str} {sp:Sp} {gz:List V} {ds:List Value} {E:XK} {x m:Str} {p pos apos:Pos} {e o:Expr} {es:List Expr} {ta:TE} {t:TA}
variable {pins:bS} {Q:VK}
theorem L0{vs:List V}(F:aK X.prog X.w X.K X.mg X.base CX k f fd ps sp)(hr:eF k X.A)(hb:Binds X.K fd ps ds)(hd:Vals gz ds)(hx:Passes CX X E)
  (I:Inv X pins σ H s) (r:Vals vs us) (h:sp (vs++gz) H Q E):wpAny (model X.prog X.w) X.A (call (.ref f) us) (EP X pins σ Q) X.xe s:=by
 have r2:Vals (vs++gz) (us++ds):=r.append hd;have hl:(us++ds).length=ps.length:=by rw [←r2.length];exact F.len _ _ _ _ h
 refine wpAny_call (codeAny_mono (F.run X.A X.stack s H ⟨us,[]⟩ (us++ds) (vs++gz) Q E hr I.LY (hb s us I.e9 hl) r2 h) fun r s' hq=>?_);cases r with
 | error e=>exact hx pins σ H s e s' I hq
 | ok fl=>
  cases fl with
  | ret u=>exact I.after hq
  | next=>exact False.elim hq
  | brk=>exact False.elim hq
  | cont=>exact False.elim hq
theorem Uo(F:aK X.prog X.w X.K X.mg X.base CX k f fd ps sp)(hr:eF k X.A)(hg:Gl X x)(hm:X.mg x=some (.ref f))(hk:PySem.W.keepIn X.K (.ref f)=true)(hb:Binds X.K fd ps ds)(hd:Vals gz ds)(hx:Passes CX X E)
  (ha:PA X (e::es) t) (nZ:(x == ("__debug__":Str))=false:=by decide) (he:starEach (e::es) X.env=(false,eval e X.env)::starEach es X.env:=by rfl) (kD:(backTo pos (starEach es X.env)).any (·.1)=false:=by rfl) :
  PE X (.Call (.Name x p) (e::es) [] pos) (LZ sp gz E t):=by
 intro pins s σ H Q I h;refine Bp (BQ I hg hm ?_ nZ);refine PySem.W.callWith_K (h₀:=X.base) I.ok.mod.dZ hk (aS (ha pos pins s σ H _ I h) fun us s1 ⟨vs,H1,I1,r,q⟩=>⟨I1.e9,?_⟩) he kD;exact L0 F hr hb hd hx I1 r q
theorem aA{j:Nat}(F:aK X.prog X.w X.K X.mg X.base CX k f fd ps sp)(hr:eF j X.A)(hm:X.mg x=some (.ref f))(hk:PySem.W.keepIn X.K (.ref f)=true)(hb:Binds X.K fd ps [])(hx:Passes CX X E)
  (ha:PA X (e::es) t) (hj:k≤j:=by decide) (hg:Gl X x:=by exact rfl) (nZ:(x == ("__debug__":Str))=false:=by decide) (he:starEach (e::es) X.env=(false,eval e X.env)::starEach es X.env:=by rfl) (kD:(backTo pos (starEach es X.env)).any (·.1)=false:=by rfl) :
  PE X (.Call (.Name x p) (e::es) [] pos) (LZ sp [] E t):=Uo F (hr.mono hj) hg hm hk hb .nil hx ha nZ he kD
theorem n5{pl:Sem Bool}(he:PE X o ta)(c:lg X.K C)(hm:Meth X.K C m f)(F:aK X.prog X.w X.K X.mg X.base CX k f fd ps sp)(hr:eF k X.A)(hb:Binds X.K fd ps ds)(hd:Vals gz ds)(hx:Passes CX X E)(ha:PA X (e::es) t)
  (FO:starEach (e::es) X.env=(false,eval e X.env)::starEach es X.env:=by rfl) (kD:(backTo pos (starEach es X.env)).any (·.1)=false:=by rfl)
  (ht:eval (.Call (.Attribute o m apos) (e::es) [] pos) X.env=(do
   let ov ←eval o X.env
   standAt apos.atName
   let (f,first) ←holding [ov] (getMethod ov m pl)
   callWith pos f first (backTo pos (starEach (e::es) X.env)) (backToKw pos (keywordEach [] X.env))):=by rfl) :
  PE X (.Call (.Attribute o m apos) (e::es) [] pos) (Ul C m sp gz E ta t):=by
 intro pins s σ H Q I h
 refine PySem.W.methodCall_KW (pl:=pl) (aS (he pins s σ H _ I h) fun u s1 ⟨x,H1,I1,rx,a,dx,fs,ex,ea,l,q⟩=>?_) ht
 subst ex
 obtain rfl:u=Value.ref a:=rx
 refine LQ I1 ea c hm l ?_
 refine PySem.W.callWith_K (first:=[.ref a]) (h₀:=X.base) I.ok.mod.dZ hm.kp (aS (ha pos pins s1 σ H1 _ I1 q) fun us s2 ⟨vs,H2,I2,r,q2⟩=>⟨I2.e9,?_⟩) FO kD
 exact L0 (us:=.ref a::us) (vs:=.ref a::vs) F hr hb hd hx I2 (.cons rfl r) q2
structure Mk (K:aL) (C f:Addr):Prop where
 makes:PySem.W.makesIn K C=true
 init:PySem.W.findIn K (.ref C) "__init__"=some (some (.ref f))
 fn:PySem.W.isFn K (.ref f)=true
 kp:PySem.W.keepIn K (.ref C)=true
theorem Up{vs:List V}(M:Mk X.K C f)(F:aK X.prog X.w X.K X.mg X.base CX k f fd ps sp)(hr:eF (k+1) X.A)(hb:Binds X.K fd ps ds)(hd:Vals gz ds)
  (hx:Passes CX X E) (I:Inv X pins σ H s) (r:Vals vs us)
  (h:∀x dx,H x=none→H dx=none→dx≠x→sp (.ref x::(vs++gz)) (upd (upd H dx (.own x)) x (.ins C dx [])) (fun v H2=>v=.aV∧Q (.ref x) H2) E) :
  wpAny (model X.prog X.w) X.A (call (.ref C) us) (EP X pins σ Q) X.xe s:=by
 have hq:=h (s.heap.objs.size+1) s.heap.objs.size (I.aF.fresh (jA _)) (I.aF.fresh (aI _)) (fG (Nat.lt_succ_self _));have I2:=Inv.made (C:=C) I;have r2:Vals (V.ref (s.heap.objs.size+1)::(vs++gz)) (Value.ref (s.heap.objs.size+1)::(us++ds)):=.cons rfl (r.append hd);have hl:(Value.ref (s.heap.objs.size+1)::us++ds).length=ps.length:=by have e:=r2.length;rw [F.len _ _ _ _ hq] at e;exact e.symm
 refine wpAny_call (T8 (f:=f) I.e9 M.makes M.init (oZ.mp M.fn) (codeAny_mono (F.run _ X.stack _ _ ⟨Value.ref (s.heap.objs.size+1)::us,[]⟩ (Value.ref (s.heap.objs.size+1)::(us++ds)) _ _ E (hr.make C us [])
  (I2.LY.make C us []) (hb _ (Value.ref (s.heap.objs.size+1)::us) I2.e9 hl) r2 hq) fun r s' n6=>?_))
 cases r with
 | error e=>exact hx pins σ _ _ e s' I2 n6
 | ok fl=>
  cases fl with
  | ret u=>obtain ⟨v,H',I3,rv,ev,q3⟩:=I2.after n6;subst ev;exact ⟨rv,⟨V.ref (s.heap.objs.size+1),H',I3,rfl,q3⟩⟩
  | next=>exact False.elim n6
  | brk=>exact False.elim n6
  | cont=>exact False.elim n6
theorem L3(M:Mk X.K C f)(F:aK X.prog X.w X.K X.mg X.base CX k f fd ps sp)(hr:eF (k+1) X.A)(hg:Gl X x)(hm:X.mg x=some (.ref C))(hb:Binds X.K fd ps ds)(hd:Vals gz ds)(hx:Passes CX X E)
  (ha:PA X (e::es) t) (nZ:(x == ("__debug__":Str))=false:=by decide) (he:starEach (e::es) X.env=(false,eval e X.env)::starEach es X.env:=by rfl) (kD:(backTo pos (starEach es X.env)).any (·.1)=false:=by rfl) :
  PE X (.Call (.Name x p) (e::es) [] pos) (Um C sp gz E t):=by
 intro pins s σ H Q I h;refine Bp (BQ I hg hm ?_ nZ);refine PySem.W.callWith_K (h₀:=X.base) I.ok.mod.dZ M.kp (aS (ha pos pins s σ H _ I h) fun us s1 ⟨vs,H1,I1,r,q⟩=>⟨I1.e9,?_⟩) he kD;exact Up M F hr hb hd hx I1 r q
end
section
variable {X:Cx} {CX:iW} {k:Nat} {f C:Addr} {fd:FuncData} {ps ks:List Str} {sp:Sp} {E:XK} {x m:Str} {p pos apos Uq:Pos} {e o:Expr} {es:List Expr} {kws:List Keyword} {te ta:TE} {t tk:TA} {nm:Option Str}
variable {g:List Value→List Value→List Value} {gV:List V→List V→List V}
end
structure br (N P:List Str) (sc:Scope):Prop where
 kind:sc.kind=.function
 co:sc.isCoroutine=false
 gen:sc.isGenerator=false
 nd:N.Nodup
 pre:N.take P.length=P
 par:∀x∈P,sc.names.lookup x=some .local∨sc.names.lookup x=some .cell
 Ur:∀y∈sc.names,y.2≠.free
variable {N:List Str} {sc:Scope}
theorem bJ{P:List Str}(h1:sc.kind=.function:=by rfl)(h2:sc.isCoroutine=false:=by rfl)(h3:sc.isGenerator=false:=by rfl)(h4:N.Nodup:=by decide +kernel)(h5:N.take P.length=P:=by rfl)(h6:∀x∈P,sc.names.lookup x=some .local∨sc.names.lookup x=some .cell:=by decide +kernel)(h7:∀y∈sc.names,y.2≠.free:=by decide +kernel):br N P sc:=⟨h1,h2,h3,h4,h5,h6,h7⟩
theorem L4{kindOf:Str→Option NameKind}{x:Str}:∀{binds:List (Str×Value)} {m:d8},(∀v,(x,v)∉binds)→bindL kindOf binds m x=m x
 | [],_,_=>rfl
 | (n,v)::r,m,h=>by
  unfold bindL;rw [L4 fun w hw=>h w (ia _ hw)]
  split
  ·have:x≠n:=by rintro rfl;exact h v i6
   simp [this]
  ·rfl
theorem L5{kindOf:Str→Option NameKind}{x:Str}:∀{binds:List (Str×Value)} {m:d8},(∀v,(x,v)∉binds)→bindC kindOf binds m x=m x
 | [],_,_=>rfl
 | (n,v)::r,m,h=>by
  unfold bindC;rw [L5 fun w hw=>h w (ia _ hw)]
  split
  ·rfl
  ·have:x≠n:=by rintro rfl;exact h v i6
   simp [this]
theorem L6{kindOf:Str→Option NameKind}{x:Str}{v:Value}:∀{P:List Str} {vs:List Value} {i:Nat} {m:d8},P.Nodup→P[i]?=some x→vs[i]?=some v→kindOf x=some .local→
  bindL kindOf (P.zip vs) m x=some v
 | [],_,_,_,_,h,_,_=>by simp at h
 | _::_,[],_,_,_,_,h,_=>by simp at h
 | p::P,w::vs,0,m,nd,h1,h2,hk=>by simp at h1 h2;subst h1;subst h2;show bindL kindOf ((p,w)::P.zip vs) m p=_;unfold bindL;rw [L4 fun v hv=>(Bq.mp nd).1 (yQ hv).1,ak hk];simp
 | p::P,w::vs,i+1,m,nd,h1,h2,hk=>by show bindL kindOf ((p,w)::P.zip vs) m x=_;unfold bindL;exact L6 (i:=i) (Bq.mp nd).2 (by simpa using h1) (by simpa using h2) hk
theorem L7{kindOf:Str→Option NameKind}{x:Str}{v:Value}:∀{P:List Str} {vs:List Value} {i:Nat} {m:d8},P.Nodup→P[i]?=some x→vs[i]?=some v→kindOf x≠some .local→
  bindC kindOf (P.zip vs) m x=some v
 | [],_,_,_,_,h,_,_=>by simp at h
 | _::_,[],_,_,_,_,h,_=>by simp at h
 | p::P,w::vs,0,m,nd,h1,h2,hk=>by simp at h1 h2;subst h1;subst h2;show bindC kindOf ((p,w)::P.zip vs) m p=_;unfold bindC;rw [L5 fun v hv=>(Bq.mp nd).1 (yQ hv).1,aj hk];simp
 | p::P,w::vs,i+1,m,nd,h1,h2,hk=>by show bindC kindOf ((p,w)::P.zip vs) m x=_;unfold bindC;exact L7 (i:=i) (Bq.mp nd).2 (by simpa using h1) (by simpa using h2) hk
def start(N:List Str)(vs:List V):St:=vs.map some++List.replicate (N.length-vs.length) none
def jP(CX:iW)(P:Program)(w:World)(K:aL)(mg:d8)(base:Heap)(N:List Str)(qual:Str)(scope:Scope)(f:Addr)(cd:Value)(A:Around)(outer:List Env)(s:Shared)(H:Hp)(E:XK):Cx where
 prog:=P
 w:=w
 K:=K
 mg:=mg
 base:=base
 A:=A.deeper (envOfC qual scope s.heap.objs.size f cd)
 N:=N
 s₀:=s
 H₀:=H
 env:=envOfC qual scope s.heap.objs.size f cd
 outer:=outer
 stack:=envOfC qual scope s.heap.objs.size f cd::outer
 ex:=[]
 calm:=true
 fn:=fun _=>true
 pn:=[]
 xe:=fun e s'=>wpAny (model P w) (A.deeper (envOfC qual scope s.heap.objs.size f cd)) (leaving (envOfC qual scope s.heap.objs.size f cd) e) (fun _ iI=>CX outer H s E e iI) (fun e' iI=>CX outer H s E e' iI) s'
theorem L8{x:Str}(h:sc.names.lookup x=some .cell):∃c,(cellsFrom n sc.names []).lookup x=some c:=by have q:=PySem.W.cellsFrom_some sc.names n [] (.inl h);exact Fs.mp q
variable {CX:iW} {qual:Str} {scope:Scope} {f:Addr}
theorem Us{cd:Value}{s1:Shared}{E:XK}{vs:List V}
  (S:br N ps scope) (hd:A.handled=none) (e0:qR P w K mg base A outer s H) (hl:vs.length=ps.length) (r:Vals vs us)
  (x:InCallC s s.heap.objs.size (bindL (envOfC qual scope s.heap.objs.size f cd).kindOf (ps.zip us) fun _=>none) (cellsFrom (s.heap.objs.size+1) scope.names []) (bindC (envOfC qual scope s.heap.objs.size f cd).kindOf (ps.zip us) fun _=>none) s1) :
  Inv (jP CX P w K mg base N qual scope f cd A outer s H E) [] (start N vs) H s1:=by
 have kD:ps.length≤N.length:=by have:=fK List.length S.pre;rw [yR] at this;lia
 obtain ⟨h1,tk,rfl,hk⟩:=x.done;have zm:∀b:Addr,b∉(jP CX P w K mg base N qual scope f cd A outer s H E).ex:=fun b z=>absurd (show b∈([]:List Addr) from z) (by simp)
 refine ⟨⟨e0.mod,S.kind,rfl,rfl,aI _,fun y z c h1 h2=>?_,fun y hy=>?_,fun y c _ h=>?_,fun _=>hd,Around.frames_deeper e0.frames,.inr ⟨rfl,rfl⟩,fun b z=>absurd z (zm b),e0.bs,e0.gE,fun b _ _=>zm b,fun b z=>absurd z (zm b),e0.kx,e0.nR⟩,
  rfl,e0.bare,Un.kept hk,⟨_,x.toInCall.ns,fun i y v h1 h2 h3=>?_⟩,fun y c h=>⟨_,x.cell y c h⟩,e0.aF.fresh (aI _),fun y c h=>?_,fun p hp=>absurd (show p∈([]:bS) from hp) (by simp),e0.aF.kept hk,?_⟩
 ·exact name_of_addr x.apart (jB h1) (jB h2)
 ·have hy:scope.names.lookup y=some .cell∨scope.names.lookup y=some .free:=hy
  rcases hy with hy | hy;·exact L8 hy
  ·exact absurd rfl (S.Ur _ (jB hy))
 ·exact yN (x.above y c (jB h))
 ·have hi:i<vs.length:=by
   unfold start at h2;by_cases hi:i<vs.length;·exact hi
   ·rw [iQ (by simpa using hi)] at h2
    rw [List.getElem?_replicate] at h2
    split at h2 <;> cases h2
  have ha:vs[i]?=some v:=by
   unfold start at h2;rw [iS (by simpa using hi),bj] at h2
   cases e:vs[i]? with
   | none=>rw [e] at h2;cases h2
   | some a=>rw [e] at h2;cases h2;rfl
  obtain ⟨u,hu,rv⟩:=r.get ha;have hp:ps[i]?=some y:=by rw [←S.pre,List.getElem?_take_of_lt (by lia)];exact h1
  have L9:ps.Nodup:=by rw [←S.pre];exact S.nd.sublist (List.take_sublist _ _)
  refine ⟨u,rv,?_⟩;rcases S.par y (o4 hp) with k | k;·exact .inl ⟨k,L6 L9 hp hu k⟩
  ·obtain ⟨c,e⟩:=L8 (n:=s.heap.objs.size+1) k
   refine .inr ⟨.inl k,c,e,?_⟩;have q:=x.cell y c e;rw [L7 L9 hp hu (by show scope.names.lookup y≠_;rw [k];decide)] at q
   exact q
 ·exact e0.aF.fresh (yN (x.above y c (jB h)))
 ·unfold start
  show _=N.length;rw [ni,aY,List.length_replicate];lia
theorem F4{name:Str}{params:Arguments}{body:List Stmt}{dV kV doc pm bq ct oc:Value}{an od:Option Addr}
  {gI:Array (Option Value)} {sp:Sp} (lk:K.lookup f=some ⟨oc,od,.func (PySem.W.fnOf name qual params body scope dV kV doc pm an bq ct),gI⟩) (gF:PySem.W.codeIn K bq qual=true) (S:br N ps scope)
  (len:∀vs H Q E,sp vs H Q E→vs.length=ps.length)
  (lh:∀(A:Around) (outer:List Env) (s:Shared) (H:Hp) (vs:List V) (Q:VK) (E:XK),eF k (A.deeper (envOfC qual scope s.heap.objs.size f bq))→sp vs H Q E→
   ∃t,fZ (jP CX P w K mg base N qual scope f bq A outer s H E) body t∧t {nx:=fun _ H'=>Q .aV H',rt:=Q} (start N vs) H) :
  aK P w K mg base CX (k+1) f (PySem.W.fnOf name qual params body scope dV kV doc pm an bq ct) ps sp:=by
 refine ⟨len,fun A outer s H args us vs Q E hr e0 hb r kG=>?_⟩;have hl:=len _ _ _ _ kG;have KX:K.In s.heap:=e0.mod.dZ.keeps fun b o e=>(e0.bs b o e).1;have lim:s.heap.NoLimit:=e0.mod.nolimit.keeps fun b o e=>(e0.bs b o e).1;have Ut:∀y∈ps.zip us,scope.names.lookup y.1=some .local∨(scope.names.lookup y.1=some .cell∧((cellsFrom (s.heap.objs.size+1) scope.names []).lookup y.1).isSome=true):=fun⟨n,v⟩ hy=>by
  rcases S.par n (yQ hy).1 with q | q;·exact .inl q
  ·exact .inr ⟨q,PySem.W.cellsFrom_some _ _ _ (.inl q)⟩
 refine codeAny_call_function hr.depth (KX _ _ lk) rfl S.co S.gen rfl (PySem.W.codeRec_of KX gF) (hb _ _ _ _ ?_);refine wpAny_newFunctionEnv_cells S.kind Ut fun env he s1 x=>?_;subst he;refine ⟨lim.keeps x.toInCall.keep,codeAny_func ?_⟩;obtain ⟨t,ht,hq⟩:=lh A outer s H vs Q E (hr.deeper _) kG;have I:Inv (jP CX P w K mg base N qual scope f bq A outer s H E) [] (start N vs) H s1:=Us S hr.hd e0 hl r x;refine cf (ht [] s1 (start N vs) H _ I hq) (fun fl s' hs=>?_) fun e s' hs=>hs;have fin:∀{σ':St} {H':Hp} {v:V} {u:Value},Inv (jP CX P w K mg base N qual scope f bq A outer s H E) [] σ' H' s'→RelV v u→Q v H'→CE outer P w H s Q u s':=
  fun{σ' H' v u} J rv q=>⟨v,H',J.os,J.bare,J.base,J.aF,rv,q⟩
 cases fl with
 | ret u=>obtain ⟨v,σ',H',J,rv,q⟩:=hs;exact fin J rv q
 | next=>obtain ⟨σ',H',J,q⟩:=hs;exact fin (v:=V.aV) (u:=Value.none) J rfl q
 | brk=>obtain ⟨_,_,_,q⟩:=hs;exact False.elim q
 | cont=>obtain ⟨_,_,_,q⟩:=hs;exact False.elim q
section
variable {X:Cx} {x:Str} {p pos:Pos} {e:Expr} {es:List Expr} {t:TA} {id T:String} {r:List V→Hp→VK→Prop}
def F5(r:List V→Hp→VK→Prop)(t:TA):TE:=fun σ H Q=>t σ H fun vs H1=>r vs H1 Q
theorem bU(hc:iV X (.builtin id) r)(hg:Gl X x)(hm:X.mg x=none)(hv:bootBuiltins x=some (.builtin id))(ha:PA X (e::es) t)(hn:x ≠ "__name__":=by decide)(nZ:(x == ("__debug__":Str))=false:=by decide)
  (he:starEach (e::es) X.env=(false,eval e X.env)::starEach es X.env:=by rfl) (kD:(backTo pos (starEach es X.env)).any (·.1)=false:=by rfl):PE X (.Call (.Name x p) (e::es) [] pos) (F5 r t):=by
 intro pins s σ H Q I h;refine Bp (u4 I hg hm hv ?_ hn nZ);exact PyProof.Rows.callWith_builtin1 (aS (ha pos pins s σ H _ I h) fun us s1 ⟨vs,H1,I1,r1,q1⟩=>hc pins s1 σ H1 vs us Q I1 r1 q1) he kD
theorem n8(hc:iV X (.type T) r)(hg:Gl X x)(hm:X.mg x=none)(hv:bootBuiltins x=some (.type T))(ha:PA X (e::es) t)(hn:x ≠ "__name__":=by decide)(nZ:(x == ("__debug__":Str))=false:=by decide)
  (he:starEach (e::es) X.env=(false,eval e X.env)::starEach es X.env:=by rfl) (kD:(backTo pos (starEach es X.env)).any (·.1)=false:=by rfl):PE X (.Call (.Name x p) (e::es) [] pos) (F5 r t):=by
 intro pins s σ H Q I h;refine Bp (u4 I hg hm hv ?_ hn nZ);exact Bm (aS (ha pos pins s σ H _ I h) fun us s1 ⟨vs,H1,I1,r1,q1⟩=>hc pins s1 σ H1 vs us Q I1 r1 q1) he kD
end
end L2
namespace HT
open PySem PyProof.Rows
section
open PySem.SeqAt
open PySem.AutoSeq1 (wpAny_loadPart')
open PySem.MeetsSeq PySem.MeetsSeq2 PySem.MeetsSeq3
end
section
variable {prog:Program} {w:World} {A:Around} {E:cV} {s:Shared}
def gJ(n d:Nat):Option Int→Nat
 | none=>d
 | some v=>if v<0 then (v+(n:Int)).toNat else min v.toNat n
theorem Uu(n d:Nat):gJ n d none=d:=rfl
theorem L_(n d k:Nat):gJ n d (some (k:Int))=min k n:=by
 show (if (k:Int)<0 then ((k:Int)+(n:Int)).toNat else min (k:Int).toNat n)=min k n
 rw [aj (by lia),eR]
end
end HT
namespace L2
open PySem PySem.Spec PyProof.Rows
abbrev TO:=St→Hp→(Option Int→Hp→Prop)→Prop
def PO(X:Cx)(e:Option Expr)(t:TO):Prop:=
 ∀(pins:bS) (s:Shared) (σ:St) (H:Hp) (Q:Option Int→Hp→Prop),Inv X pins σ H s→t σ H Q→
  wpAny (model X.prog X.w) X.A (evalPart e X.env) (fun u s'=>∃o H',Inv X pins σ H' s'∧IsPart u o∧Q o H') X.xe s
def Uv:TO:=fun _ H Q=>Q none H
def Uw(t:TE):TO:=fun σ H Q=>t σ H fun x H1=>∃i,x=.int i∧Q (some i) H1
section
variable {X:Cx} {e:Expr} {te:TE} {lo hi:Option Expr} {tl th:TO} {pos p2:Pos}
theorem B5:PO X none Uv:=by intro pins s σ H Q I h;rw [evalPart_none];exact e8 ⟨none,H,I,.none,h⟩
theorem B6(h:PE X e te):PO X (some e) (Uw te):=by intro pins s σ H Q I hw;rw [evalPart_some];refine aS (h pins s σ H _ I hw) fun u s1 ⟨x,H1,I1,r1,q1⟩=>?_;obtain ⟨i,rfl,q⟩:=q1;obtain ⟨t,rfl⟩:=r1;exact ⟨some i,H1,I1,.int i t,q⟩
def F6(X:Cx)(r:V→Option Int→Option Int→Hp→VK→Prop):Prop:=
 ∀(pins:bS) (s:Shared) (σ:St) (H:Hp) (x:V) (v vl vu:Value) (lo hi:Option Int) (sl:Addr) (Q:VK),Inv X pins σ H s→RelV x v→s.heap.IsSliceOf sl vl vu .none→IsPart vl lo→IsPart vu hi→r x lo hi H Q→
  ∃T id,typeLookup (.type T) "__getitem__"=pure (some (.builtin id))∧s.TypeIs v T∧wpAny (model X.prog X.w) X.A (getItem v (.ref sl)) (EP X pins σ Q) X.xe s
def Ux(r:V→Option Int→Option Int→Hp→VK→Prop)(te:TE)(tl th:TO):TE:=fun σ H Q=>te σ H fun x H1=>tl σ H1 fun l H2=>th σ H2 fun u H3=>r x l u H3 Q
theorem B7{r:V→Option Int→Option Int→Hp→VK→Prop}(hr:F6 X r)(he:PE X e te)(hl:PO X lo tl)(hu:PO X hi th):PE X (.Subscript e (.Slice lo hi none p2) pos) (Ux r te tl th):=by intro pins s σ H Q I h;refine Subscript_ (aS (he pins s σ H _ I h) fun v s1 ⟨x,H1,I1,r1,q1⟩=>?_);refine wpAny_Slice (aS (hl pins s1 σ H1 _ I1 q1) fun vl s2 ⟨l,H2,I2,pl,q2⟩=>aS (hu pins s2 σ H2 _ I2 q2) fun vu s3 ⟨u,H3,I3,pu,q3⟩=>?_);rw [evalPart_none];refine e8 ?_;have I4:Inv X pins σ H3 {s3 with heap:=s3.heap.push {cls:=.type "slice",data:=.fields #[vl,vu,.none]}}:=I3.kept (t':=s3.toks) fun b ob q=>df _ q;obtain ⟨T,id,hT,ht,hg⟩:=hr pins {s3 with heap:=s3.heap.push {cls:=.type "slice",data:=.fields #[vl,vu,.none]}} σ H3 x v vl vu l u s3.heap.objs.size Q I4 r1 (Heap.IsSliceOf.new ..) pl pu q3;show wpAny (model X.prog X.w) X.A (subscriptTail e (.Slice lo hi none p2) v (.ref s3.heap.objs.size)) (EP X pins σ Q) X.xe {s3 with heap:=s3.heap.push {cls:=.type "slice",data:=.fields #[vl,vu,.none]}};exact tail_any (ops:=[.ref s3.heap.objs.size,v]) ht hT hg (by with_unfolding_all rfl)
def jQ(xs:List V)(lo hi:Option Int):List V:=(xs.drop (HT.gJ xs.length 0 lo)).take (HT.gJ xs.length xs.length hi-HT.gJ xs.length 0 lo)
theorem Uy(xs:List V)(lo hi:Option Int):(jQ xs lo hi).length≤xs.length:=by unfold jQ;rw [yR,nj];lia
end
def iJ(n:Nat)(i:Int):Option Nat:=if 0≤i then (if i<n then some i.toNat else none) else if -(n:Int)≤i then some (i+n).toNat else none
def d_{α:Type}(xs:List α)(i:Int):Option α:=(iJ xs.length i).bind fun j=>xs[j]?
variable {i:Int} {j:Nat}
theorem Ma{n:Nat}(h:iJ n i=some j):seqIndex? i n=some j∧j<n∧-(n:Int)≤i∧i<n:=by
 unfold iJ at h;by_cases h0:0≤i
 ·rw [ak h0] at h
  by_cases h1:i<n
  ·rw [ak h1] at h
   have e:i.toNat=j:=Option.some.inj h;exact ⟨by rw [seqIndex_of h0 h1,e],by lia,by lia,h1⟩
  ·rw [aj h1] at h;cases h
 ·rw [aj h0] at h
  by_cases h1:-(n:Int)≤i
  ·rw [ak h1] at h
   have e:(i+n).toNat=j:=Option.some.inj h;exact ⟨by rw [seqIndex_neg (by lia) h1,e],by lia,h1,by lia⟩
  ·rw [aj h1] at h;cases h
theorem Mb{α:Type}{xs:List α}{v:α}(h:d_ xs i=some v):∃j,seqIndex? i xs.length=some j∧xs[j]?=some v∧j<xs.length∧-(xs.length:Int)≤i∧i<xs.length:=by
 unfold d_ at h;cases e:iJ xs.length i with
 | none=>rw [e] at h;cases h
 | some j=>rw [e] at h;obtain ⟨h1,h2,h3,h4⟩:=Ma e;exact ⟨j,h1,h,h2,h3,h4⟩
theorem dA{α:Type}{xs:List α}{v:α}(h:xs[j]?=some v):d_ xs (j:Int)=some v:=by
 have hj:j<xs.length:=(aG.mp h).1;have e:iJ xs.length (j:Int)=some j:=by unfold iJ;rw [ak (by lia),ak (by lia)];simp
 unfold d_;rw [e];exact h
def Mc(b:Expr):Prop:=∀o i,subscripted b false o i=operate [o,i] (getItem o i)
def u_(X:Cx)(r:R2):Prop:=
 ∀(value slice:Expr) (pins:bS) (s:Shared) (σ:St) (H:Hp) (x y:V) (v u:Value) (Q:VK),Inv X pins σ H s→RelV x v→RelV y u→r x y H Q→
  subscripted slice false v u=operate [v,u] (getItem v u)→wpAny (model X.prog X.w) X.A (subscriptTail value slice v u) (EP X pins σ Q) X.xe s
def F7(X:Cx)(id:String)(r:V→List V→Hp→VK→Prop):Prop:=
 ∀(pins:bS) (s:Shared) (σ:St) (H:Hp) (x:V) (xs:List V) (v:Value) (us:List Value) (Q:VK),Inv X pins σ H s→RelV x v→Vals xs us→r x xs H Q→
  wpAny (model X.prog X.w) X.A (call (.builtin id) (v::us)) (EP X pins σ Q) X.xe s
section
variable {X:Cx} {a b:Expr} {ta tb:TE} {pos:Pos}
variable {r:R2}
theorem Uz(hr:u_ X r)(ha:PE X a ta)(hb:PE X b tb)(hs:Mc b):PE X (.Subscript a b pos) (kC r ta tb):=by intro pins s σ H Q I h;exact Subscript_ (FW ha hb I h fun v u s2 x y H2 I2 rx ry q=>hr a b pins s2 σ H2 x y v u Q I2 rx ry q (hs _ _))
theorem aC{b:Expr}(hr:u_ X r)(ha:PE X a ta)(hb:PE X b tb)(hs:Mc b:=by exact fun _ _=>rfl):PE X (.Subscript a b pos) (kC r ta tb):=Uz hr ha hb hs
def F8(K:aL):R2:=fun x y H Q=>∃p xs i v,x=.ref p∧y=.int i∧cu K H p xs∧d_ xs i=some v∧Q v H
def Md(K:aL):R2:=fun x y H Q=>∃p xs i v,x=.ref p∧y=.int i∧jc K H p xs∧d_ xs i=some v∧Q v H
theorem dF:u_ X (F8 X.K):=by
 intro value slice pins s σ H x y v u Q I rx ry h hs;obtain ⟨p,xs,i,z,rfl,rfl,hq,he,q⟩:=h;cases rx;obtain ⟨t,rfl⟩:=ry;obtain ⟨au,r,pl,hz⟩:=I.list hq;obtain ⟨j,h1,h2,h3,h4,h5⟩:=Mb he;obtain ⟨w,ew,ze⟩:=r.get h2;have hl:=r.length;have hn:=zk;have fin:EP X pins σ Q w s:=⟨z,H,I,ze,q⟩;by_cases h0:0≤i
 ·have hj:i.toNat=j:=by rw [seqIndex_of h0 h5] at h1;exact Option.some.inj h1
  exact item_listR pl.isList h0 (by lia) (by rw [hj];simpa using ew) fin hs
 ·have hj:(i+(au.toArray.size:Int)).toNat=j:=by
   rw [seqIndex_neg (by lia) h4] at h1
   rw [eQ,←hl];exact Option.some.inj h1
  exact subscriptTail_builtinR (x:=w) pl.isList.typeIs slot_list_getitem.lookup
   (wpAny_getItem_list_neg (Q:=fun r s'=>r=w∧EP X pins σ Q r s') pl.isList (by lia) (by rw [eQ] <;> lia) (by lia) (by rw [hj];simpa using ew) ⟨rfl,fin⟩) hs
theorem cz:u_ X (Md X.K):=by
 intro value slice pins s σ H x y v u Q I rx ry h hs;obtain ⟨p,xs,i,z,rfl,rfl,hq,he,q⟩:=h;cases rx;obtain ⟨t,rfl⟩:=ry;obtain ⟨au,r,pl,hz⟩:=I.tuple hq;obtain ⟨j,h1,h2,h3,h4,h5⟩:=Mb he;obtain ⟨w,ew,ze⟩:=r.get h2;have hl:=r.length;have hn:=zk;have fin:EP X pins σ Q w s:=⟨z,H,I,ze,q⟩
 exact subscriptTail_builtinR (x:=w) pl.typeIs slot_tuple_getitem.lookup
  (getItem_tuple (j:=j) (Q:=fun r s'=>r=w∧EP X pins σ Q r s') pl (by lia) (by lia) (by rw [eQ,←hl];exact h1) (by simpa using ew) ⟨rfl,fin⟩) hs
theorem UA(au:List Value)(n j:Nat)(u:Value):Obj.mapSeq (·.setIfInBounds j u) {cls:=.type "list",data:=.seq au.toArray n}={cls:=.type "list",data:=.seq (au.set j u).toArray n}:=by simp [Obj.mapSeq]
theorem Inv.lst{pins:bS}{σ:St}{H:Hp}{s:Shared}{p:Addr}{xs:List V}(I:Inv X pins σ H s)(h:H p=some (.lst xs)) :
  ∃(au:List Value) (n:Nat),Vals xs au∧s.heap.get? p=some {cls:=.type "list",data:=.seq au.toArray n}∧xs.length≤sizeLine:=by
 obtain ⟨z,au,n,r,e⟩:=I.aF p _ h;exact ⟨au,n,r,e,z⟩
variable {pins:bS} {σ:St} {H:Hp} {s:Shared}
theorem Inv.UC{p:Addr}{xs ys:List V}{au its':List Value}{n n':Nat}{f:Obj→Obj}(I:Inv X pins σ H s)(h:H p=some (.lst xs))
  (ho:s.heap.get? p=some {cls:=.type "list",data:=.seq au.toArray n}) (hf:f {cls:=.type "list",data:=.seq au.toArray n}={cls:=.type "list",data:=.seq its'.toArray n'}) (r:Vals ys its') (hz:ys.length≤sizeLine) (t:Nat) :
  Inv X pins σ (upd H p (.lst ys)) {s with heap:=s.heap.update p f,toks:=t}:=by
 have e:(s.heap.update p f).get? p=some {cls:=.type "list",data:=.seq its'.toArray n'}:=by rw [Heap.get?_update_self f ho (by rw [hf] <;> rfl),hf]
 refine I.write (x:=p) (e:=p) (by rw [h];trivial) (.inl rfl) (fun b u hb q=>(Heap.get?_update_other _ _ (Ne.symm hb)).trans q) ⟨_,e⟩ ?_
 exact ⟨hz,its',n',r,e⟩
def UD:V→V→V→Hp→(Hp→Prop)→Prop:=fun o i v H Q=>∃p xs k j,o=.ref p∧i=.int k∧H p=some (.lst xs)∧iJ xs.length k=some j∧Q (upd H p (.lst (xs.set j v)))
theorem set_list:Ls X UD:=by
 intro pins s σ H o i v ov iv u Q I ro ri rv h;obtain ⟨p,xs,k,j,rfl,rfl,hp,hj,q⟩:=h;cases ro;obtain ⟨t,rfl⟩:=ri;obtain ⟨au,n,r,ho,hz⟩:=I.lst hp;obtain ⟨h1,h2,h3,h4⟩:=Ma hj;have hl:=r.length;have hn:=zk;have I':Inv X pins σ (upd H p (.lst (xs.set j v))) {s with heap:=s.heap.update p (Obj.mapSeq (·.setIfInBounds j u))}:=
  I.UC hp ho (UA au n j u) (r.set rv j) (by rw [kj];exact hz) s.toks
 by_cases h0:0≤k
 ·have hk:k.toNat=j:=by rw [seqIndex_of h0 h4] at h1;exact Option.some.inj h1
  exact PySem.W.ki_setAt ho h0 (by lia) (by rw [eQ,←hl];exact h4) (by rw [hk];exact ⟨_,I',q⟩)
 ·have hk:(k+(au.toArray.size:Int)).toNat=j:=by
   rw [seqIndex_neg (by lia) h3] at h1
   rw [eQ,←hl];exact Option.some.inj h1
  exact PySem.W.ki_setBack ho (by lia) (by rw [eQ,←hl];exact h3) (by lia) (by rw [hk];exact ⟨_,I',q⟩)
theorem UE(lo hi:Option Int)(n:Nat):(sliceBounds lo hi none n).1=((HT.gJ n 0 lo:Nat):Int)∧(sliceBounds lo hi none n).2.1=((HT.gJ n n hi:Nat):Int)∧(sliceBounds lo hi none n).2.2=1:=by
 refine ⟨?_,?_,rfl⟩
 ·cases lo with
  | none=>simp [sliceBounds,HT.gJ]
  | some i=>
   simp only [sliceBounds,HT.gJ,Option.getD_none,show (1:Int)>0 by decide,if_true]
   by_cases h:i<0;·simp only [h,if_true] <;> lia
   ·simp only [h,if_false] <;> lia
 ·cases hi with
  | none=>simp [sliceBounds,HT.gJ]
  | some i=>
   simp only [sliceBounds,HT.gJ,Option.getD_none,show (1:Int)>0 by decide,if_true]
   by_cases h:i<0;·simp only [h,if_true] <;> lia
   ·simp only [h,if_false] <;> lia
theorem UG(au:List Value)(lo hi:Option Int):slicePick au.toArray lo hi none=((au.drop (HT.gJ au.length 0 lo)).take (HT.gJ au.length au.length hi-HT.gJ au.length 0 lo)).toArray:=by obtain ⟨h1,h2,h3⟩:=UE lo hi au.toArray.size;unfold slicePick;rw [h1,h2,h3];simp only [sliceRange_one,pick_run,eQ] <;> rfl
def Me(K:aL):V→Option Int→Option Int→Hp→VK→Prop:=fun x lo hi H Q=>∃a xs,x=.ref a∧cu K H a xs∧∀p,H p=none→Q (.ref p) (upd H p (.lst (jQ xs lo hi)))
theorem F9:F6 X (Me X.K):=by
 intro pins s σ H x v vl vu lo hi sl Q I rx hs pl pu h;obtain ⟨a,xs,rfl,hx,q⟩:=h;cases rx;obtain ⟨au,r,ht,hz⟩:=I.list hx;have hlen:=r.length;refine ⟨"list",_,slot_list_getitem.lookup,ht.isList.typeIs,?_⟩;refine wpAny_getItem_list_slice ht.isList hs pl pu .none (by simp) ?_ (by rw [eQ] <;> lia)
 rw [UG,←hlen];refine ⟨.ref s.heap.objs.size,_,I.laid (t':=s.toks) (o:=.lst (jQ xs lo hi)) (fun b ob q=>df _ q) (aI _) ?_,rfl,q _ (I.aF.fresh (aI _))⟩;exact ⟨av (Uy xs lo hi) hz,_,0,(r.drop (HT.gJ xs.length 0 lo)).take (HT.gJ xs.length xs.length hi-HT.gJ xs.length 0 lo),gq _ rfl⟩
def vc:V→Bool
 | .aV=>true
 | .bl _=>true
 | .int _=>true
 | .str _=>true
 | _=>false
def zo:V→V→Bool
 | .aV,.aV=>true
 | .bl a,.bl b=>a == b
 | .bl a,.int b=>(if a then 1 else 0) == b
 | .int a,.bl b=>a == (if b then 1 else 0)
 | .int a,.int b=>a == b
 | .str a,.str b=>a == b
 | _,_=>false
variable {x:V} {v:Value}
theorem F_{A:Around}{y:V}{u:Value}(ry:RelV y u)(rx:RelV x v)(fy:vc y=true)(fx:vc x=true):SeqAt.EqAt A s u v (zo y x):=by
 cases y with
 | aV=>
  cases ry;cases x with
  | aV=>cases rx;exact SeqAt.EqAt.same _
  | bl b=>cases rx;exact SeqAt.EqAt.none_bool b
  | int b=>obtain ⟨t,rfl⟩:=rx;exact SeqAt.EqAt.none_int b t
  | str b=>obtain ⟨t,rfl⟩:=rx;exact SeqAt.EqAt.none_str b t
  | _=>exact absurd (show false=true from fx) dW
 | bl a=>
  cases ry;cases x with
  | aV=>cases rx;exact SeqAt.EqAt.bool_none a
  | bl b=>cases rx;exact SeqAt.EqAt.bool_bool a b
  | int b=>obtain ⟨t,rfl⟩:=rx;exact SeqAt.EqAt.bool_int a b t
  | str b=>obtain ⟨t,rfl⟩:=rx;exact SeqAt.EqAt.bool_str a b t
  | _=>exact absurd (show false=true from fx) dW
 | int a=>
  obtain ⟨t',rfl⟩:=ry;cases x with
  | aV=>cases rx;exact SeqAt.EqAt.int_none a t'
  | bl b=>cases rx;exact SeqAt.EqAt.int_bool a t' b
  | int b=>obtain ⟨t,rfl⟩:=rx;exact SeqAt.EqAt.int_int a t' b t
  | str b=>obtain ⟨t,rfl⟩:=rx;exact SeqAt.EqAt.int_str a t' b t
  | _=>exact absurd (show false=true from fx) dW
 | str a=>
  obtain ⟨t',rfl⟩:=ry;cases x with
  | aV=>cases rx;exact SeqAt.EqAt.str_none a t'
  | bl b=>cases rx;exact SeqAt.EqAt.str_bool a t' b
  | int b=>obtain ⟨t,rfl⟩:=rx;exact SeqAt.EqAt.str_int a t' b t
  | str b=>obtain ⟨t,rfl⟩:=rx;exact SeqAt.EqAt.str_str a t' b t
  | _=>exact absurd (show false=true from fx) dW
 | _=>exact absurd (show false=true from fy) dW
theorem dI:iV X (.builtin "len") (fun xs H Q=>∃p ys,xs=[.ref p]∧(cu X.K H p ys∨jc X.K H p ys)∧Q (.int ys.length) H):=by
 intro pins s σ H xs us Q I r h;obtain ⟨p,ys,rfl,hq,q⟩:=h;obtain ⟨u,rfl,rx⟩:=vals1 r;cases rx;have hn:=zk;rcases hq with hq | hq
 ·obtain ⟨au,r',pl,hz⟩:=I.list hq
  have hlen:=r'.length;exact Calls.call_len_list pl.isList (by simp only [eQ] <;> lia) ⟨.int ys.length,H,I.tok _,⟨s.toks+1,by rw [eQ,hlen]⟩,q⟩
 ·obtain ⟨au,r',pl,hz⟩:=I.tuple hq
  have hlen:=r'.length;exact len_tuple pl (by simp only [eQ] <;> lia) ⟨.int ys.length,H,I.tok _,⟨s.toks+1,by rw [eQ,hlen]⟩,q⟩
theorem Ga:iV X (.type "list") (fun xs H Q=>∃p ys,xs=[.ref p]∧(cu X.K H p ys∨jc X.K H p ys)∧∀l,H l=none→Q (.ref l) (upd H l (.lst ys))):=by
 intro pins s σ H xs us Q I r h;obtain ⟨p,ys,rfl,hq,q⟩:=h;obtain ⟨u,rfl,rx⟩:=vals1 r;cases rx
 have fin:∀(au:List Value),Vals ys au→ys.length≤sizeLine→∀(h':Heap) (c':Nat),(∀b o',s.heap.get? b=some o'→h'.get? b=some o')→
   h'.get? s.heap.objs.size=some {cls:=.type "list",dict:=none,data:=.seq au.toArray c',slots:=#[]}→EP X pins σ Q (.ref s.heap.objs.size) {s with heap:=h'}:=fun au r' hz h' c' kp e=>
  ⟨.ref s.heap.objs.size,_,I.laid (t':=s.toks) kp (aI _) (show fQ X.prog X.w _ h' _ (.lst ys) from ⟨hz,au,c',r',e⟩),rfl,q _ (I.aF.fresh (aI _))⟩
 rcases hq with hq | hq
 ·obtain ⟨au,r',pl,hz⟩:=I.list hq
  have hlen:=r'.length;obtain ⟨o,ho,hc,n,hd⟩:=pl.isList;exact call_list_seq p (.inl rfl) ho hc hd (fun h' c' kp e=>fin au r' hz h' c' kp e) (by simp only [eQ] <;> lia)
 ·obtain ⟨au,r',pl,hz⟩:=I.tuple hq
  have hlen:=r'.length;obtain ⟨o,ho,hc,n,hd⟩:=pl;exact call_list_seq p (.inr rfl) ho hc hd (fun h' c' kp e=>fin au r' hz h' c' kp e) (by simp only [eQ] <;> lia)
def Gb(K:aL)(T:String)(x:V)(H:Hp):Prop:=match x with
 | .str _=>T="str"
 | .int _=>T="int"
 | .ref p=>(T="list"∧∃xs,cu K H p xs)∨(T="tuple"∧∃o,K.lookup p=some o∧o.cls=.type "tuple"∧o.dict=none) ∨
   (T="dict"∧((∃dj,H p=some (.dK dj))∨∃dj,H p=some (.dT dj)))∨(T="set"∧∃S n,H p=some (.set S n))
 | _=>False
theorem Mf{T:String}(I:Inv X pins σ H s)(r:RelV x v)(ty:Gb X.K T x H) :
  s.TypeIs v T∧∀a,v=.ref a→∃ob,s.heap.get? a=some ob∧ob.dict=none:=by
 cases x with
 | str z=>obtain ⟨t,rfl⟩:=r;cases (show T="str" from ty);exact ⟨typeIs_str s z t,fun _ e=>nomatch e⟩
 | int i=>obtain ⟨t,rfl⟩:=r;cases (show T="int" from ty);exact ⟨typeIs_int s i t,fun _ e=>nomatch e⟩
 | ref p=>
  cases r;rcases ty with ⟨rfl,xs,hq⟩ | ⟨rfl,o,hk,hc,hd⟩ | ⟨rfl,hk⟩ | ⟨rfl,S,n,hk⟩
  ·obtain ⟨au,_,pl,_⟩:=I.list hq
   refine ⟨pl.isList.typeIs,fun a e=>?_⟩;cases e;obtain ⟨o,n,e,c,hd,_⟩:=pl;exact ⟨o,e,hd⟩
  ·refine ⟨⟨o,I.e9 p o hk,hc⟩,fun a e=>?_⟩
   cases e;exact ⟨o,I.e9 _ o hk,hd⟩
  ·have z:∃o,s.heap.get? p=some o∧o.ExactDict:=by
    rcases hk with ⟨dj,hk⟩ | ⟨dj,hk⟩
    ·obtain ⟨_,_,_,_,o,_,_,e,ex,_⟩:=I.aF p _ hk
     exact ⟨o,e,ex⟩
    ·obtain ⟨_,_,_,_,o,_,_,e,ex,_⟩:=I.aF p _ hk
     exact ⟨o,e,ex⟩
   obtain ⟨o,e,ex⟩:=z;refine ⟨⟨o,e,ex.1⟩,fun a e2=>?_⟩;cases e2;exact ⟨o,e,ex.2.1⟩
  ·obtain ⟨o,_,_,_,e,ex,_⟩:=I.aF p _ hk
   refine ⟨⟨o,e,ex.1⟩,fun a e2=>?_⟩;cases e2;exact ⟨o,e,ex.2.1⟩
 | _=>exact False.elim ty
def UH(K:aL)(T:String)(r:V→List V→Hp→VK→Prop)(to:TE):TE:=fun σ H Q=>to σ H fun x H1=>Gb K T x H1∧r x [] H1 Q
def UI(K:aL)(T:String)(r:V→List V→Hp→VK→Prop)(to:TE)(t:TA):TE:=fun σ H Q=>to σ H fun x H1=>Gb K T x H1∧t σ H1 fun xs H2=>r x xs H2 Q
variable {o e:Expr} {es:List Expr} {to:TE} {t:TA} {name:Str} {apos jg:Pos} {T id:String} {r:V→List V→Hp→VK→Prop}
theorem UJ(pa:PlainAttrs T)(slot:Slot T name id)(Gd:typeOf (.builtin id)=pure (.type "method_descriptor"))(hm:F7 X id r)(ho:PE X o to)
  (Ge:attributeBase o name X.env (eval o X.env)=eval o X.env:=by rfl) (Gf:(apos.endLine == jg.line)=true:=by rfl):PE X (.Call (.Attribute o name apos) [] [] jg) (UH X.K T r to):=by
 intro pins s σ H Q I h;refine wpAny_Call_method0_late Ge Gf (aS (ho pins s σ H _ I h) fun v s1 ⟨x,H1,I1,r1,ty,q1⟩=>?_);obtain ⟨h1,h2⟩:=Mf I1 r1 ty;exact ⟨T,id,pa,slot,Gd,h1,h2,Calls.callWith_builtin rfl (PySem.evalArgs_none (hm pins s1 σ H1 x [] v [] Q I1 r1 .nil q1))⟩
theorem qS(pa:PlainAttrs T)(slot:Slot T name id)(Gd:typeOf (.builtin id)=pure (.type "method_descriptor"))(hm:F7 X id r)(ho:PE X o to)(ha:PA X (e::es) t)
  (Ge:attributeBase o name X.env (eval o X.env)=eval o X.env:=by rfl)
  (UK:((backTo jg (starEach (e::es) X.env)).all (fun x=>!x.1) && (backToKw jg (keywordEach [] X.env)).all (fun x=>x.1.isSome)
   && decide ((e::es).length+([]:List Keyword).length+(if ([]:List Keyword).isEmpty then 0 else 1)<30))=true:=by rfl)
  (Gf:(apos.endLine == jg.line)=true:=by rfl) (hs:starEach (e::es) X.env=(false,eval e X.env)::starEach es X.env:=by rfl) (UL:(backTo jg (starEach es X.env)).any (·.1)=false:=by rfl) :
  PE X (.Call (.Attribute o name apos) (e::es) [] jg) (UI X.K T r to t):=by
 intro pins s σ H Q I h;refine wpAny_Call_method_late Ge UK Gf rfl (aS (ho pins s σ H _ I h) fun v s1 ⟨x,H1,I1,r1,ty,q1⟩=>?_);obtain ⟨h1,h2⟩:=Mf I1 r1 ty;refine ⟨T,id,pa,slot,Gd,h1,h2,?_⟩;have hA:=ha jg pins s1 σ H1 _ I1 q1;rw [hs] at hA ⊢;refine Calls.callWith_builtin (by show (false || (backTo jg (starEach es X.env)).any (·.1))=false;rw [UL] <;> rfl) (Calls.evalArgs_plain ?_)
 exact aS hA fun us s2 ⟨vs,H2,I2,r2,q2⟩=>hm pins s2 σ H2 x vs v us Q I2 r1 r2 q2
end
def Mg(X:Cx)(id:String)(r:V→List V→Hp→VK→Prop):Prop:=
 ∀(pins:bS) (s:Shared) (σ:St) (H:Hp) (x:V) (xs:List V) (v:Value) (us:List Value) (Q:VK),Inv X pins σ H s→RelV x v→Vals xs us→r x xs H Q→
  wpAny (model X.prog X.w) X.A (call (.builtin id) (v::us)) (EP X pins σ Q) X.xe s
theorem Vals.one:∀{x:V} {us:List Value},Vals [x] us→∃u,us=[u]∧RelV x u
 | _,_,.cons r .nil=>⟨_,rfl,r⟩
theorem Vals.zero:∀{us:List Value},Vals [] us→us=[]
 | _,.nil=>rfl
theorem Vals.rep{xs:List V}{us:List Value}(h:Vals xs us):∀k:Nat,Vals (List.replicate k xs).flatten (List.replicate k us).flatten
 | 0=>.nil
 | k+1=>by rw [uO,uO,Br,Br];exact Vals.append h (Vals.rep h k)
theorem foldl_rep(au:List Value):∀(k:Nat) (acc:List Value),
  List.foldl (fun x1 x2=>x1++x2) acc.toArray (List.replicate k au.toArray)=(acc++(List.replicate k au).flatten).toArray
 | 0,acc=>by simp
 | k+1,acc=>by
  have e:acc.toArray++au.toArray=(acc++au).toArray:=by simp
  have e2:(acc++au)++(List.replicate k au).flatten=acc++(List.replicate (k+1) au).flatten:=by rw [uO,Br,List.append_assoc]
  rw [←e2,←foldl_rep au k (acc++au),←e,uO,List.foldl_cons]
section
variable {X:Cx} {pins:bS} {σ:St} {H:Hp} {s:Shared} {l b:Addr} {xs ys zs:List V}
variable {au:List Value} {n t':Nat}
theorem Inv.Mh{its':List Value}{f:Array Value→Array Value}(I:Inv X pins σ H s)(hH:H l=some (.lst xs))
  (e:s.heap.get? l=some {cls:=.type "list",data:=.seq au.toArray n}) (hf:f au.toArray=its'.toArray) (hv:Vals ys its') (hz:ys.length≤sizeLine) :
  Inv X pins σ (upd H l (.lst ys)) {s with heap:=s.heap.update l (Obj.mapSeq f),toks:=t'}:=by
 have q:=PySem.IsL.update e f;rw [hf] at q;refine I.write (x:=l) (e:=l) (by rw [hH];exact trivial) (.inl rfl) (fun b' u hb hu=>(Heap.get?_update_other s.heap (Obj.mapSeq f) (Ne.symm hb)).trans hu) ⟨_,q⟩ ?_
 exact ⟨hz,its',_,hv,q⟩
theorem Inv.Mi(I:Inv X pins σ H s)(hv:Vals ys au)(hz:ys.length≤sizeLine) :
  Inv X pins σ (upd H s.heap.objs.size (.lst ys)) {s with heap:=s.heap.push {cls:=.type "list",data:=.seq au.toArray},toks:=t'}:=
 I.laid (fun _ _ q=>df _ q) (aI _) ⟨hz,au,0,hv,gq _ rfl⟩
theorem Inv.fresh(I:Inv X pins σ H s):H s.heap.objs.size=none:=I.aF.fresh (aI _)
theorem Inv.vd(I:Inv X pins σ H s)(hH:H l=some (.lst xs)):xs.length≤sizeLine∧∃(au:List Value) (n:Nat),Vals xs au∧xs.length=au.length∧s.heap.get? l=some {cls:=.type "list",data:=.seq au.toArray n}:=by obtain ⟨z,au,n,r,e⟩:=I.aF l _ hH;exact ⟨z,au,n,r,r.length,e⟩
theorem Mj(h:n≤sizeLine):Builtin.List.listTooLong n=false:=by unfold Builtin.List.listTooLong;exact h_ (by lia)
end
section
variable {X:Cx}
def UM:V→List V→Hp→VK→Prop:=fun x vs H Q=>∃l xs y,x=.ref l∧vs=[y]∧H l=some (.lst xs)∧xs.length<sizeLine∧Q .aV (upd H l (.lst (xs++[y])))
theorem lA:Mg X "list.append" UM:=by
 intro pins s σ H x vs v us Q I rx rv h;obtain ⟨l,xs,y,rfl,rfl,hH,hz,q⟩:=h;cases rx;obtain ⟨u,rfl,ru⟩:=rv.one;obtain ⟨z,au,n,r,hl,e⟩:=I.vd hH;refine call_meets F.slot_list_append ⟨_,e,rfl⟩ F.entry_list_append (F.args_list_append_2 _ _) (PySem.list_append l au.toArray n u (by rw [eQ];lia)) ⟨e,?_⟩
 refine ⟨.aV,_,I.Mh (its':=au++[u]) hH e (by simp) (r.append (.cons ru .nil)) ?_,rfl,q⟩
 rw [ni,List.length_singleton];lia
def UN:V→List V→Hp→VK→Prop:=fun x vs H Q=>∃l b xs zs,x=.ref l∧vs=[.ref b]∧H l=some (.lst xs)∧H b=some (.lst zs)∧xs.length+zs.length≤sizeLine∧Q .aV (upd H l (.lst (xs++zs)))
theorem Ml:Mg X "list.extend" UN:=by
 intro pins s σ H x vs v us Q I rx rv h;obtain ⟨l,b,xs,zs,rfl,rfl,hH,hB,hz,q⟩:=h;cases rx;obtain ⟨u,rfl,ru⟩:=rv.one;cases ru;obtain ⟨z,au,n,r,hl,e⟩:=I.vd hH;obtain ⟨z2,qT,n2,r2,UO,e2⟩:=I.vd hB;have LM:au.toArray.size+qT.toArray.size≤sizeLine:=by rw [eQ,eQ];lia
 have Gg:¬(!au.toArray.isEmpty && Builtin.List.listTooLong (au.toArray.size+qT.toArray.size))=true:=by rw [Mj LM,Bool.and_false];exact dW
 refine call_meets F.slot_list_extend ⟨_,e,rfl⟩ F.entry_list_extend (F.args_list_extend_2 _ _)
  (AutoSeq1.list_extend_list_list_0 l au.toArray n b qT.toArray n2 Gg (by rw [eQ];lia) (by lia)) ⟨e,e2,?_⟩
 refine ⟨.aV,_,I.Mh (its':=au++qT) hH e (by simp) (r.append r2) ?_,rfl,q⟩
 rw [ni];lia
def UP:R2:=fun x y H Q=>∃l b xs zs,x=.ref l∧y=.ref b∧H l=some (.lst xs)∧H b=some (.lst zs)∧xs.length+zs.length≤sizeLine∧∀p,H p=none→Q (.ref p) (upd H p (.lst (xs++zs)))
theorem Mm:dE X (binaryOp .Add) UP:=by
 intro pins s σ H x y v u Q I rx ry h;obtain ⟨l,b,xs,zs,rfl,rfl,hH,hB,hz,q⟩:=h;cases rx;cases ry;obtain ⟨z,au,n,r,hl,e⟩:=I.vd hH;obtain ⟨z2,qT,n2,r2,UO,e2⟩:=I.vd hB;refine PySem.P.add_list e e2 ?_ (by rw [eQ,eQ];lia)
 have ea:au.toArray++qT.toArray=(au++qT).toArray:=by simp
 rw [ea];exact ⟨.ref _,_,I.Mi (t':=s.toks) (r.append r2) (by rw [ni];lia),rfl,q _ I.fresh⟩
def UQ:R2:=fun x y H Q=>∃l k xs,x=.ref l∧y=.int k∧H l=some (.lst xs)∧-(2 ^ 63)≤k∧k<2 ^ 63∧xs.length*k.toNat≤sizeLine ∧
 ∀p,H p=none→Q (.ref p) (upd H p (.lst (List.replicate k.toNat xs).flatten))
theorem len_rep{α:Type}(xs:List α)(k:Nat):(List.replicate k xs).flatten.length=k*xs.length:=by
 induction k with
 | zero=>simp
 | succ k ih=>rw [uO,Br,ni,ih,ib,Nat.add_comm]
theorem UR:dE X (binaryOp .Mult) UQ:=by
 intro pins s σ H x y v u Q I rx ry h;obtain ⟨l,k,xs,rfl,rfl,hH,h1,h2,hz,q⟩:=h;cases rx;obtain ⟨t,rfl⟩:=ry;obtain ⟨z,au,n,r,hl,e⟩:=I.vd hH;have hlen:au.toArray.size*k.toNat≤sizeLine:=by rw [eQ,←hl];exact hz
 have US:¬au.toArray.size*k.toNat>(2 ^ 63-1) / 8:=by
  have:(sizeLine:Nat)≤(2 ^ 63-1) / 8:=by decide
  lia
 have UT:¬(!Builtin.List.listFitsIndex k)=true:=by rw [fitsIndex_both h1 h2];exact dW
 have Gg:¬Builtin.List.listTooLong (au.toArray.size*k.toNat)=true:=by rw [Mj hlen];exact dW
 have UU:List.foldl (fun x1 x2=>x1++x2) #[] (List.replicate (if au.toArray.isEmpty=true then 0 else k.toNat) au.toArray)=(List.replicate k.toNat au).flatten.toArray:=by
  have f0:∀m:Nat,List.foldl (fun x1 x2=>x1++x2) #[] (List.replicate m au.toArray)=(List.replicate m au).flatten.toArray:=fun m=>by have:=foldl_rep au m [];rw [jC] at this;exact this
  rw [f0];cases au with
  | nil=>simp
  | cons a r'=>rw [aj (by simp)]
 refine wpAny_binaryOp_repeat_ref (T:="list") (U:="int") (by decide) ⟨_,e,rfl⟩ (fun s'=>typeIs_int s' k t) noFill_list_mul F.fills_int_mul F.slot_int_rmul repeat_list F.slot_int_index.lookup
  (call_meets F.slot_int_rmul (typeIs_int s k t) F.entry_int_rmul (F.args_int_rmul_2 _ _) (int___rmul___int_list k t l au.toArray n)
   ⟨e,rfl,⟨_,e,rfl⟩,call_meets F.slot_list_mul ⟨_,e,rfl⟩ F.entry_list_mul (F.args_list_mul_2 _ _) (AutoListH.list___mul___list_int_3 l au.toArray n k t UT US Gg) ⟨e,?_⟩⟩)
 rw [UU];exact ⟨.ref _,_,I.Mi (t':=s.toks) (r.rep k.toNat) (by rw [len_rep,jD];exact hz),rfl,q _ I.fresh⟩
end
section
variable {prog:Program} {w:World} {A:Around} {E:cV} {s:Shared}
end
section
variable {X:Cx}
end
end L2
namespace Mn
open PySem PySem.W PySem.Calls PyProof.Rows
variable {P:Params} {h:Heap}
theorem UW:∀(ns:List Int) (vs:List Value),WellAll P h vs (ns.map WData.int)→IntsAre vs ns:=by
 intro ns
 induction ns with
 | nil=>intro vs w;rw [jE] at w;cases w;exact .nil
 | cons n ns ih=>
  intro vs w;rw [iP] at w;cases w with
  | cons a b=>cases a;exact .cons _ _ (ih _ b)
variable {l:OpenLaw} {n:Nat}
theorem UX(hn:l.most=some n){args:List WData}{vals:List Value}
  (B8:l.row.toRowW.claim.pre args=true) (Gh:WellAll P h vals args) :
  ∃a vs ns,vals=[Value.ref a]∧args=[WData.list (ns.map WData.int)]∧h.get? a=some {cls:=.type "list",data:=.seq vs.toArray}∧IntsAre vs ns∧ns.length≤n:=by
 have UY:WShape.hasAll [] args [.list .int]=true:=(pre_splitW B8).1;have hc:l.pre.holds [] {args:=args}=true:=(pre_splitW B8).2;obtain ⟨d,r,rfl,h1,h2⟩:=hasAllW_cons UY;obtain rfl:=hasAllW_nil h2;obtain ⟨xs,rfl,h3⟩:=hasW_list h1;obtain ⟨ns,rfl⟩:=items_int h3;have hlen:ns.length≤n:=by
  unfold OpenLaw.pre at hc;have h4:(WTm.not (.lt (.lit (.int (n:Int))) (.len (.arg 0)))).holds [] {args:=[.list (ns.map .int)]}=true:=by have h4:=(holds_andW hc).1;rw [hn] at h4;exact h4
  have h5:=condW_of h4 (w_not (w_lt w_lit (w_len_list (w_arg rfl))));rw [aY] at h5;refine Nat.le_of_not_lt fun q=>?_;have q':(n:Int)<((ns.length:Nat):Int):=by lia
  first
   | (rw [dr q'] at h5;exact absurd h5 (by decide))
   | (simp at h5;lia)
 cases Gh with
 | cons w1 w2=>
  cases w2;cases w1 with
  | list ho UZ=>exact ⟨_,_,ns,rfl,rfl,ho,UW ns _ UZ,hlen⟩
theorem U0(l:OpenLaw)(args:List WData):l.row.toRowW.claim.post args (.bool true) args=true:=
 postW_of (r:=l.row.toRowW) (X:=(true == true))
  (show WShape.has [] (.bool true) .bool=true by first | rfl | decide | simp [WShape.has,WShape.arms,WShape.armsAll])
  (show (WTm.eq .res (.lit (.bool true))).value [] {args:=args,res:=some (.bool true),after:=args}=some (.bool (true == true)) from w_eq_bool (w_res rfl) w_lit) rfl
theorem U1{q:Program}{loose:List Str}{XP:(Str→Option Value)→Heap→Prop}{YP:World→Heap→Prop}{d:DefRec}
  (hn:l.most=some n) (zp:d.params.defaults=[])
  (call:∀(w:World) (s₀ s₁:Shared) (mg mb:d8) (fa:Addr) (o:Obj) (pm cd doc:Value) (a:Addr) (vs:List Value) (ns:List Int),
   Ground q loose [] XP w s₀ mg mb s₁.heap→YP w s₁.heap→
   s₁.heap.get? fa=some o→o.data=.func (docDef d.name d.params d.body d.scope pm cd doc)→s₁.heap.CodeRec cd d.name→mg d.name=some (.ref fa)→
   s₁.heap.get? a=some {cls:=.type "list",data:=.seq vs.toArray}→IntsAre vs ns→ns.length≤n→s₁.gens = #[]→
   codeAny (model l.prog w) callerA (.call (.ref fa) ⟨[.ref a],[]⟩) (fun r s'=>r=.ok (.ret (.bool true))∧OldK s₁.heap s'.heap∧s'.os=s₁.os∧AllBare s'.gens) s₁) :
  WalkO q loose XP YP l.row.toRowW d [] (fun f vs=>PySem.call f vs):=by
 intro w s₀ s₁ mg mb G Y fa o pm cd doc dV kV ho hd gF hD zq hg args vals as B8 aiG hrd Gh hlo;obtain rfl:dV=.none:=Dflts.none hD zp;obtain rfl:kV=.none:=Dflts.noKw hD;obtain ⟨a,vs,ns,rfl,rfl,Gi,hints,hlen⟩:=UX hn B8 Gh;refine enter_call (codeAny_mono (call w s₀ s₁ mg mb fa o pm cd doc a vs ns G Y ho (fd_plain hd) gF zq Gi hints hlen hg) fun r s' hq=>?_);obtain ⟨rfl,h2,h3,h4⟩:=hq;exact ⟨.inl ⟨.bool true,.bool true,[],rfl,fun _=>rfl,.bool true,U0 l _,fun _=>⟨List.Pairwise.nil,fun _ hm=>(nomatch hm)⟩⟩,h2,h3,h4⟩
section
variable {prog:Program} {w:World} {A:Around} {E:cV} {s:Shared} {K:Frag}
end
end Mn
namespace L2
open PySem PySem.Spec PyProof.Rows
theorem Mo:∀{vs:List Value} {ns:List Int},IntsAre vs ns→Vals (ns.map V.int) vs
 | _,_,.nil=>.nil
 | _,_,.cons n t h=>.cons ⟨t,rfl⟩ (Mo h)
def Gj(H:Hp):Prop:=∀b,H b=none∨∃o xs,H b=some (.iD o (.lst xs))
variable {K:aL} {k:Nat} {a:Addr} {x:Str}
theorem U2{P:Program}{w:World}{mg mb:d8}{CX:iW}{fa:Addr}{fd:FuncData}{sp:Sp}{s₁:Shared}{vs:List Value}{ns:List Int}
  (KX:K.In s₁.heap) (Mp:s₁.heap.Ns mainGlobals mg) (hb:s₁.heap.Ns builtinsNs mb) (U3:∀x:Str,x ≠ "__name__"→mb x=bootBuiltins x) (U4:s₁.heap.NoLimit) (hg:s₁.gens = #[])
  (ha:s₁.heap.get? a=some {cls:=.type "list",data:=.seq vs.toArray}) (hi:IntsAre vs ns) (hl:ns.length≤sizeLine) (hr:eF k callerA)
  (F:∀base:Heap,K.In base→base.Ns mainGlobals mg→aK P w K mg base CX k fa fd [x] sp) (U5:∀(s:Shared) (u:Value),BindsTo s fd ⟨[u],[]⟩ [(x,u)])
  (kG:∀H:Hp,Gj H→cu K H a (ns.map V.int)→sp [.ref a] H (fun v _=>v=.bl true) fun _ _ _=>False)
  (Gk:∀H e s',CX [] H s₁ (fun _ _ _=>False) e s'→False) :
  codeAny (model P w) callerA (.call (.ref fa) ⟨[.ref a],[]⟩) (fun r s'=>r=.ok (.ret (.bool true))∧OldK s₁.heap s'.heap∧s'.os=s₁.os∧AllBare s'.gens) s₁:=by
 have rv:=Mo hi;have U6:=hi.length
 have core:∀H:Hp,Gj H→cu K H a (ns.map V.int)→dQ P w H s₁.heap→(∀b,H b≠none→b=a)→(H a≠none→K.lookup a=none)→
   codeAny (model P w) callerA (.call (.ref fa) ⟨[.ref a],[]⟩) (fun r s'=>r=.ok (.ret (.bool true))∧OldK s₁.heap s'.heap∧s'.os=s₁.os∧AllBare s'.gens) s₁:=by
  intro H hO hS aF hA hK;have Mq:∀{b:Addr} {o:Obj},s₁.heap.get? b=some o→H b=none→(nO s₁.heap H).get? b=some o:=fun e n=>SU e n;have zm:∀{b:Addr} {o:Obj} {es:Array DictEntry} {ep:Nat},s₁.heap.get? b=some o→o.data=.dict es ep→H b=none:=fun{b o es ep} e d=>by
   cases q:H b with
   | none=>rfl
   | some u=>
    have e':b=a:=hA b (by rw [q];simp)
    subst e';rw [ha] at e;cases e;have d':Data.seq vs.toArray _=Data.dict es ep:=d;cases d'
  have B9:∀{b:Addr} {m:d8},s₁.heap.Ns b m→(nO s₁.heap H).Ns b m:=fun{b m} ⟨o,es,ep,e,d,r⟩=>⟨o,es,ep,Mq e (zm e d),d,r⟩;have Mr:K.In (nO s₁.heap H):=fun b o e=>Mq (KX b o e) (by
   cases q:H b with
   | none=>rfl
   | some u=>
    have e':b=a:=hA b (by rw [q];simp)
    subst e';rw [hK (by rw [q];simp)] at e;cases e)
  have hM:Mod K mg (nO s₁.heap H):=⟨Mr,B9 Mp,⟨mb,B9 hb,U3⟩,let ⟨mc,h1,h2⟩:=U4;⟨mc,B9 h1,h2⟩⟩
  have e0:qR P w K mg (nO s₁.heap H) callerA [] s₁ H:=⟨rfl,hM,fun b o e=>SV e,jy (SS _ _),trivial,fun b hb=>absurd (show b∈([]:List Addr) from hb) (by simp),aF,.of_eq hg⟩
  refine codeAny_mono ((F _ Mr (B9 Mp)).run callerA [] s₁ H ⟨[.ref a],[]⟩ [.ref a] [.ref a] _ _ hr e0 (U5 s₁ (.ref a)) (.cons rfl .nil) (kG H hO hS)) fun r s' h=>?_;cases r with
  | error e=>exact (Gk H e s' h).elim
  | ok fl=>
   cases fl with
   | next=>exact False.elim h
   | brk=>exact False.elim h
   | cont=>exact False.elim h
   | ret u=>
    obtain ⟨v,H',os,bare,un,U7,r',q⟩:=h;have q':v=.bl true:=q;subst q';obtain rfl:u=Value.bool true:=r';refine ⟨rfl,OldK.of_keep fun b o e=>?_,os,bare⟩;cases q:H b with
    | none=>exact un.keep b o e q (by intro z;exact absurd (show b∈([]:List Addr) from z) (by simp)) (by simp)
    | some u=>
     rcases hO b with z | ⟨ob,xs,z⟩;·rw [q] at z;cases z
     ·have z2:=un.gD b ob _ z
      obtain ⟨e1,_⟩:=aF b _ z;obtain ⟨e2,_⟩:=U7 b _ z2;rw [e] at e1;cases e1;exact e2
 cases hk:K.lookup a with
 | some o=>have e:=KX a o hk;rw [ha] at e;cases e;refine core (fun _=>none) (fun _=>.inl rfl) (.inr ⟨_,vs.toArray,_,hk,rfl,rfl,rfl,by rw [eQ,U6];exact hl,by simpa using rv⟩) (fun b u z=>by have z':(none:Option HO)=some u:=z;cases z') (fun b z=>absurd rfl z) fun z=>absurd rfl z
 | none=>
  refine core (fun b=>if b=a then some (.iD {cls:=.type "list",data:=.seq vs.toArray} (.lst (ns.map V.int))) else none) (fun b=>?_) (.inl (.inr ⟨{cls:=.type "list",data:=.seq vs.toArray},ak rfl⟩)) (fun b u z=>?_) (fun b z=>?_) fun _=>hk
  ·by_cases hb:b=a
   ·exact .inr ⟨_,_,ak hb⟩
   ·exact .inl (aj hb)
  ·by_cases hb:b=a
   ·have z':=(ak hb).symm.trans z
    cases z';subst hb;exact ⟨ha,by rw [aY];exact hl,vs,_,rv,ha⟩
   ·have z':=(aj hb).symm.trans z
    cases z'
  ·by_cases hb:b=a
   ·exact hb
   ·exact absurd (aj hb) z
abbrev Ms {K:aL} {h:Heap} (_:K.In h):PySem.W.Frag:=K
variable {n:Nat}
theorem U8{l:PySem.W.OpenLaw}{q:Program}{loose:List Str}{XP:(Str→Option Value)→Heap→Prop}{YP:World→Heap→Prop}{d:DefRec}{K:Params→PySem.W.Frag}{CX:World→iW}{sp:World→Sp}
  (hn:l.most=some n) (u9:n≤sizeLine) (zp:d.params.defaults=[]) (hr:eF k callerA)
  (hY:∀(w:World) (h:Heap),YP w h→(K w.params).In h)
  (F:∀(w:World) (mg:d8) (fa:Addr) (h:Heap),(K w.params).In h→h.Ns mainGlobals mg→mg d.name=some (.ref fa)→
   ∃fd:FuncData,(∀(s:Shared) (u:Value),BindsTo s fd ⟨[u],[]⟩ [(x,u)]) ∧
    ∀base:Heap,(K w.params).In base→base.Ns mainGlobals mg→aK l.prog w (K w.params) mg base (CX w) k fa fd [x] (sp w))
  (kG:∀(w:World) (H:Hp) (a:Addr) (ns:List Int),ns.length≤n→Gj H→cu (K w.params) H a (ns.map V.int)→sp w [.ref a] H (fun v _=>v=.bl true) fun _ _ _=>False)
  (Gk:∀(w:World) (H:Hp) (s:Shared) (e:Value) (s':Shared),CX w [] H s (fun _ _ _=>False) e s'→False) :
  PySem.W.WalkO q loose XP YP l.row.toRowW d [] (fun f vs=>PySem.call f vs):=by
 refine Mn.U1 hn zp fun w s₀ s₁ mg mb fa o pm cd doc a vs ns G Y ho hd gF zq Gi hints hlen hg=>?_;have KX:=hY w _ Y;obtain ⟨fd,hb,hF⟩:=F w mg fa _ KX G.T.g zq;exact U2 KX G.T.g G.T.b G.T.builtins G.T.nolimit hg Gi hints (av hlen u9) hr hF hb (fun H hO hS=>kG w H a ns hlen hO hS) fun H e s'=>Gk w H s₁ e s'
def inClass(s:Stmt)(j:Nat):Stmt:=match s with
 | .ClassDef _ _ _ body _ _ _ _ _ _ _=>body.getD j (.Pass ⟨0,0,0,0⟩)
 | _=>.Pass ⟨0,0,0,0⟩
def jR(s:Stmt):Arguments:=match s with
 | .FunctionDef _ a _ _ _ _ _ _ _ _=>a
 | _=>{posonlyargs:=[],args:=[],vararg:=none,kwonlyargs:=[],kw_defaults:=[],kwarg:=none,defaults:=[]}
def gX(s:Stmt):List Stmt:=match s with
 | .FunctionDef _ _ b _ _ _ _ _ _ _=>b
 | _=>[]
def aQ(s:Stmt):Scope:=match s with
 | .FunctionDef _ _ _ _ _ _ sc _ _ _=>sc
 | _=>{kind:=.function,names:=[],isGenerator:=false,isCoroutine:=false}
abbrev bO:iW:=fun _ _ _ _ _ _=>False
abbrev E0:XK:=fun _ _ _=>False
theorem aP{X:Cx}:Passes bO X E0:=fun _ _ _ _ _ _ _ h=>h.elim
structure gA (K:aL) (x qual:Str) (st:Stmt) (f:Addr) (fd:FuncData):Prop where
 ex:∃(oc:Value) (od:Option Addr) (kV doc pm:Value) (an:Option Addr) (bq ct:Value) (gI:Array (Option Value)),
  fd=PySem.W.fnOf x qual (jR st) (gX st) (aQ st) .none kV doc pm an bq ct∧K.lookup f=some ⟨oc,od,.func fd,gI⟩∧PySem.W.codeIn K bq qual=true
 kp:PySem.W.keepIn K (.ref f)=true
abbrev aB (K:aL) (x:Str) (st:Stmt) (f:Addr) (fd:FuncData):Prop:=gA K x x st f fd
section
variable {P:Program} {w:World} {K:aL} {mg:d8} {base:Heap}
variable {qual:Str} {st:Stmt} {f:Addr} {fd:FuncData} {N ps:List Str} {sp:Sp}
theorem gA.ok(F:gA K x qual st f fd)(S:br N ps (aQ st))(len:∀vs H Q E,sp vs H Q E→vs.length=ps.length)
  (lh:∀(bq:Value) (A:Around) (outer:List Env) (s:Shared) (H:Hp) (vs:List V) (Q:VK) (E:XK),eF k (A.deeper (envOfC qual (aQ st) s.heap.objs.size f bq))→sp vs H Q E→
   ∃t,fZ (jP bO P w K mg base N qual (aQ st) f bq A outer s H E).pk (gX st) t∧t {nx:=fun _ H'=>Q .aV H',rt:=Q} (start N vs) H):aK P w K mg base bO (k+1) f fd ps sp:=by
 obtain ⟨oc,od,kV,doc,pm,an,bq,ct,gI,rfl,lk,gF⟩:=F.ex;refine F4 lk gF S len fun A outer s H vs Q E hr kG=>?_;obtain ⟨t,h,q⟩:=lh bq A outer s H vs Q E hr kG;exact ⟨t,h.pk,q⟩
theorem gA.cC(F:gA K x qual st f fd)(S:br N ps (aQ st))
  (lh:∀(bq:Value) (A:Around) (outer:List Env) (s:Shared) (H:Hp) (vs:List V) (Q:VK) (E:XK),eF k (A.deeper (envOfC qual (aQ st) s.heap.objs.size f bq))→sp vs H Q E→
   ∃t,fZ (jP bO P w K mg base N qual (aQ st) f bq A outer s H E).pk (gX st) t∧t {nx:=fun _ H'=>Q .aV H',rt:=Q} (start N vs) H)
  (len:∀vs H Q E,sp vs H Q E→vs.length=ps.length:=by intro vs H Q E h;repeat first | (obtain ⟨rfl,_⟩:=h;rfl) | (subst h;rfl) | obtain ⟨_,h⟩:=h):aK P w K mg base bO (k+1) f fd ps sp:=F.ok S len lh
theorem gA.binds(F:gA K x qual st f fd)
  (h:∀(kV doc pm:Value) (an:Option Addr) (bq ct:Value) (us:List Value),us.length=ps.length→bindArgs (PySem.W.fnOf x qual (jR st) (gX st) (aQ st) .none kV doc pm an bq ct) ⟨us,[]⟩=pure (ps.zip us)):Binds K fd ps []:=by
 obtain ⟨oc,od,kV,doc,pm,an,bq,ct,gI,rfl,lk,gF⟩:=F.ex;exact .all (h kV doc pm an bq ct)
theorem gA.bP(F:gA K x qual st f fd)
  (h:∀(kV doc pm:Value) (an:Option Addr) (bq ct:Value) (us:List Value),us.length=ps.length→bindArgs (PySem.W.fnOf x qual (jR st) (gX st) (aQ st) .none kV doc pm an bq ct) ⟨us,[]⟩=pure (ps.zip us):=by intro _ _ _ _ _ _ us hl;rcases us with _ | ⟨_,_ | ⟨_,_ | ⟨_,_ | ⟨_,_ | ⟨_,_ | ⟨_,_ | ⟨_,_⟩⟩⟩⟩⟩⟩⟩ <;> first | rfl | (simp at hl;done)):Binds K fd ps []:=F.binds h
theorem bQ{oc:Value}{od an:Option Addr}{gI:Array (Option Value)}{kV doc pm bq ct:Value}(l:K.lookup f=some ⟨oc,od,.func (PySem.W.fnOf x qual (jR st) (gX st) (aQ st) .none kV doc pm an bq ct),gI⟩)
  (c:PySem.W.codeIn K bq qual=true) (k:PySem.W.keepIn K (.ref f)=true):gA K x qual st f (PySem.W.fnOf x qual (jR st) (gX st) (aQ st) .none kV doc pm an bq ct):=⟨⟨oc,od,kV,doc,pm,an,bq,ct,gI,rfl,l,c⟩,k⟩
end
theorem cT(h:n≤1000):n<sizeLine:=dD h (by decide)
section
variable {X:Cx}
theorem pv(i:Nat){pos:Pos}(hN:X.N[i]?=some x:=by rfl)(hv:nP X.env.scope x:=by first | exact Or.inl rfl | exact Or.inr (Or.inl rfl) | exact Or.inr (Or.inr rfl))(hd:(x == ("__debug__":Str))=false:=by decide)
  (gF:(x == ("__classdict__":Str))=false:=by decide):PE X (.Name x pos) (pj i):=S3 hN hv hd gF
end
variable {A B:Prop}
theorem eG(h:B):if false=true then A else B:=by rw [aj dW];exact h
theorem gd(h:A):if true=true then A else B:=by rw [ak rfl];exact h
theorem c_{c:Prop}[Decidable c](h1:c→A)(h2:¬c→B):if c then A else B:=by
 by_cases h:c
 ·rw [ak h]
  exact h1 h
 ·rw [aj h]
  exact h2 h
def ag(H H':Hp):Prop:=∀b o,H b=some o→H' b=some o
theorem ag.refl(H:Hp):ag H H:=fun _ _ h=>h
variable {H:Hp}
theorem ag.trans{H1 H2:Hp}(a:ag H H1)(b:ag H1 H2):ag H H2:=fun c o h=>b c o (a c o h)
theorem ag.seq{H':Hp}{xs:List V}(e:ag H H')(h:cu K H a xs):cu K H' a xs:=by
 rcases h with (h | ⟨o,h⟩) | h;·exact .inl (.inl (e _ _ h))
 ·exact .inl (.inr ⟨o,e _ _ h⟩)
 ·exact .inr h
end L2
set_option maxHeartbeats 4000000
namespace L2
open PySem PySem.Spec PyProof.Rows
structure B_ (P:Program) (w:World) (outer:List Env) (H:Hp) (s:Shared) (H':Hp) (ea C:Addr) (B:Heap) (t:Addr) (s':Shared):Prop where
 os:s'.os=s.os
 bare:AllBare s'.gens
 fl:Heap.FlyingW B outer ea (.ref C) (.ref t) s'.heap
 aF:dQ P w H' B
 kb:∀b o,s.heap.get? b=some o→H b=none→b∉dy outer→B.get? b=some o
 tb:∀b o,s.heap.get? b=some o→b∉dy outer→∃o',B.get? b=some o'
 sl:∀b o,s.heap.get? b=some o→H b=none→b∈dy outer→∃l,s'.heap.get? b=some {o with slots:=l}
 frh:∀b∈dy outer,H b=none
 U9:∀b o,s.heap.get? b=some o→H b=none→H' b=none
 gR:∀b xs,H b=some (.tup xs)→H' b=some (.tup xs)
 gD:∀b o u,H b=some (.iD o u)→H' b=some (.iD o u)
 gS:∀b ps,H b=some (.nN ps)→∃more,H' b=some (.nN (ps++more))
def et(P:Program)(w:World):iW:=fun outer H s E e s'=>∃ea C H' B t,e=.ref ea∧B_ P w outer H s H' ea C B t s'∧E (.ref C) none H'
section
variable {P:Program} {w:World} {outer:List Env} {H H':Hp} {s s':Shared} {ea C t:Addr} {B:Heap}
def ExcAt(ea C:Addr)(h:Heap):Prop:=∃oe,h.get? ea=some oe∧oe.cls=.ref C∧PySem.W.notCls oe=true
def U_(ea C:Addr):HO:=.ext (ExcAt ea C)
end
section
variable {X:Cx} {pins:bS} {σ:St} {H H':Hp} {s s':Shared} {ea C t:Addr} {B:Heap}
structure ve (X:Cx) (E:XK):Prop where
 jI:X.stack=X.env::X.outer
 fr:X.env.frame=some X.env.locals
 ex:X.ex=[]
 xe:X.xe=fun e s'=>wpAny (model X.prog X.w) X.A (leaving X.env e) (fun _ iI=>et X.prog X.w X.outer X.H₀ X.s₀ E e iI) (fun e' iI=>et X.prog X.w X.outer X.H₀ X.s₀ E e' iI) s'
theorem Ca{env:Env}{outer:List Env}{L:Addr}(h:env.frame=some L):dy (env::outer)=L::dy outer:=by unfold dy;rw [Bi,h]
variable {E:XK}
theorem B_.leave(L:ve X E)(I:Inv X pins σ H s)(f:B_ X.prog X.w X.stack H s H' ea C B t s'){h:Heap}(x:Heap.FlyingW B X.outer ea (.ref C) (.ref t) h)(up:s'.heap.UpToSlots h):B_ X.prog X.w X.outer X.H₀ X.s₀ H' ea C B t {s' with heap:=h}:=by
 have nL:∀b o,X.s₀.heap.get? b=some o→b≠X.env.locals:=fun b o e=>fG (dC (bN e) I.ok.above);have ns:∀b o,X.s₀.heap.get? b=some o→b∉dy X.outer→b∉dy X.stack:=fun b o e nb z=>by
  rw [L.jI,Ca L.fr] at z;rcases fg.mp z with z | z;·exact nL b o e z
  ·exact nb z
 have nx:∀b:Addr,b∉X.ex:=fun b z=>by rw [L.ex] at z;cases z
 refine ⟨f.os.trans I.os,f.bare,x,f.aF,fun b o e n nb=>?_,fun b o e nb=>?_,fun b o e n hb=>?_,I.ok.nR,fun b o e n=>?_,fun b xs e=>f.gR b xs (I.base.gR b xs e),fun b o u e=>f.gD b o u (I.base.gD b o u e),fun b ps e=>?_⟩;·exact f.kb b o (I.base.keep b o e n nb (nx b)) (I.base.free b o e n (nx b)) (ns b o e nb)
 ·obtain ⟨o',e'⟩:=I.base.there b o e (nx b)
  exact f.tb b o' e' (ns b o e nb)
 ·obtain ⟨l,q⟩:=I.base.slot b o e n hb (nx b)
  have hs:b∈dy X.stack:=by rw [L.jI,Ca L.fr];exact ia _ hb
  obtain ⟨l2,q2⟩:=f.sl b _ q (I.base.free b o e n (nx b)) hs;obtain ⟨_,o2,q3,nf⟩:=f.fl.2.2.1.mem hs;rw [q2] at q3;cases q3;obtain ⟨l3,q4⟩:=up b _ q2 nf;exact ⟨l3,q4⟩
 ·obtain ⟨o',e'⟩:=I.base.there b o e (nx b)
  exact f.U9 b o' e' (I.base.free b o e n (nx b))
 ·obtain ⟨m1,e1⟩:=I.base.gS b ps e
  obtain ⟨m2,e2⟩:=f.gS b _ e1;exact ⟨m1++m2,by rw [e2,Array.append_assoc]⟩
theorem ig:Passes (et X.prog X.w) X (fun _ _ _=>False):=fun pins σ H s e s' I h=>by obtain ⟨_,_,_,_,_,_,_,q⟩:=h;exact q.elim
theorem iX(L:ve X E):Passes (et X.prog X.w) X E:=fun pins σ H s e s' I h=>by
 obtain ⟨ea,C,H',B,t,rfl,f,q⟩:=h;rw [L.xe];refine wpAny_leaves_onW (by rw [I.ok.frames,L.jI]) L.fr (by have z:=f.fl;rw [L.jI] at z;exact z) fun h' x up=>?_
 exact ⟨ea,C,H',B,t,rfl,f.leave L I x up,q⟩
end
variable {K:aL} {h:Heap}
theorem Va{C:Addr}{vg:List Value}{newId:String}(dZ:K.In h)(hq:PySem.W.excIn K C vg newId=true) :
  ∃bm N nm qn bs hdct sn sub ab col dd k0 k1 k2 k3 k5 mN,h.get? C=some (excClassObj nm qn C N bs bm hdct sn sub ab col dd k0 k1 k2 k3 k5 newId)∧h.Ns N mN∧mN "__init__"=none∧OwnTail h vg bm∧PySem.W.mroIn K C=fun b=>some ((Value.ref C::bm).contains b):=by
 unfold PySem.W.excIn at hq
 split at hq
 ·rename_i vh cls slt look
  split at hq
  ·rename_i CC rest a0 a1 a2 a3 nn a5 em es
   simp only [Bool.and_eq_true,oZ,Bool.not_eq_true'] at hq;obtain ⟨⟨⟨⟨⟨e1,e2⟩,e3⟩,e4⟩,e5⟩,e6⟩:=hq;subst e1 e2;have Vb:PySem.W.mroIn K CC=fun b=>some ((Value.ref CC::rest).contains b):=by
    funext b
    unfold PySem.W.mroIn PySem.W.clsIn;rw [look];simp [em]
   obtain ⟨c1,c2,c3,c4,c5,c6,c7,c8,c9,Vc,c11⟩:=cls;dsimp only at em e3 e5 e6;subst em e3;have Vd:slt = #[a0,a1,a2,a3,some (.builtin nn),a5]:=by obtain ⟨ll⟩:=slt;simp only at es;rw [es]
   subst Vd;exact ⟨rest,c4,c1,c5,c2,c6,c7,c8,c9,Vc,vh,a0,a1,a2,a3,a5,_,dZ _ _ look,.of_isNs (PySem.W.isNs_of_in dZ e5),PySem.W.nsMap_none_of_in dZ e5 e6,PySem.W.tail_of_in dZ e4,Vb⟩
  ·cases hq
 ·cases hq
section
variable {X:Cx} {E:XK} {x:Str} {C:Addr} {np jg pos:Pos} {e:Expr} {es:List Expr} {ta:TA} {B newId Ve:String} {vg:List Value}
def Vf(C:Addr)(E:XK)(ta:TA):TS:=fun _ σ H=>ta σ H fun vs H1=>vs.length≤sizeLine∧E (.ref C) none H1
theorem n9(L:ve X E)(hc:X.calm=true)(FB:ExcBaseFacts B newId Ve vg)(hq:PySem.W.excIn X.K C vg newId=true)(hg:Gl X x)(hm:X.mg x=some (.ref C))(ha:PA X (e::es) ta)
  (hs:starEach (e::es) X.env=(false,eval e X.env)::starEach es X.env:=by rfl) (hp:(backTo jg (starEach es X.env)).any (·.1)=false:=by rfl) (hd:(x == ("__debug__":Str))=false:=by decide) :
  PS X (.Raise (some (.Call (.Name x np) (e::es) [] jg)) none pos) (Vf C E ta):=by
 intro pins s σ H D I h;obtain ⟨bm,N,nm,qn,bs,hdct,sn,sub,ab,col,dd,k0,k1,k2,k3,k5,mN,hC,hN,Vg,T,_⟩:=Va I.ok.mod.dZ hq
 refine wpAny_Raise_call_subT (C:=C) (nm:=nm) (q:=qn) (N:=N) (bs:=bs) (bm:=bm) (hdct:=hdct) (sn:=sn) (sub:=sub) (ab:=ab) (col:=col) (dd:=dd) (k0:=k0) (k1:=k1) (k2:=k2) (k3:=k3) (k5:=k5) FB (mN:=mN) (T.hasType FB.hasBase) (I.ok.hd hc)
  (by rw [hs];show (false || (backTo jg (starEach es X.env)).any (·.1))=false;rw [hp];rfl) Vg (BQ I hg hm ⟨rfl,?_⟩ hd)
 have h1:=ha jg pins s σ H _ I h;rw [hs] at h1 ⊢;refine Calls.evalArgs_plain (aS h1 fun us s2 ⟨vs,H1,I1,r,hl,q⟩=>⟨rfl,by rw [←r.length];exact hl,I1.bk _ _ hC,hN.keeps I1.bk,T.keeps I1.bk,fun h' ea mk=>?_⟩)
 rw [L.xe];have nL:∀b o,X.s₀.heap.get? b=some o→b≠X.env.locals:=fun b o q=>fG (dC (bN q) I1.ok.above);have ns:∀b o,X.s₀.heap.get? b=some o→b∉dy X.outer→b∉dy X.stack:=fun b o q nb z=>by
  rw [L.jI,Ca L.fr] at z;rcases fg.mp z with z | z;·exact nL b o q z
  ·exact nb z
 have nx:∀b:Addr,b∉X.ex:=fun b z=>by rw [L.ex] at z;cases z
 have ff:s2.heap.FunFrames (PySem.W.hideAll s2.heap (dy X.stack)) (X.env::X.outer):=by have z:=I1.stack;rw [←L.jI];exact PySem.W.funFrames_hide z fun env he a hf=>List.mem_filterMap.mpr ⟨env,he,hf⟩
 refine wpAny_leaves_madeW (base:=PySem.W.hideAll s2.heap (dy X.stack)) (h:=s2.heap) (by rw [I1.ok.frames,L.jI]) L.fr (fun b o q=>PySem.W.of_hideAll _ q) ff mk fun h2 t fl _ _ up=>?_
 refine ⟨ea,C,H1,_,t,rfl,⟨I1.os,I1.bare,fl,fun a o e1=>?_,fun b o e1 n nb=>?_,fun b o e1 nb=>?_,fun b o e1 n hb=>?_,I1.ok.nR,fun b o e1 n=>?_,I1.base.gR,I1.base.gD,I1.base.gS⟩,q⟩
 ·refine (I1.aF a o e1).ja (fun b u hb e2=>Bh _ e2 fun z=>?_) (fun _ z=>z) fun _ _ z=>z
  have n0:=I1.pf b z;rcases hb with hb | hb
  ·subst hb
   rw [e1] at n0;cases n0
  ·rw [hb] at n0
   cases n0
 ·exact Bh _ (I1.base.keep b o e1 n nb (nx b)) (ns b o e1 nb)
 ·obtain ⟨o',e2⟩:=I1.base.there b o e1 (nx b)
  exact ⟨o',Bh _ e2 (ns b o e1 nb)⟩
 ·obtain ⟨l,e2⟩:=I1.base.slot b o e1 n hb (nx b)
  have mO:b∈dy X.stack:=by rw [L.jI,Ca L.fr];exact ia _ hb
  obtain ⟨_,o2,e3,nf⟩:=I1.stack.mem mO;rw [e2] at e3;cases e3;obtain ⟨l2,e4⟩:=up b _ (mk.keeps _ _ e2) nf;exact ⟨l2,e4⟩
 ·obtain ⟨o',e2⟩:=I1.base.there b o e1 (nx b)
  exact I1.base.free b o e1 n (nx b)
end
section
variable {X:Cx} {k:Nat} {f C:Addr} {fd:FuncData} {ps:List Str} {sp:Sp} {gz:List V} {ds:List Value} {x m:Str} {p pos apos:Pos} {e o:Expr} {es:List Expr} {ta:TE} {t:TA}
variable {te:TX} {i:Nat} {pos':Pos}
end
section
variable {X:Cx} {pins:bS} {σ:St} {H:Hp} {s:Shared} {ea:Addr}
end
section
variable {M:Model} {A:Around} {E:cV} {h:Heap} {g:Array GenState} {d:Drawn} {t:Nat} {os:OsState} {e:Addr} {oe:Obj} {Q:Bool→Shared→Prop}
variable {nm q nm' q':Str} {C N D N':Addr} {bs bm bs' bm':List Value} {hdct aiO:Bool} {sn sn':List Str} {sub aiQ:List Value} {ab ab':Bool} {col aiS:Option Bool} {dd dd':Option Addr} {k0 k1 k2 k3 k5 j0 j1 j2 j3 j5:Option Value} {newId aiU:String}
end
section
variable {X:Cx} {body:List Stmt} {b₀:Stmt} {aiV:List Stmt} {np aiW pos:Pos} {x n:Str} {D:Addr} {tb:TSX} {ts:TS} {vg:List Value} {newId:String} {i:Nat}
end
section
variable {P:Program} {w:World} {K:aL} {mg:d8} {base:Heap}
variable {x qual:Str} {st:Stmt} {f:Addr} {fd:FuncData} {N ps:List Str} {k:Nat} {sp:Sp}
theorem gA.Gm(F:gA K x qual st f fd)(S:br N ps (aQ st))(len:∀vs H Q E,sp vs H Q E→vs.length=ps.length)
  (lh:∀(bq:Value) (A:Around) (outer:List Env) (s:Shared) (H:Hp) (vs:List V) (Q:VK) (E:XK),eF k (A.deeper (envOfC qual (aQ st) s.heap.objs.size f bq))→sp vs H Q E→
   ve (jP (et P w) P w K mg base N qual (aQ st) f bq A outer s H E) E→
   ∃t,fZ (jP (et P w) P w K mg base N qual (aQ st) f bq A outer s H E) (gX st) t∧t {nx:=fun _ H'=>Q .aV H',rt:=Q} (start N vs) H):aK P w K mg base (et P w) (k+1) f fd ps sp:=by
 obtain ⟨oc,od,kV,doc,pm,an,bq,ct,gI,rfl,lk,gF⟩:=F.ex;exact F4 lk gF S len fun A outer s H vs Q E hr kG=>lh bq A outer s H vs Q E hr kG ⟨rfl,rfl,rfl,rfl⟩
theorem gA.dS(F:gA K x qual st f fd)(S:br N ps (aQ st))
  (lh:∀(bq:Value) (A:Around) (outer:List Env) (s:Shared) (H:Hp) (vs:List V) (Q:VK) (E:XK),eF k (A.deeper (envOfC qual (aQ st) s.heap.objs.size f bq))→sp vs H Q E→
   ve (jP (et P w) P w K mg base N qual (aQ st) f bq A outer s H E) E→
   ∃t,fZ (jP (et P w) P w K mg base N qual (aQ st) f bq A outer s H E) (gX st) t∧t {nx:=fun _ H'=>Q .aV H',rt:=Q} (start N vs) H)
  (len:∀vs H Q E,sp vs H Q E→vs.length=ps.length:=by intro vs H Q E h;repeat first | (obtain ⟨rfl,_⟩:=h;rfl) | (subst h;rfl) | obtain ⟨_,h⟩:=h):aK P w K mg base (et P w) (k+1) f fd ps sp:=F.Gm S len lh
end
structure qU (K:aL) (C:Addr):Prop where
 ci:PySem.W.hasDictIn K C=true
 ga:PySem.W.findIn K (.ref C) "__getattribute__"=some (some (.builtin "BaseException.__getattribute__"))
 gn:PySem.W.findIn K (.ref C) "__getattr__"=some none
 ca:PySem.W.findIn K (.ref C) "__class__"=some (some (.builtin "object.__class__"))
 mo:PySem.W.mroIn K C (.type "object")=some true
 mb:PySem.W.mroIn K C (.type "BaseException")=some true
section
variable {prog:Program} {w:World} {A:Around} {E:cV} {h:Heap} {g:Array GenState} {d:Drawn} {t:Nat} {os:OsState} {K:aL} {a C:Addr} {o:Obj}
theorem Vh{R:Result→Shared→Prop}(dZ:K.In h)(c:qU K C)(hx:h.get? a=some o)(hc:o.cls=.ref C)(hq:R (.ok (.ret (.ref C))) ⟨h,g,d,t,os⟩) :
  codeAny (model prog w) A (.call (.builtin "getset_descriptor.__get__") ⟨[.builtin "object.__class__",.ref a,.ref C],[]⟩) R ⟨h,g,d,t,os⟩:=by
 have Mt:(⟨h,g,d,t,os⟩:Shared).TypeIs (.builtin "object.__class__") "getset_descriptor":=Ft;have L1:=PySem.W.looks_mroIn (M:=model prog w) dZ c.mo;have ow:=F.owner_object_class;refine codeAny_call_builtin F.slot_gs_get.plain F.entry_gs_get (F.slot_gs_get.check _ _ _ _ _ _ _ _ Mt (F.args_gs_get _ _ _) ?_)
 repeat (any_goals (first | assumption | (with_reducible refine yS hx ?_;rw [hc]) | (rw [ow];with_reducible refine L1.at ?_) | wp_step))
 refine ⟨Code.quiet_builtin _ (by decide +kernel),codeAny_builtin F.entry_object_class ?_⟩
 repeat (any_goals (first | assumption | (with_reducible refine yS hx ?_;rw [hc]) | wp_step))
variable {tk:Tok}
theorem Vi{Q:Fin→Shared→Prop}(dZ:K.In h)(c:qU K C)(hx:h.get? a=some o)(hc:o.cls=.ref C)(hq:Q (.done (.ret (.ref C))) ⟨h,g,d,t,os⟩) :
  wpAny (model prog w) A (Builtin.«object.__getattribute__» ⟨[.ref a,.str "__class__" tk],[]⟩) Q E ⟨h,g,d,t,os⟩:=by
 have Mt:(⟨h,g,d,t,os⟩:Shared).TypeIs (.builtin "object.__class__") "getset_descriptor":=Ft;have L1:=Bn (M:=model prog w) dZ c.ca;have f5:=Ft;have f6:=F.slot_gs_get.lookup;have f7:=F.slot_gs_set.lookup
 repeat (any_goals (first | assumption | (with_reducible refine yS hx ?_;rw [hc]) | with_reducible refine L1.at ?_ | wp_step))
 refine Vh dZ c hx hc ?_
 repeat (any_goals (first | assumption | wp_step))
theorem Vj{M:Model}{nv:Value}{Q:Unit→Shared→Prop}(dZ:K.In h)(c:qU K C)(hx:h.get? a=some o)(hc:o.cls=.ref C)(hq:Q () ⟨h,g,d,t,os⟩) :
  wpAny M A (checkBuiltinCall "BaseException.__getattribute__" ⟨[.ref a,nv],[]⟩) Q E ⟨h,g,d,t,os⟩:=by
 have hk:builtinKind "BaseException.__getattribute__"=some .slot:=by decide +kernel
 have hs:splitId "BaseException.__getattribute__"=some ("BaseException","__getattribute__"):=by decide +kernel
 have L1:=PySem.W.looks_mroIn (M:=M) dZ c.mb;have ha:=F.args_bexc_ga (.ref a) nv;simp only [checkBuiltinCall,hk,hs];refine cS ?_;unfold isInstance
 repeat (first | (with_reducible refine yS hx ?_;rw [hc]) | with_reducible refine L1.at ?_ | wp_step)
 exact hq
theorem Vk{fill expr:Bool}{Q:cV}(dZ:K.In h)(c:qU K C)(hx:h.get? a=some o)(hc:o.cls=.ref C)(hq:Q (.ref C) ⟨h,g,d,t,os⟩) :
  wpAny (model prog w) A (getAttrBy (.ref a) (.str "__class__" tk) fill expr) Q E ⟨h,g,d,t,os⟩:=by
 have f3:=F.attrBase_ValueError.ga.bind (.ref a);have z0:(expr && onTheHeap (Value.builtin "BaseException.__getattribute__"))=false:=by cases expr <;> rfl
 have z2:(Value.builtin "BaseException.__getattribute__" == Value.builtin "object.__getattribute__")=false:=by decide +kernel
 have z1:(onTheHeap (Value.ref C) && Value.builtin "BaseException.__getattribute__" == Value.builtin "object.__getattribute__")=false:=by rw [z2];rfl
 have L1:=Bn (M:=model prog w) dZ c.ga;have L2:=Bn (M:=model prog w) dZ c.gn
 repeat (any_goals (first | assumption | (with_reducible refine yS hx ?_;rw [hc]) | with_reducible refine L1.at ?_ | with_reducible refine L2.at ?_ | wp_step))
 refine codeAny_call_builtin F.attrBase_ValueError.ga.plain F.entry_bexc_ga (Vj dZ c hx hc (Vi dZ c hx hc ?_))
 repeat (any_goals (first | assumption | wp_step))
theorem Vl{Q:Option Value→Shared→Prop}(dZ:K.In h)(c:qU K C)(hx:h.get? a=some o)(hc:o.cls=.ref C)(hq:Q (some (.ref C)) ⟨h,g,d,t+1,os⟩) :
  wpAny (model prog w) A (getAttr? (.ref a) "__class__") Q E ⟨h,g,d,t,os⟩:=by
 unfold getAttr? getAttrBy?
 repeat (any_goals (first | assumption | with_reducible apply Vk dZ c hx hc | wp_step))
theorem Vm(c:qU K C):PySem.W.KitX K (.ref a) (.ref C) (ExcAt a C) where
 ty:=fun M h _ k=>by obtain ⟨oe,e1,e2,_⟩:=k;exact e2▸(PySem.W.Looks.ld e1).andThen .now
 it:=fun M h dZ _=>by
  obtain ⟨cd,hc,_⟩:=PySem.W.any_some c.ci;unfold PySem.W.clsIn at hc
  split at hc
  ·rename_i look
   intro A' Q' E' s' k q;unfold isType loadHead;exact cS (wpAny_loadPart (k _ _ (dZ _ _ look)) (e8 q))
  ·cases hc
 ne:=fun h tp dd au n sl dZ Vn=>by
  obtain ⟨cd,hc,_⟩:=PySem.W.any_some c.ci;refine Bool.eq_false_iff.mpr fun q=>?_;have e:C=tp:=Value.ref.inj (oZ.mp q);subst e;unfold PySem.W.clsIn at hc
  split at hc
  ·rename_i look
   have z:=(dZ _ _ look).symm.trans Vn;cases z
  ·cases hc
 ca:=fun{prog w A E Q s} dZ k z=>by obtain ⟨oe,e1,e2,_⟩:=k;obtain ⟨h,g,d,t,os⟩:=s;exact Vl dZ c e1 e2 z
end
def Cb(a:Addr)(h:Heap):Prop:=∃o ep,h.get? a=some o∧o.ExactDict∧o.data=.dict #[] ep∧(a == sysModules)=false
theorem Cb.Cc{a:Addr}(e:Cb a h):PySem.W.KitAt a "dict" h:=by obtain ⟨o,_,e,c,_⟩:=e;exact ⟨o,e,c.1⟩
def Mu(a:Addr):HO:=.ext (Cb a)
inductive zr (K:aL) (H:Hp):V→Value→Prop where
 | of {x:V} {t:Value} (h:jO K H x t):zr K H x t
 | exc {a C:Addr} (e:H a=some (U_ a C)) (c:qU K C):zr K H (.ref a) (.ref C)
 | vh {a:Addr} (e:H a=some (Mu a)):zr K H (.ref a) (.type "dict")
def Mv:V→Value
 | .ty n=>.type n
 | .ref a=>.ref a
 | _=>.none
def Vo:V→Bool
 | .ty _=>true
 | .ref _=>true
 | _=>false
def Vp(K:aL):List V→Hp→VK→Prop:=fun xs H Q=>∃x c t b,xs=[x,c]∧Vo c=true∧zr K H x t∧PySem.W.kitOne K t (Mv c)=some b∧Q (.bl b) H
theorem vi{X:Cx}(hK:X.K=K:=by rfl):iV X (.builtin "isinstance") (Vp K):=by
 intro pins s σ H xs us Q I r h;subst hK;obtain ⟨x,c,t,b,rfl,hc,ty,e,q⟩:=h;obtain ⟨u,cv,rfl,rx,rc⟩:=vals2 r;have ec:cv=Mv c:=by
  cases c with
  | ty n=>exact rc
  | ref a=>exact rc
  | _=>cases hc
 subst ec;cases ty with
 | of ty=>exact Ue I rx ty e fun tk=>⟨.bl b,H,I.tok tk,rfl,q⟩
 | @vh a ea=>cases rx;obtain ⟨k,_,_⟩:=(show fQ X.prog X.w H s.heap a (.ext (Cb a)) from I.aF a _ ea);exact jz PySem.W.kitx_dict I.e9 k.Cc e (fun z=>nomatch z) fun tk=>⟨.bl b,H,I.tok tk,rfl,q⟩
 | @exc a C ea cc=>cases rx;obtain ⟨k,_,_⟩:=(show fQ X.prog X.w H s.heap a (.ext (ExcAt a C)) from I.aF a _ ea);exact jz (Vm cc) I.e9 k e (fun z=>nomatch z) fun tk=>⟨.bl b,H,I.tok tk,rfl,q⟩
theorem boot_isinstance:bootBuiltins "isinstance"=some (.builtin "isinstance"):=by decide +kernel
theorem boot_abs:bootBuiltins "abs"=some (.builtin "abs"):=by decide +kernel
theorem boot_min:bootBuiltins "min"=some (.builtin "min"):=by decide +kernel
theorem boot_int:bootBuiltins "int"=some (.type "int"):=by decide +kernel
theorem boot_bool:bootBuiltins "bool"=some (.type "bool"):=by decide +kernel
theorem boot_tuple:bootBuiltins "tuple"=some (.type "tuple"):=by decide +kernel
theorem boot_list:bootBuiltins "list"=some (.type "list"):=by decide +kernel
end L2
namespace My
open PySem L2
def ik(n:Int):Bool:=(List.range 32).all fun e=>decide (e<2) || decide (n<(e:Int)*(e:Int)) || decide (n % (e:Int)≠0)
def n_(n:Int):Bool:=(List.range 32).all fun e=>decide (e<2) || decide (n≤(e:Int)) || decide (n % (e:Int)≠0)
set_option maxRecDepth 100000 in
theorem Vq:∀k:Nat,k<998→(k<2∨ik (k:Int)=n_ (k:Int)):=by decide +kernel
variable {n:Int}
theorem Vr(h1:2≤n)(h2:n≤997):ik n=n_ n:=by
 obtain ⟨k,rfl⟩:∃k:Nat,n=(k:Int):=⟨n.toNat,by lia⟩
 rcases Vq k (by lia) with h | h
 ·lia
 ·exact h
variable {d:Int}
theorem Mw(h2:n≤997)(hd:2≤d)(hq:d*d≤n)(hm:n % d=0):ik n=false:=by
 have hd2:d<32:=by
  by_cases h:d<32;·exact h
  ·have:32*32≤d*d:=Int.mul_le_mul (by lia) (by lia) (by lia) (by lia)
   lia
 obtain ⟨k,rfl⟩:∃k:Nat,d=(k:Int):=⟨d.toNat,by lia⟩
 cases e:ik n with
 | false=>rfl
 | true=>
  have z:=nB.mp e k (e7.mpr (by lia))
  simp only [Bs,Bt] at z;rcases z with (z | z) | z;·lia
  ·lia
  ·exact absurd hm z
theorem Vs(hq:n<d*d)(hd:2≤d)(hm:∀e:Int,2≤e→e<d→n % e≠0):ik n=true:=by
 refine nB.mpr fun k _=>?_;simp only [Bs,Bt];by_cases h1:k<2;·exact .inl (.inl h1)
 ·by_cases h2:n<(k:Int)*(k:Int)
  ·exact .inl (.inr h2)
  ·refine .inr (hm k (by lia) ?_)
   by_cases h3:(k:Int)<d;·exact h3
   ·have:d*d≤(k:Int)*(k:Int):=Int.mul_le_mul (by lia) (by lia) (by lia) (by lia)
    lia
theorem Vt(hd:2≤d)(h32:d<32)(hn:d<n)(hm:n % d=0):n_ n=false:=by
 obtain ⟨k,rfl⟩:∃k:Nat,d=(k:Int):=⟨d.toNat,by lia⟩
 cases e:n_ n with
 | false=>rfl
 | true=>
  have z:=nB.mp e k (e7.mpr (by lia))
  simp only [Bs,Bt] at z;rcases z with (z | z) | z;·lia
  ·lia
  ·exact absurd hm z
theorem Vu(hm:∀e:Int,2≤e→e<32→e<n→n % e≠0):n_ n=true:=by
 refine nB.mpr fun k hk=>?_;have:=e7.mp hk;simp only [Bs,Bt];by_cases h1:k<2;·exact .inl (.inl h1)
 ·by_cases h2:n≤(k:Int)
  ·exact .inl (.inr h2)
  ·exact .inr (hm k (by lia) (by lia) (by lia))
inductive Td where
 | a (w:Str)
 | b (w:Str) (n:Int)
def Td.vs:Td→List V
 | .a w=>[.str w]
 | .b w n=>[.str w,.int n]
def Td.zt:Td→Bool
 | .a w=>decide (w="fractions")
 | .b _ _=>false
def Td.kH:Td→Bool
 | .a _=>false
 | .b w n=>decide (w="wheel") && (decide (2≤n) && decide (n≤997) && ik n)
def Td.good(d:Td):Bool:=d.zt || d.kH
def Td.prime:Td→V
 | .a _=>.aV
 | .b _ n=>.int n
end My
namespace L2
open PySem PySem.Spec PyProof.Rows
abbrev Cx.bG (X:Cx) (N:List Str) (scope:Scope) (cl:List (Str×Addr)) (s₃:Shared) (H₃:Hp) (fp:List Addr):Cx:=
 {X with N:=N,s₀:=s₃,H₀:=H₃,env:=compEnvC scope cl s₃.heap.objs.size X.env,outer:=X.stack,stack:=X.stack,ex:=fp,fn:=fun _=>false,pn:=[],xe:=fun _ _=>False}
inductive jh (X:Cx):List Expr→TT→Prop where
 | nil:jh X [] (fun _ H Q=>Q true H)
 | one {c:Expr} {t:TT} (h:PT X c t):jh X [c] t
def ji(wi:TI)(ρ:St→St)(tt:TT)(te:TE):TE:=fun σ H Q=>wi σ H fun J H1=>∀D,H1 D=none→∃W:Nat→Nat→List V→Hp→Prop,(∃m,W 0 m [] (upd H1 D (.lst []))) ∧
 ∀i m ys Hc,W i m ys Hc→Hc D=some (.lst ys)∧((J.stop i Hc∧Q (.ref D) Hc)∨(J.go i Hc∧∀x H',J.f9 i Hc x H'→tt (some x::ρ σ) H' fun b H2=>
  if b=true then te (some x::ρ σ) H2 fun y H3=>H3 D=some (.lst ys)∧ys.length<sizeLine∧∃m',m'<m∧W (i+1) m' (ys++[y]) (upd H3 D (.lst (ys++[y]))) else ∃m',m'<m∧W (i+1) m' ys H2))
section
variable {X:Cx} {N:List Str} {scope:Scope} {cl:List (Str×Addr)} {x:Str} {px pos:Pos} {iter elt:Expr} {ifs:List Expr} {wi:TI} {ρ:St→St} {tt:TT} {te:TE}
structure Gn (X:Cx) (N:List Str) (scope:Scope) (cl:List (Str×Addr)) (x:Str) (ρ:St→St):Prop where
 pG:closureFor scope X.env=pure cl
 kind:scope.kind=.function
 zu:∀y∈scope.names,y.2≠.cell
 names:∀y∈scope.names,y.2=.local→scope.names.lookup y.1=some .local
 sub:∀p∈cl,X.env.cells.lookup p.1=some p.2
 has:∀y,((relabel scope X.env).names.lookup y=some .cell∨(relabel scope X.env).names.lookup y=some .free)→∃c,cl.lookup y=some c
 n0:N[0]?=some x
 nd:N.Nodup
 hx:scope.names.lookup x=some .local
 pH:∀(σ:St) (j:Nat) (v:V),(ρ σ)[j]?=some (some v)→∃(i:Nat) (y:Str),N[j+1]?=some y∧X.N[i]?=some y∧σ[i]?=some (some v)∧nP X.env.scope y∧(X.env.kindOf y=some .cell∨X.env.kindOf y=some .free)∧((relabel scope X.env).names.lookup y=some .cell∨(relabel scope X.env).names.lookup y=some .free)
 len:∀σ:St,σ.length=X.N.length→(ρ σ).length+1=N.length
theorem Mx{names:List (Str×NameKind)}(h:(names.all fun q=>(q.2 != .cell && q.2 != .free) || (cl.lookup q.1).isSome)=true) :
  ∀y,(names.lookup y=some .cell∨names.lookup y=some .free)→∃c,cl.lookup y=some c:=fun y hy=>by
 have key:∀k:NameKind,(k != .cell && k != .free)=false→names.lookup y=some k→∃c,cl.lookup y=some c:=fun k hk e=>by have z:=nB.mp h (y,k) (jB e);rw [hk,Bool.false_or] at z;exact Fs.mp z
 rcases hy with e | e;·exact key .cell rfl e
 ·exact key .free rfl e
theorem join_some{o:Option (Option V)}{v:V}(h:some o.join=some (some v)):o=some (some v):=by
 cases o with
 | none=>cases h
 | some o=>cases h;rfl
def Cd(X:Cx)(sc:Scope):List Str→List Nat→Prop
 | n::ns,i::is=>(X.N[i]?=some n∧nP X.env.scope n∧(X.env.kindOf n=some .cell∨X.env.kindOf n=some .free)∧((relabel sc X.env).names.lookup n=some .cell∨(relabel sc X.env).names.lookup n=some .free))∧Cd X sc ns is
 | _,[]=>True
 | [],_::_=>False
theorem Gp{X:Cx}{sc:Scope}:∀{ns:List Str} {is:List Nat},Cd X sc ns is→∀(σ:St) (j:Nat) (v:V),(is.map fun i=>σ[i]?.join)[j]?=some (some v)→∃(i:Nat) (n:Str),ns[j]?=some n∧X.N[i]?=some n∧σ[i]?=some (some v)∧nP X.env.scope n∧(X.env.kindOf n=some .cell∨X.env.kindOf n=some .free)∧((relabel sc X.env).names.lookup n=some .cell∨(relabel sc X.env).names.lookup n=some .free)
 | _,[],_,_,_,_,e=>by cases e
 | [],_::_,h,_,_,_,_=>h.elim
 | n::_,i::_,h,_,0,_,e=>⟨i,n,rfl,h.1.1,join_some e,h.1.2⟩
 | _::_,_::_,h,σ,j+1,v,e=>Gp h.2 σ j v e
theorem dk(is:List Nat)(h1:closureFor scope X.env=pure cl)(h:Cd X scope N.tail is:=by repeat' first | exact True.intro | refine And.intro ⟨rfl,Or.inr (Or.inl rfl),.inl rfl,.inl rfl⟩ ?_)(h2:scope.kind=.function:=by rfl)(h3:∀y∈scope.names,y.2≠.cell:=by decide +kernel)(h4:∀y∈scope.names,y.2=.local→scope.names.lookup y.1=some .local:=by decide +kernel)(h5:∀p∈cl,X.env.cells.lookup p.1=some p.2:=by repeat' first | exact nC _ | refine ic.mpr ⟨rfl,?_⟩)(h6:((relabel scope X.env).names.all fun q=>(q.2 != .cell && q.2 != .free) || (cl.lookup q.1).isSome)=true:=by rfl)(h7:N[0]?=some x:=by rfl)(h8:N.Nodup:=by decide +kernel)(h9:scope.names.lookup x=some .local:=by rfl)(hr:∀σ:St,ρ σ=is.map fun i=>σ[i]?.join:=by exact fun _=>rfl)(hl:is.length+1=N.length:=by rfl):Gn X N scope cl x ρ:=
 ⟨h1,h2,h3,h4,h5,Mx h6,h7,h8,h9,fun σ j v e=>by rw [hr] at e;rw [←List.getElem?_tail];exact Gp h σ j v e,fun σ _=>by rw [hr,aY];exact hl⟩
theorem d4(B:Gn X N scope cl x ρ)(hc:X.calm=true)(hi:PI X (.Name x px) iter wi)(ht:∀s₃ H₃ fp,jh (X.bG N scope cl s₃ H₃ fp) ifs tt)(he:∀s₃ H₃ fp,PE (X.bG N scope cl s₃ H₃ fp) elt te)
  (hs:∀x,foldedSetIterable iter X.env x=pure x:=by intro _;rfl):PE X (.ListComp elt [⟨.Name x px,iter,ifs,0⟩] scope pos) (ji wi ρ tt te):=by
 intro pins s σ H Q I h
 rw [eval_ListComp]
 refine uP (use:=none) rfl hs B.pG B.kind B.names (aS (hi pins s σ H _ I h) fun v s1 h1=>aS h1 fun pB s2 h2=>?_)
 obtain ⟨it,fp,tn,J,H2,rfl,I2,T,fk,f2,q2⟩:=h2
 have nD:H2 s2.heap.objs.size=none:=I2.aF.fresh (aI _)
 obtain ⟨W,⟨m0,w0⟩,turn⟩:=q2 _ nD
 refine qw (Bu B.zu (by intro y hy;simp at hy) (fun h₁ fM gK=>?_) B.kind)
 dsimp only at fM gK ⊢
 generalize hD:s2.heap.objs.size=D at nD w0 turn fM gK ⊢
 generalize eZ:({s2 with heap:=s2.heap.push {cls:=.type "list",dict:=none,data:=.seq ([]:List Value).toArray}}:Shared)=s3
 have I3:Inv X pins σ (upd H2 D (.lst [])) s3:=by
  subst hD eZ
  exact I2.laid (t':=s2.toks) (fun b u e=>df _ e) (aI _) ⟨fh _,[],_,.nil,gq _ rfl⟩
 have e3:s3.heap=s2.heap.push {cls:=.type "list",dict:=none,data:=.seq ([]:List Value).toArray}:=by rw [←eZ]
 have d5:∀b o,s2.heap.get? b=some o→s3.heap.get? b=some o:=fun b o e=>by rw [e3];exact df _ e
 rw [←e3] at fM gK ⊢
 have below:∀b o,s3.heap.get? b=some o→b≠s3.heap.objs.size:=fun b o e=>fG (bN e)
 have cY:∀b o,s3.heap.get? b=some o→h₁.get? b=some o:=fun b o e=>gK.extBut b o (below b o e) (df _ e)
 have fq:∀b∈fp,∃o,s2.heap.get? b=some o∧∀v,o.data≠.cell v:=T.obj _ _ fk
 have lB:∀b∈fp,b≠D:=fun b hb z=>by
  obtain ⟨o,e,_⟩:=fq b hb
  rw [z,←hD] at e
  exact absurd (bN e) (gk _)
 have cJ:∀y c,cl.lookup y=some c→X.env.cells.lookup y=some c:=fun y c e=>B.sub (y,c) (jB e)
 have lE:=I3.pf
 have dS:(X.bG N scope cl s3 (upd H2 D (.lst [])) fp).Ok:=by
  refine ⟨I.ok.mod,B.kind,I.ok.glob,I.ok.blt,aI _,fun a b c e1 e2=>I.ok.inj a b c (cJ a c e1) (cJ b c e2),fun y hy=>B.has y hy,(fun _ _ z _=>absurd z dW),(fun _=>I.ok.hd hc),I.ok.frames,.inl rfl,fun b hb=>⟨?_,fun y c e z=>?_⟩,fun b o e=>?_,av I.ok.gE I3.sz,fun b o e hb=>?_,fun b hb z=>?_,I3.stack,lE⟩
  ·obtain ⟨o,e,_⟩:=fq b hb
   exact below b o (d5 b o e)
  ·exact (f2 b hb).2.2.2.2.1 y c (cJ y c e) z
  ·exact I3.bs b o e
  ·rcases (f2 b hb).2.2.2.1 with z | z
   ·exact I.ok.mC b o e z
   ·exact absurd (dC (bN e) (av I.ok.gE z)) (gk _)
  ·rcases fg.mp (I3.pe b z) with z | z
   ·exact (f2 b hb).2.1 z
   ·exact (f2 b hb).2.2.1 z
 have IB:∀tk:Nat,Inv (X.bG N scope cl s3 (upd H2 D (.lst [])) fp) [] (none::ρ σ) (upd H2 D (.lst [])) {s3 with heap:=h₁,toks:=tk}:=fun tk=>by
  refine ⟨dS,rfl,I3.bare,Un.kept cY,⟨_,fM,fun j y v e1 e2 e3=>?_⟩,fun y c e=>?_,?_,fun y c e=>I3.iU y c (cJ y c e),(fun p hp=>nomatch hp),I3.aF.kept cY,?_⟩
  ·cases j with
   | zero=>cases e2
   | succ j=>
    obtain ⟨i,y',a1,a2,a3,a4,a5,a6⟩:=B.pH σ j v e2
    have gL:N[j+1]?=some y:=e1
    rw [gL] at a1
    cases a1
    obtain ⟨m,hn,hl⟩:=I3.loc
    obtain ⟨u,r,l⟩:=hl i y v a2 a3 a4
    refine ⟨u,r,.inr ⟨a6,?_⟩⟩
    obtain ⟨c,ec⟩:=B.has y a6
    rcases l with ⟨k,_⟩ | ⟨_,c',il,z⟩
    ·rcases a5 with q | q <;> (rw [k] at q;cases q)
    ·have:=cJ y c ec
     rw [this] at il
     cases il
     obtain ⟨o,ho,hd⟩:=z
     exact ⟨c,ec,o,cY _ _ ho,hd⟩
  ·obtain ⟨v,o,ho,hd⟩:=I3.cell y c (cJ y c e)
   exact ⟨v,o,cY _ _ ho,hd⟩
  ·exact I3.aF.fresh (aI _)
  ·show (none::ρ σ).length=N.length
   rw [dN]
   exact B.len σ I.len
 have fin:∀{σ':St} {H':Hp} {s':Shared},Inv (X.bG N scope cl s3 (upd H2 D (.lst [])) fp) [] σ' H' s'→Q (.ref D) H'→compPost (model X.prog X.w) X.A X.xe none (EP X pins σ Q) (.ref D) s3.heap.objs.size (.ok .next) s':=fun{σ' H' s'} J q=>by
  obtain ⟨m,hn,_⟩:=J.loc
  refine ⟨m,hn,fun h' dJ=>⟨.ref D,H',?_,rfl,q⟩⟩
  have old:∀b o,s3.heap.get? b=some o→b≠s3.heap.objs.size:=below
  have u1:Un (dy X.stack) fp (upd H2 D (.lst [])) H' s3.heap h':=by
   refine ⟨fun b o e n hb hx=>?_,fun b o e n hb hx=>?_,J.base.free,fun b o e hx=>?_,J.base.gR,J.base.gD,J.base.gS⟩
   ·exact (dJ.2 b (old b o e)).trans (J.base.keep b o e n hb hx)
   ·obtain ⟨sl,z⟩:=J.base.slot b o e n hb hx
    exact ⟨sl,(dJ.2 b (old b o e)).trans z⟩
   ·obtain ⟨o',z⟩:=J.base.there b o e hx
    exact ⟨o',(dJ.2 b (old b o e)).trans z⟩
  have lF:dQ X.prog X.w H' h':=fun b u e=>by
   refine (J.aF b u e).ja (fun c v hc z=>(dJ.2 c fun y=>?_).trans z) (fun _ z=>z) fun _ _ z=>z
   have fr:=J.free
   have y':c=s3.heap.objs.size:=y
   rcases hc with hc | hc
   ·rw [←hc,y'] at e
    exact absurd (fr.symm.trans e) (by simp)
   ·rw [y'] at hc
    exact absurd (fr.symm.trans hc) (by simp)
  refine I3.k7 (s':={s' with heap:=h'}) (ch:=fp) (J.os) u1 lF J.bare fun b hb=>?_
  obtain ⟨g0,g1,g2,g3,g4,g5⟩:=f2 b hb
  exact ⟨g3,g1,g4,g5⟩
 have eX:∀{H':Hp},(∀b∈fp,H' b=none)→∀b∈fp,kz (X.bG N scope cl s3 (upd H2 D (.lst [])) fp) [] H' b:=fun hn b hb=>by
  refine ⟨hn b hb,?_,?_,.inl hb,fun y c e z=>(f2 b hb).2.2.2.2.1 y c (cJ y c e) z,fun p hp=>nomatch hp⟩
  ·obtain ⟨o,e,_⟩:=fq b hb
   exact below b o (d5 b o e)
  ·exact dS.mE b hb
 have loop:∀tk:Nat,codeAny (model X.prog X.w) X.A (.compLoop (.ListComp elt [⟨.Name x px,iter,ifs,0⟩] scope pos) 0 (.ref it) (.ref D) (compEnvC scope cl s3.heap.objs.size X.env))
   (compPost (model X.prog X.w) X.A X.xe none (EP X pins σ Q) (.ref D) s3.heap.objs.size) {s3 with heap:=h₁,toks:=tk}:=fun tk=>by
  refine Bv (fun n s'=>∃i ys o H',Inv (X.bG N scope cl s3 (upd H2 D (.lst [])) fp) [] (o::ρ σ) H' s'∧tn i s'.heap∧(∀b∈fp,H' b=none)∧W i n ys H') ?_ m0
   ⟨0,[],none,_,IB tk,T.keep _ _ _ fk fun b hb o e=>cY _ _ (d5 _ _ e),fun b hb=>by rw [bE (lB b hb)];exact (f2 b hb).1,w0⟩
  rintro n s4 ⟨i,ys,o,H4,I4,ip,iq,w4⟩
  obtain ⟨zw,lG⟩:=turn i n ys H4 w4
  rcases lG with ⟨stop,qn⟩ | ⟨go,step⟩
  ·refine cf (T.done (X.bG N scope cl s3 (upd H2 D (.lst [])) fp) rfl rfl rfl hc i [] s4 _ H4 (fun _ _=>False) I4 (eX iq) ip stop) (fun r s5 ⟨hr,I5⟩=>?_) fun _ _ z=>z.elim
   subst hr
   exact fin I5 qn
  ·refine cf (T.item (X.bG N scope cl s3 (upd H2 D (.lst [])) fp) rfl rfl rfl hc i [] s4 _ H4 (fun _ _=>False) I4 (eX iq) ip go) (fun r s5 ⟨u,hr,h5⟩=>?_) fun _ _ z=>z.elim
   subst hr
   have z:letOwnedTupleGo (.Name x px) (.ref it) u=pure ():=rfl
   rw [z] at h5
   show wpAny _ _ ((pure ():Sem Unit) >>= fun _=>assign (.Name x px) (compEnvC scope cl s3.heap.objs.size X.env) u) _ _ s5
   refine cS (cf h5 (fun _ s5 ⟨y,H5,I5,r5,y5,eY,jK⟩=>?_) fun _ _ z=>z.elim)
   have jM:=I5.pinned (eX jK) (T.obj _ _ eY)
   have pg:PG (X.bG N scope cl s3 (upd H2 D (.lst [])) fp) (.Name x px) (aO 0):=d9 (i:=0) B.nd B.n0 (.inl (km B.hx)) (.inr (km B.hx))
   have again:∀{σ7:St} {H7:Hp} {s7:Shared},Inv (X.bG N scope cl s3 (upd H2 D (.lst [])) fp) ([]++iF fp s5.heap) σ7 H7 s7→Inv (X.bG N scope cl s3 (upd H2 D (.lst [])) fp) [] σ7 H7 s7∧tn (i+1) s7.heap∧∀b∈fp,H7 b=none:=fun{σ7 H7 s7} I7=>by
    refine ⟨I7.nV,T.keep _ _ _ eY fun b hb o e=>(I7.pin (b,o) (d7 _ (d7 _ (jd hb e)))).1,fun b hb=>?_⟩
    obtain ⟨o,e,d⟩:=T.obj _ _ eY b hb
    exact (I7.pin (b,o) (d7 _ (d7 _ (jd hb e)))).2.1
   refine cf (pg _ s5 _ H5 y u (fun σ2 H6=>σ2=some y::ρ σ∧H6=H5) jM r5 ⟨rfl,rfl⟩) (fun _ s6 ⟨σ6,H6,I6,q6⟩=>?_) fun _ _ z=>z.elim
   obtain ⟨rfl,rfl⟩:=q6
   have lH:=step y _ y5
   have tests:∀{fN:TT},jh (X.bG N scope cl s3 (upd H2 D (.lst [])) fp) ifs fN→∀{R:Bool→Hp→Prop},fN (some y::ρ σ) H6 R→wpAny (model X.prog X.w) X.A
     (forIn ifs true fun c r=>if r=true then do let ok ←isTrue c (compEnvC scope cl s3.heap.objs.size X.env) (eval c (compEnvC scope cl s3.heap.objs.size X.env));pure (ForInStep.yield ok) else pure (ForInStep.yield r))
     (fun ok s7=>∃H7,Inv (X.bG N scope cl s3 (upd H2 D (.lst [])) fp) ([]++iF fp s5.heap) (some y::ρ σ) H7 s7∧R ok H7) (fun _ _=>False) s6:=fun{fN} p {R} hR=>by
    cases p with
    | nil=>exact uQ ⟨_,I6,hR⟩
    | one p=>exact uR (p _ s6 _ _ _ I6 hR)
   refine cf (tests (ht s3 _ fp) lH) (fun ok s7 ⟨H7,I7,q7⟩=>?_) fun _ _ z=>z.elim
   cases ok with
   | false=>
    obtain ⟨m',fI,w7⟩:=q7
    obtain ⟨a1,a2,a3⟩:=again I7
    exact ⟨m',fI,i+1,ys,_,H7,a1,a2,a3,w7⟩
   | true=>
    refine cf (he s3 _ fp _ s7 _ H7 _ I7 q7) (fun ev s8 ⟨z,H8,I8,r8,jS,hz,m',fI,w8⟩=>?_) fun _ _ z=>z.elim
    refine cf (lA (X:=X.bG N scope cl s3 (upd H2 D (.lst [])) fp) _ s8 _ H8 (.ref D) [z] (.ref D) [ev] (fun _ H9=>H9=upd H8 D (.lst (ys++[z]))) I8 rfl (.cons r8 .nil) ⟨D,ys,z,rfl,rfl,jS,hz,rfl⟩) (fun _ s9 ⟨_,H9,I9,_,q9⟩=>?_) fun _ _ z=>z.elim
    subst q9
    obtain ⟨a1,a2,a3⟩:=again I9
    exact ⟨m',fI,i+1,ys++[z],_,_,a1,a2,a3,w8⟩
 have start:=loop (s3.toks+([]:List (Str×Value)).length)
 have es:({s3 with heap:=h₁,toks:=s3.toks+([]:List (Str×Value)).length}:Shared)={s2 with heap:=h₁,toks:=s2.toks+([]:List (Str×Value)).length}:=by rw [←eZ]
 rw [es] at start
 exact uS start (T.self _ 0 _ _ _ (T.keep _ _ _ fk fun b hb o e=>cY _ _ (d5 _ _ e)) start)
end
def cO(i:Int):Prop:=i.natAbs<2 ^ 2048
variable {i:Int}
theorem cO.log(h:cO i):i.natAbs.log2<2048:=by
 by_cases z:i.natAbs=0;·rw [z];decide
 ·exact (Nat.log2_lt z).mpr h
def Mz(i j:Int):Prop:=j≠0∧cO j
def Gq(i j:Int):Prop:=cO i∧cO j
theorem Gq.ok{j:Int}(h:Gq i j):IntMulOk i j:=by
 have b:∀{k:Int},cO k→Builtin.Int.intBits k≤2048:=fun{k} hk=>by
  have z:=hk.log;unfold Builtin.Int.intBits
  split <;> lia
 unfold IntMulOk;have e:Builtin.Int.intTooBig ((Builtin.Int.intBits i:Int)+(Builtin.Int.intBits j:Int))=false:=by
  unfold Builtin.Int.intTooBig;have h1:=b h.1;have h2:=b h.2;have h3:(4096:Int)≤bitsLine:=by decide +kernel
  exact h_ (by lia)
 intro z;rw [Bool.and_eq_true] at z;have z2:=z.2;rw [show Builtin.Int.intTooBig ((Builtin.Int.intBits i:Int)+(Builtin.Int.intBits j:Int))=false from e] at z2;cases z2
theorem MA:∀{xs:List V} {us:List Value},xs.length=us.length→(∀(i:Nat) (x:V) (u:Value),xs[i]?=some x→us[i]?=some u→RelV x u)→Vals xs us
 | [],[],_,_=>.nil
 | [],_::_,h,_=>by simp at h
 | _::_,[],h,_=>by simp at h
 | x::xs,u::us,h,k=>.cons (k 0 x u rfl rfl) (MA (by simpa using h) fun i a b h1 h2=>k (i+1) a b (by simpa using h1) (by simpa using h2))
section
variable {X:Cx}
theorem Gr:dE X (binaryOp .FloorDiv) (rI Mz fun i j=>.int (i.fdiv j)):=nX fun _ _ _ _ _ _ _ hc q=>floordiv_int hc.1 q (.inl (Fu (dC hc.2.log (by decide))))
theorem mP:dE X (binaryOp .Mult) (rI Gq fun i j=>.int (i*j)):=nX fun _ _ _ _ _ _ _ hc q=>mul_int q hc.ok
def Gs(i j:Int):Prop:=0<j∧cO j
theorem iu:dE X (binaryOp .FloorDiv) (rI Gs fun i j=>.int (i / j)):=nX fun i j _ _ _ _ _ hc q=>floordiv_int (Int.ne_of_gt hc.1) (by rw [yO i (Int.le_of_lt hc.1)];exact q) (.inl (Fu (dC hc.2.log (by decide))))
def allR(K:aL):List V→Hp→VK→Prop:=fun xs H Q=>∃(p:Addr) (bs:List Bool),xs=[.ref p]∧cu K H p (bs.map V.bl)∧Q (.bl (bs.all id)) H
theorem zx{K:aL}(hc:X.calm=true)(hK:X.K=K:=by rfl):iV X (.builtin "all") (allR K):=by
 intro pins s σ H xs us Q I r h;subst hK;obtain ⟨p,bs,rfl,hq,q⟩:=h;obtain ⟨u,rfl,ru⟩:=vals1 r;cases ru;obtain ⟨au,rv,pl,hz⟩:=I.list hq;have iw:p≠s.heap.objs.size:=by obtain ⟨o,e,_⟩:=pl.isList;exact fG (bN e)
 have hl:au.length=bs.length:=by rw [←rv.length,aY]
 refine call_all_walk (Bl pl.isList ?_);refine ⟨s.heap.objs.size,_,_,_,_,_,fun i=>bs.getD i true,rfl,Walks.list (A:=X.A.in1) (show X.A.in1.handled=none from I.ok.hd hc) s.heap.objs.size p iw au.toArray,⟨⟨_,gq _ rfl,rfl,rfl⟩,pl.isList.push _⟩,fun i v s' Q' E' hv n6=>?_,fun h' tk hk=>?_⟩
 ·have fc:au[i]?=some v:=by simpa using hv
  cases eb:bs[i]? with
  | none=>
   have:=rv.none_of (i:=i) (by rw [bj,eb];rfl)
   rw [this] at fc;cases fc
  | some b=>
   obtain ⟨u,hu,ru⟩:=rv.get (i:=i) (x:=V.bl b) (by rw [bj,eb];rfl)
   rw [hu] at fc;cases fc;cases ru;have e:bs.getD i true=b:=by rw [dg,eb];rfl
   have kI:Q' (bs.getD i true) s':=n6;rw [e] at kI;exact mf kI
 ·refine ⟨.bl (bs.all id),H,I.kept fun b o e=>hk b o (fun z=>?_) (df _ e),?_,q⟩
  ·exact absurd (bN e) (by rw [qy.mp z];exact gk _)
  ·show Value.bool _=Value.bool _
   congr 1
   rw [eQ,hl];clear hk q rv pl hz hl hq
   induction bs with
   | nil=>rfl
   | cons b bs ih=>rw [dN,List.range_succ_eq_map,List.all_cons,List.all_map,List.all_cons];show (b && (List.range bs.length).all fun i=>bs.getD i true)=(b && bs.all id);rw [ih]
def Vv:List V→Hp→VK→Prop:=fun xs H Q=>∃j:Int,xs=[.int j]∧∀p,H p=none→Q (.ref p) (upd H p (.gv 0 j))
theorem MD:iV X (.type "range") Vv:=by intro pins s σ H xs us Q I r h;obtain ⟨j,rfl,q⟩:=h;obtain ⟨u,rfl,ru⟩:=vals1 r;obtain ⟨t,rfl⟩:=ru;refine call_range_1 ⟨.ref s.heap.objs.size,_,I.laid (o:=.gv 0 j) (fun b o e=>df _ e) (aI _) ⟨_,_,_,gq _ rfl⟩,rfl,q _ (I.aF.fresh (aI _))⟩
def iY(n:Nat):List V:=(List.range n).map fun i:Nat=>V.int (i:Int)
def Vw:List V→Hp→VK→Prop:=fun xs H Q=>∃p n,xs=[.ref p]∧H p=some (.gv 0 (n:Nat))∧n≤10000∧∀l,H l=none→Q (.ref l) (upd H l (.lst (iY n)))
theorem ME(hc:X.calm=true):iV X (.type "list") Vw:=by
 intro pins s σ H xs us Q I r h;obtain ⟨p,n,rfl,hp,hn,q⟩:=h;obtain ⟨u,rfl,ru⟩:=vals1 r;cases ru;obtain ⟨t,u,v,e⟩:=(show fQ X.prog X.w H s.heap p (.gv 0 n) from I.aF p _ hp);refine call_list_range (n:=n) (I.ok.hd hc) e (small_one (by lia) (by lia) (by lia) (by lia)) (by rw [rangeSize_one];split <;> lia) (by lia) fun h' tk acc c hk hD hit=>?_
 refine ⟨.ref s.heap.objs.size,_,I.laid (o:=.lst (iY n)) (fun b o e=>hk b o e) (aI _) ⟨?_,acc.toList,c,?_,?_⟩,rfl,q _ (I.aF.fresh (aI _))⟩
 ·unfold iY
  rw [aY,fH];exact av hn (by decide)
 ·refine MA ?_ fun i x u h1 h2=>?_
  ·unfold iY
   rw [aY,fH,Array.length_toList,hit.1]
  ·have MF:acc[i]?=some u:=by simpa using h2
   obtain ⟨Vx,e'⟩:=hit.2 i u MF;unfold iY at h1;rw [bj] at h1;have hi:i<n:=by have z:=(Array.getElem?_eq_some_iff.mp MF).1;rw [hit.1] at z;exact z
   rw [List.getElem?_range hi] at h1;cases h1;exact ⟨Vx,by rw [e'];simp⟩
 ·rw [hD]
end
theorem boot_all:bootBuiltins "all"=some (.builtin "all"):=by decide +kernel
theorem MG:bootBuiltins "range"=some (.type "range"):=by decide +kernel
def Gu:Expr→Bool
 | .Starred _ _=>false
 | _=>true
variable {es:List Expr}
theorem Vy{e:Expr}{env:Env}(h:Gu e=true):starEach (e::es) env=(false,eval e env)::starEach es env:=by cases e <;> first | rfl | cases h
variable {X:Cx} {te:TE} {t:TA}
theorem Vz{e:Expr}(hs:Gu e=true)(ha:PE X e te)(hr:PA X es t):PA X (e::es) (zl te t):=
 Ui ha hr (Vy hs)
theorem ae{e:Expr}(ha:PE X e te)(hr:PA X es t)(hs:Gu e=true:=by rfl):PA X (e::es) (zl te t):=Vz hs ha hr
variable {pos pos':Pos} {x:Str}
theorem MH{i:Nat}{e:Expr}(hs:swapsWith e (some (.Name x pos')) pos.line X.env=pure false)(hf:X.fn x=true∨X.env.scope.names.lookup x=some .local)(hN:X.N.Nodup)(hi:X.N[i]?=some x)(hx:Loc X.env.scope x)(he:PE X e te) :
  PS X (.Assign [.Name x pos'] e pos) (mM te (aO i)):=Te hN hi hx he hs hf
theorem putL(i:Nat){e:Expr}(hN:X.N.Nodup)(he:PE X e te)(hs:swapsWith e (some (.Name x pos')) pos.line X.env=pure false:=by rfl)(hi:X.N[i]?=some x:=by rfl)(hx:X.env.scope.names.lookup x=some .local:=by rfl) :
  PS X (.Assign [.Name x pos'] e pos) (mM te (aO i)):=MH hs (.inr hx) hN hi (.inl hx) he
theorem eI(i:Nat){e:Expr}(hN:X.N.Nodup)(he:PE X e te)(hs:swapsWith e (some (.Name x pos')) pos.line X.env=pure false:=by rfl)(hf:X.fn x=true∨X.env.scope.names.lookup x=some .local:=by first | exact .inl rfl | exact .inr rfl | assumption)(hi:X.N[i]?=some x:=by rfl)(hx:X.env.scope.names.lookup x=some .cell:=by rfl) :
  PS X (.Assign [.Name x pos'] e pos) (mM te (aO i)):=MH hs hf hN hi (.inr hx) he
def VA:V→List V→Hp→VK→Prop:=fun x xs H Q=>∃i:Int,x=.int i∧xs=[]∧Q (.int ((Builtin.Int.intBits i:Nat):Int)) H
theorem VB:F7 X "int.bit_length" VA:=by intro pins s σ H x xs v us Q I rx rv h;obtain ⟨i,rfl,rfl,q⟩:=h;have VC:=rv.zero;subst VC;obtain ⟨t,rfl⟩:=rx;exact call_int_bit_length ⟨.int ((Builtin.Int.intBits i:Nat):Int),H,I.tok _,⟨_,rfl⟩,q⟩
theorem VD(h:cO i):Builtin.Int.intBits i≤2048:=by
 have z:=h.log;unfold Builtin.Int.intBits
 split <;> lia
end L2
namespace My
open PySem L2
theorem Gv(a b:Str):decide (V.str a=V.str b)=decide (a=b):=by
 by_cases h:a=b;·subst h;simp
 ·rw [h_ h];exact h_ fun e=>h (V.str.inj e)
theorem jj(a b:Int):decide (V.int a=V.int b)=decide (a=b):=by
 by_cases h:a=b;·subst h;simp
 ·rw [h_ h];exact h_ fun e=>h (V.int.inj e)
variable {K:aL}
theorem MI{T:String}:PySem.W.kitOne K (.type T) (.type T)=some true:=by unfold PySem.W.kitOne;rw [ak (yT _)]
variable {H:Hp}
theorem b_{p:Addr}{o:HO}(h:H p=none):ag H (upd H p o):=fun b u e=>by rw [bE (gw e h)];exact e
variable {i:Int}
theorem VE{α:Type}{xs:List α}(h0:0≤i)(h1:i<xs.length):∃v,d_ xs i=some v∧v∈xs:=by
 obtain ⟨k,rfl⟩:∃k:Nat,i=(k:Int):=⟨i.toNat,by lia⟩
 have hk:k<xs.length:=by lia
 exact ⟨xs[k],dA (by simp [hk]),aE _⟩
theorem oa(v:V):([(("prime":Str),v)]:List (Str×V)).lookup ("prime":Str)=some v:=by simp [List.lookup]
inductive Any (H:Hp):V→Prop where
 | aV:Any H .aV
 | bl (b:Bool):Any H (.bl b)
 | int (i:Int):Any H (.int i)
 | str (x:Str):Any H (.str x)
 | lst {a:Addr} {xs:List V} (e:H a=some (.lst xs)):Any H (.ref a)
 | tup {a:Addr} {xs:List V} (e:H a=some (.tup xs)):Any H (.ref a)
 | vh {a:Addr} (e:H a=some (Mu a)):Any H (.ref a)
def og:V→Bool
 | .int _=>true
 | _=>false
def oh:V→Bool
 | .bl _=>true
 | _=>false
def Ce(H:Hp):V→Bool
 | .ref a=>(match H a with | some (.tup _)=>true | _=>false)
 | _=>false
variable {v:V}
theorem Any.Cc(h:Any H v):∃T:String,zr K H v (.type T)∧PySem.W.kitOne K (.type T) (.type "int")=some (og v || oh v)∧PySem.W.kitOne K (.type T) (.type "bool")=some (oh v) ∧
  PySem.W.kitOne K (.type T) (.type "tuple")=some (Ce H v):=by
 cases h with
 | aV=>exact ⟨"NoneType",.of .aV,rfl,rfl,rfl⟩
 | bl b=>exact ⟨"bool",.of (.bl b),rfl,rfl,rfl⟩
 | int i=>exact ⟨"int",.of (.int i),rfl,rfl,rfl⟩
 | str x=>exact ⟨"str",.of (.str x),rfl,rfl,rfl⟩
 | lst e=>exact ⟨"list",.of (.lst e),rfl,rfl,by unfold Ce;dsimp only;rw [e];rfl⟩
 | tup e=>exact ⟨"tuple",.of (.tup e),rfl,rfl,by unfold Ce;dsimp only;rw [e];rfl⟩
 | vh e=>exact ⟨"dict",.vh e,rfl,rfl,by unfold Ce;dsimp only;rw [e];rfl⟩
theorem MJ(h:oh v=true):og v=false:=by cases v <;> first | rfl | cases h
theorem pI{m:Str}(e:(m == ("prime":Str))=false):([(("prime":Str),v)]:List (Str×V)).lookup m=none:=by simp [List.lookup,e]
theorem MK(m n:Nat):Nat.gcd n (m % n)=Nat.gcd m n:=by rw [Nat.gcd_comm n,←Nat.gcd_rec,Nat.gcd_comm]
theorem Cf(a:Int):(if a<0 then -a else a)=(a.natAbs:Int):=by split <;> lia
def lowG(a b:Int):Int:=if b<0 then 0-(Int.gcd a b:Int) else (Int.gcd a b:Int)
variable {a:Int}
theorem oi{b:Int}(h:b≠0):0<Int.gcd a b:=yU _ (jF.mpr h)
theorem VF{b:Int}(h:b≠0)(m:cO b):Int.gcd a b<2 ^ 2048:=dD (Nat.gcd_le_right _ (jF.mpr h)) m
theorem VG{b:Int}(h:b≠0)(m:cO b):Mz 0 (lowG a b):=by
 have h1:=oi (a:=a) h;have h2:=VF (a:=a) h m;unfold lowG;refine ⟨by split <;> lia,?_⟩
 unfold cO
 split
 ·rw [show (0-(Int.gcd a b:Int)).natAbs=Int.gcd a b by lia];exact h2
 ·rw [uT];exact h2
theorem cO.of_lt(h1:-(10 ^ 70)<i)(h2:i<10 ^ 70):cO i:=by
 have h3:i.natAbs<2 ^ 240:=by lia
 exact dC h3 (fL (by decide) (by decide))
def ML:Sp:=fun vs H Q _=>∃v:V,vs=[v]∧Any H v∧Q (.bl (og v)) H
def VH:Sp:=fun vs H Q _=>∃a b:Int,vs=[.int a,.int b]∧cO b∧Q (.int (Int.gcd a b:Int)) H
def VI:Sp:=fun vs H Q _=>∃n:Int,vs=[.int n]∧2≤n∧n≤997∧Q (.bl (ik n)) H
def VJ:Sp:=fun vs H Q _=>∃(p:Addr) (d:Td),vs=[.ref p]∧H p=some (.tup d.vs)∧Q (.bl d.zt) H
def VL:Sp:=fun vs H Q _=>∃(p:Addr) (d:Td),vs=[.ref p]∧H p=some (.tup d.vs)∧Q (.bl d.kH) H
def VM(C N:Addr):Sp:=fun vs H Q E=>∃(x dx p:Addr) (d:Td),vs=[.ref x,.ref p]∧H x=some (.ins C dx [])∧H p=some (.tup d.vs) ∧
 (d.good=true→Q .aV (upd H x (.ins C dx [("prime",d.prime)])))∧(d.good=false→E (.ref N) none H)
def eJ(C:Addr)(H:Hp)(x:Addr)(q:Int):Prop:=∃dx,H x=some (.ins C dx [("prime",if q=0 then .aV else .int q)])
variable {H':Hp} {q:Int}
theorem eJ.mono{C:Addr}{x:Addr}(h:eJ C H x q)(s:ag H H'):eJ C H' x q:=by obtain ⟨dx,e⟩:=h;exact ⟨dx,s _ _ e⟩
def VN:Sp:=fun vs H Q _=>∃c:Int,vs=[.int c]∧∀(p:Int) (H':Hp),ag H H'→2≤p→p≤997→ik p=true→Q (.int p) H'
def MM(m c:Int):Int:=(m*69621+c % 998244353+1) % 1000000007
def Ci(ns:List Int)(k:Int):Int:=
 let m:=(ns.take 7).foldl MM (1000003*(k+1))
 let m2:=m*m % 1000000007
 let m3:=(m2+7919*k*k)*48271 % 2147483647
 m3*m3 % 2147483647 / 8
def lI(ns:List Int)(k:Int):Int:=if k<ns.length then ns.getD k.toNat 0 % 10 ^ 40 else Ci ns k
theorem Gw(ns:List Int)(k:Int):0≤lI ns k:=by
 unfold lI
 split
 ·exact eE _ (by decide)
 ·unfold Ci
  exact o5 (eE _ (by decide)) (by decide)
theorem MN(ns:List Int)(k:Int):lI ns k<10 ^ 40:=by
 unfold lI
 split
 ·exact eW _ (by decide)
 ·unfold Ci
  have:∀a:Int,a % 2147483647 / 8<10 ^ 40:=fun a=>by lia
  exact this _
def VO(K:aL):Sp:=fun vs H Q _=>∃(a:Addr) (ns:List Int) (k:Int),vs=[.ref a,.int k]∧cu K H a (ns.map V.int)∧0≤k∧k≤1000000∧∀H',ag H H'→Q (.int (lI ns k)) H'
def Cj(K:aL):Sp:=fun vs H Q _=>∃(a:Addr) (ns:List Int),vs=[.ref a]∧cu K H a (ns.map V.int)∧ns.length≤63∧∀H',Q (.bl true) H'
def jk(v:Int)(i:Nat):List Bool:=((List.range i).filter fun e:Nat=>decide ((2+(e:Int))<v)).map fun e:Nat=>!decide (v % (2+(e:Int))=0)
theorem VP{v:Int}{i:Nat}(h:2+(i:Int)<v):jk v (i+1)=jk v i++[!decide (v % (2+(i:Int))=0)]:=by unfold jk;rw [List.range_succ,List.filter_append,yV,Bw,ak (dr h)];rfl
theorem VQ{v:Int}{i:Nat}(h:¬2+(i:Int)<v):jk v (i+1)=jk v i:=by
 unfold jk;rw [List.range_succ,List.filter_append,Bw,aj (by simpa using h)]
 simp
theorem VR(v:Int)(i:Nat):(jk v i).length≤i:=by unfold jk;rw [aY];exact av (List.length_filter_le _ _) (by simp)
theorem VS(v:Int):(jk v 30).all id=n_ v:=by
 rw [yP];unfold jk;rw [List.all_map,nB];constructor
 ·intro h
  refine Vu fun e h1 h2 h3=>?_;have z:=h (e-2).toNat (uI.mpr ⟨e7.mpr (by lia),dr (by lia)⟩)
  have e1:(2:Int)+((e-2).toNat:Int)=e:=by lia
  simp only [Function.comp_apply,id,e1,Bool.not_eq_true',decide_eq_false_iff_not] at z;exact z
 ·intro h k hk
  obtain ⟨k1,k2⟩:=uI.mp hk;have k1:=e7.mp k1;have k2:=ie k2;simp only [Function.comp_apply,id,Bool.not_eq_true',decide_eq_false_iff_not];intro hm;rw [Vt (d:=2+(k:Int)) (by lia) (by lia) (by lia) hm] at h
  cases h
set_option maxRecDepth 100000 in
theorem VT:n_ 997=true:=by decide +kernel
theorem VU(xs:List V)(k:Nat):jQ xs none (some (k:Int))=xs.take k:=by unfold jQ;rw [HT.Uu,HT.L_,List.drop_zero,Nat.sub_zero];rw [List.take_eq_take_iff];lia
variable {u:Int}
theorem qV{v:Int}(hu:0<u)(h:0<u*v):0<v:=by
 by_cases z:0<v;·exact z
 ·have y:=uU (show v≤0 by lia) (show 0≤u by lia)
  rw [cG] at y;lia
theorem Ck{b:Int}(h:∀d:Nat,(d:Int)∣a→(d:Int)∣b→d=1):Int.gcd a b=1:=h _ (qz ..) (nE ..)
variable {d:Nat}
theorem Cm{b:Int}(h:Int.gcd a b=1)(h1:(d:Int)∣a)(h2:(d:Int)∣b):d=1:=by have z:(d:Int)∣((Int.gcd a b:Nat):Int):=Int.dvd_coe_gcd h1 h2;rw [h] at z;exact Nat.dvd_one.mp (Int.natCast_dvd_natCast.mp z)
variable {c:Int}
theorem Gx{b:Int}(h:Int.gcd b c=1)(h1:(d:Int)∣b)(h2:(d:Int)∣a*c):(d:Int)∣a:=by
 have hc:Nat.Coprime d c.natAbs:=by have z:Nat.Coprime b.natAbs c.natAbs:=h;exact Nat.Coprime.coprime_dvd_left (Int.ofNat_dvd_left.mp h1) z
 have z:d∣a.natAbs*c.natAbs:=by rw [←bT];exact Int.ofNat_dvd_left.mp h2
 exact Int.ofNat_dvd_left.mpr (hc.dvd_of_dvd_mul_right z)
theorem vj{b:Int}(h1:Int.gcd a b=1)(h2:Int.gcd a c=1):Int.gcd a (b*c)=1:=by refine Ck fun d x y=>?_;exact Cm h1 x (Gx (a:=b) (b:=a) (c:=c) h2 x y)
theorem lJ{b:Int}(h:Int.gcd a b=1):Int.gcd b a=1:=by rw [Int.gcd_comm];exact h
theorem Cn{b:Int}(h:Int.gcd a b=1)(h1:c∣a):Int.gcd c b=1:=Ck fun d x y=>Cm h (o6 x h1) y
theorem Co{b:Int}(h:b≠0):Int.gcd (a / (Int.gcd a b:Int)) (b / (Int.gcd a b:Int))=1:=by have z:0<Int.gcd a b:=yU _ (jF.mpr h);exact Int.gcd_ediv_gcd_ediv_gcd z
structure gf (x m:Int):Prop where
 pos:1≤m
 zy:Int.gcd x m=1
variable {x m y:Int}
theorem VV{n:Int}(a:gf x m)(b:gf y n) :
  gf ((x / (Int.gcd x n:Int))*(y / (Int.gcd y m:Int))) ((m / (Int.gcd y m:Int))*(n / (Int.gcd x n:Int))) ∧
   (x / (Int.gcd x n:Int))*(y / (Int.gcd y m:Int))*(m*n)=x*y*((m / (Int.gcd y m:Int))*(n / (Int.gcd x n:Int))):=by
 have m0:=a.pos;have n0:=b.pos;have p1:0<Int.gcd x n:=yU _ (jF.mpr (by lia))
 have p2:0<Int.gcd y m:=yU _ (jF.mpr (by lia))
 have c1:=Co (a:=x) (b:=n) (by lia)
 have c2:=Co (a:=y) (b:=m) (by lia)
 obtain ⟨x',ex⟩:=qz (a:=x) (b:=n);obtain ⟨n',en⟩:=nE (a:=x) (b:=n);obtain ⟨y',ey⟩:=qz (a:=y) (b:=m);obtain ⟨m',em⟩:=nE (a:=y) (b:=m);have ac:=a.zy;have bc:=b.zy;generalize Int.gcd x n=g at *;generalize Int.gcd y m=k at *;have g0:(g:Int)≠0:=by lia
 have k0:(k:Int)≠0:=by lia
 have gx:x / (g:Int)=x':=by rw [ex];exact kX _ g0
 have gn:n / (g:Int)=n':=by rw [en];exact kX _ g0
 have gy:y / (k:Int)=y':=by rw [ey];exact kX _ k0
 have gm:m / (k:Int)=m':=by rw [em];exact kX _ k0
 rw [gx,gn] at c1;rw [gy,gm] at c2;rw [gx,gn,gy,gm];have mp:0<m':=by
  have z:0<(k:Int)*m':=by rw [←em];lia
  exact qV (by lia) z
 have np:0<n':=by
  have z:0<(g:Int)*n':=by rw [←en];lia
  exact qV (by lia) z
 have xm:Int.gcd x' m'=1:=Cn (lJ (Cn (lJ ac) ⟨k,by rw [em,fi]⟩)) ⟨g,by rw [ex,fi]⟩
 have yn:Int.gcd y' n'=1:=Cn (lJ (Cn (lJ bc) ⟨g,by rw [en,fi]⟩)) ⟨k,by rw [ey,fi]⟩
 refine ⟨⟨fP mp np,?_⟩,?_⟩;·exact vj (lJ (vj (lJ xm) (lJ c2))) (lJ (vj (lJ c1) (lJ yn)))
 ·rw [ex,en,ey,em]
  simp only [kn,fi,Int.mul_left_comm]
def eA(x:Int):Prop:=x.natAbs≤10 ^ 300
theorem VW:(10:Nat) ^ 300<2 ^ 2048:=by decide +kernel
theorem eA.mid(h:eA x):cO x:=dD h VW
theorem eA.over{g:Int}(h:eA x):eA (x / g):=av (nF x g) h
theorem eA.gcd(h:eA y)(z:y≠0):eA (Int.gcd x y:Int):=by unfold eA;rw [uT];exact av (Nat.gcd_le_right _ (jF.mpr z)) h
theorem MO(z:y≠0):(0:Int)<(Int.gcd x y:Int):=by have:=oi (a:=x) z;lia
def VX:Sp:=fun vs H Q _=>∃(p q:Addr) (x m y n:Int),vs=[.ref p,.ref q]∧H p=some (.tup [.int x,.int m])∧H q=some (.tup [.int y,.int n])∧gf x m∧gf y n∧eA x∧eA m∧eA y∧eA n ∧
 ∀(r:Addr) (H':Hp) (u d:Int),ag H H'→H' r=some (.tup [.int u,.int d])→gf u d→u*(m*n)=x*y*d→Q (.ref r) H'
def Gy(C:Addr)(fr:Int→Int→Int→Int→Int)(rm:Int→Int→Int):Sp:=fun vs H Q _=>∃(z:Addr) (q:Int) (v u:V),vs=[.ref z,v,u]∧eJ C H z q ∧
  ((q=0∧∃(p r:Addr) (x m y n:Int),v=.ref p∧u=.ref r∧H p=some (.tup [.int x,.int m])∧H r=some (.tup [.int y,.int n])∧gf x m∧gf y n∧eA x∧eA m∧eA y∧eA n ∧
    ∀(r':Addr) (H':Hp) (a d:Int),ag H H'→H' r'=some (.tup [.int a,.int d])→gf a d→a*(m*n)=fr x m y n*d→Q (.ref r') H') ∨
   (2≤q∧∃i j:Int,v=.int i∧u=.int j∧0≤i∧i<1000∧Q (.int (rm i j % q)) H))
def az(p:Int):Prop:=p=0∨(2≤p∧p≤997∧ik p=true)
def VY:Sp:=fun vs H Q _=>∃c:Int,vs=[.int c]∧∀(p:Int) (H':Hp),ag H H'→az p→Q (.int p) H'
def VZ(C:Addr):Sp:=fun vs H Q _=>∃p:Int,vs=[.int p]∧az p∧∀(z:Addr) (H':Hp),ag H H'→eJ C H' z p→Q (.ref z) H'
inductive cD (B:Nat) (H:Hp):Int→V→Int→Int→Prop where
 | bV {p:Addr} {x m:Int} (e:H p=some (.tup [.int x,.int m])) (l:gf x m) (bx:x.natAbs≤B) (bm:m.natAbs≤B):cD B H 0 (.ref p) x m
 | rem {q i:Int} (h0:0≤i) (h1:i<q) (h2:q≤997):cD B H q (.int i) i 1
theorem cD.mono{B:Nat}(h:cD B H q v x m)(s:ag H H'):cD B H' q v x m:=by
 cases h with
 | bV e l bx bm=>exact .bV (s _ _ e) l bx bm
 | rem h0 h1 h2=>exact .rem h0 h1 h2
theorem MP{b:Int}(h:1≤b):∃u d:Int,a.fdiv (lowG a b)=u∧b.fdiv (lowG a b)=d∧gf u d∧u.natAbs≤a.natAbs∧d.natAbs≤b.natAbs:=by
 have hp:=oi (a:=a) (b:=b) (by lia)
 have e:lowG a b=(Int.gcd a b:Int):=by unfold lowG;rw [aj (by lia)]
 rw [e]
 refine ⟨a / (Int.gcd a b:Int),b / (Int.gcd a b:Int),yO _ (by lia),yO _ (by lia),⟨?_,Co (by lia)⟩,nF ..,nF ..⟩
 obtain ⟨b',eb⟩:=nE (a:=a) (b:=b)
 have z:b / (Int.gcd a b:Int)=b':=by
                       conv=>lhs;lhs;rw [eb]
                       exact kX _ (by lia)
 rw [z]
 exact qV (u:=(Int.gcd a b:Int)) (by lia) (by rw [←eb];lia)
theorem Cp{d T B:Int}(l:gf u d)(hB:0<B)(e:u*B=T*d):d≤B∧u.natAbs≤T.natAbs:=by
 have h0:=l.pos;have hd:d∣B:=by
  have z:((d.natAbs:Nat):Int)∣B:=Gx (a:=B) (b:=d) (c:=u) (lJ l.zy) (Int.natAbs_dvd.mpr (jG d)) ⟨T*(d / (d.natAbs:Int)),by
   have q:(d.natAbs:Int)=d:=by lia
   rw [q,Int.ediv_self (by lia),iC,fi B u,e,fi]⟩
  exact Int.natAbs_dvd.mp z
 have hle:=yW hB hd;refine ⟨hle,?_⟩;have z:u.natAbs*B.natAbs=T.natAbs*d.natAbs:=by rw [←bT,e,bT]
 have z2:T.natAbs*d.natAbs≤T.natAbs*B.natAbs:=gO _ (by lia)
 rw [←z] at z2;exact Nat.le_of_mul_le_mul_right z2 (by lia)
theorem Gz{b:Int}(h1:2≤q)(h2:q≤997)(hp:ik q=true)(b1:1≤b)(b2:b<q):Int.gcd q b=1:=by
 have gp:0<Int.gcd q b:=yU _ (jF.mpr (by lia))
 by_cases g1:Int.gcd q b=1;·exact g1
 exfalso
 obtain ⟨k,ek⟩:=qz (a:=q) (b:=b);have hb:=yW (by lia) (nE (a:=q) (b:=b))
 generalize Int.gcd q b=g at *;have kp:0<k:=qV (u:=(g:Int)) (by lia) (by rw [←ek];lia)
 have k2:k≠1:=fun z=>by rw [z,iC] at ek;lia
 have no:∀d:Int,2≤d→d*d≤q→q % d=0→False:=fun d x y z=>by rw [Mw h2 x y z] at hp;cases hp
 by_cases c:(g:Int)≤k;·exact no g (by lia) (by rw [ek];exact uU c (by lia)) (by rw [ek];exact Int.mul_emod_right ..)
 ·exact no k (by lia) (by rw [ek];exact Int.mul_le_mul_of_nonneg_right (by lia) (by lia)) (by rw [ek];exact Int.mul_emod_left ..)
structure oj (q b last lt now nt:Int):Prop where
 l:∃s,last=lt*b+s*q
 n:∃s,now=nt*b+s*q
 zy:Int.gcd last now=1
 pos:1≤now
 less:now≤last
variable {nt:Int}
theorem oj.step{b last lt now:Int}(h:oj q b last lt now nt)(h1:1<now):oj q b now nt (last-last / now*now) (lt-last / now*nt)∧last-last / now*now<now:=by
 obtain ⟨⟨s,es⟩,⟨r,er⟩,c,p,le⟩:=h;have e:last-last / now*now=last % now:=by have z:=Fv last now;rw [fi] at z;lia
 have Cq:=eW last (show 0<now by lia)
 have ge:=eE last (show now≠0 by lia)
 have c':Int.gcd now (last % now)=1:=Ck fun d x y=>Cm c (by have z:=Fv last now;rw [←z];exact Int.dvd_add y (o6 x (Int.dvd_mul_right ..))) x
 have nz:last % now≠0:=fun z=>by rw [z,Int.gcd_zero_right] at c';lia
 refine ⟨⟨⟨r,er⟩,⟨s-last / now*r,?_⟩,by rw [e];exact c',by lia,by lia⟩,by lia⟩
 generalize last / now=f;rw [es,er,Int.sub_mul,Int.sub_mul,Int.mul_add,kn,kn];lia
theorem oj.done{b last lt:Int}(h:oj q b last lt 1 nt)(hq:2≤q):(nt % q*b) % q=1:=by
 obtain ⟨s,e⟩:=h.n;have z:nt*b=1+(-s)*q:=by rw [Int.neg_mul];lia
 have y:nt % q*b % q=nt*b % q:=by rw [qA (nt % q) b,Int.emod_emod,←qA]
 rw [y,z,Int.add_mul_emod_self_right];exact qB (by lia) (by lia)
theorem oj.start{b:Int}(h1:2≤q)(h2:q≤997)(hp:ik q=true)(b1:1≤b)(b2:b<q):oj q b q 0 b 1:=
 ⟨⟨1,by lia⟩,⟨0,by lia⟩,Gz h1 h2 hp b1 b2,b1,by lia⟩
end My
namespace L2
open PySem PySem.Spec PyProof.Rows
end L2
namespace My
open PySem L2
def V0(N:Addr):Sp:=fun vs H Q E=>∃q b:Int,vs=[.int q,.int b]∧2≤q∧q≤997∧ik q=true∧0≤b∧b<q∧(b=0→E (.ref N) none H)∧(b≠0→∀r:Int,0≤r→r<q→(r*b) % q=1→Q (.int r) H)
def V1(N:Addr):Sp:=fun vs H Q E=>∃q i j:Int,vs=[.int q,.int i,.int j]∧2≤q∧q≤997∧ik q=true∧0≤i∧i<q∧0≤j∧j<q∧(j=0→E (.ref N) none H)∧(j≠0→∀r:Int,0≤r→r<q→(r*j) % q=i→Q (.int r) H)
theorem V2{q i j r:Int}(hq:2≤q)(i0:0≤i)(i1:i<q)(h:(r*j) % q=1):(i*r % q*j) % q=i:=by
 have y:i*r % q*j % q=i*(r*j) % q:=by rw [qA (i*r % q) j,Int.emod_emod,←qA,kn]
 rw [y,qA,h,qB i0 i1,iC,qB i0 i1]
end My
namespace L2
open PySem PySem.Spec PyProof.Rows
structure jT (K:aL) (x qual:Str) (st:Stmt) (i:Int) (f:Addr) (fd:FuncData):Prop where
 ex:∃(oc:Value) (od:Option Addr) (kV doc pm:Value) (an:Option Addr) (bq ct:Value) (gI:Array (Option Value)) (dT:Addr) (tk:Tok) (pJ:Value) (pK:Option Addr) (n:Nat) (pL:Array (Option Value)),
  fd=PySem.W.fnOf x qual (jR st) (gX st) (aQ st) (.ref dT) kV doc pm an bq ct∧K.lookup f=some ⟨oc,od,.func fd,gI⟩∧PySem.W.codeIn K bq qual=true∧K.lookup dT=some ⟨pJ,pK,.seq #[.int i tk] n,pL⟩
 kp:PySem.W.keepIn K (.ref f)=true
section
variable {P:Program} {w:World} {K:aL} {mg:d8} {base:Heap}
variable {x qual:Str} {st:Stmt} {i:Int} {f:Addr} {fd:FuncData} {ps:List Str}
theorem jT.Gm{N:List Str}{k:Nat}{sp:Sp}(F:jT K x qual st i f fd)(S:br N ps (aQ st))(len:∀vs H Q E,sp vs H Q E→vs.length=ps.length)
  (lh:∀(bq:Value) (A:Around) (outer:List Env) (s:Shared) (H:Hp) (vs:List V) (Q:VK) (E:XK),eF k (A.deeper (envOfC qual (aQ st) s.heap.objs.size f bq))→sp vs H Q E→
   ve (jP (et P w) P w K mg base N qual (aQ st) f bq A outer s H E) E→
   ∃t,fZ (jP (et P w) P w K mg base N qual (aQ st) f bq A outer s H E) (gX st) t∧t {nx:=fun _ H'=>Q .aV H',rt:=Q} (start N vs) H):aK P w K mg base (et P w) (k+1) f fd ps sp:=by
 obtain ⟨oc,od,kV,doc,pm,an,bq,ct,gI,dT,tk,pJ,pK,n,pL,rfl,lk,gF,ld⟩:=F.ex;exact F4 lk gF S len fun A outer s H vs Q E hr kG=>lh bq A outer s H vs Q E hr kG ⟨rfl,rfl,rfl,rfl⟩
theorem Cr{dT:Addr}{oc:Value}{od an:Option Addr}{gI:Array (Option Value)}{kV doc pm bq ct:Value}{tk:Tok}{pJ:Value}{pK:Option Addr}{n:Nat}{pL:Array (Option Value)}
  (l:K.lookup f=some ⟨oc,od,.func (PySem.W.fnOf x qual (jR st) (gX st) (aQ st) (.ref dT) kV doc pm an bq ct),gI⟩)
  (c:PySem.W.codeIn K bq qual=true) (k:PySem.W.keepIn K (.ref f)=true) (ld:K.lookup dT=some ⟨pJ,pK,.seq #[.int i tk] n,pL⟩):jT K x qual st i f (PySem.W.fnOf x qual (jR st) (gX st) (aQ st) (.ref dT) kV doc pm an bq ct):=
 ⟨⟨oc,od,kV,doc,pm,an,bq,ct,gI,dT,tk,pJ,pK,n,pL,rfl,l,c,ld⟩,k⟩
theorem jT.binds(F:jT K x qual st i f fd)
  (h:∀(s:Shared) (dT:Addr) (kV doc pm:Value) (an:Option Addr) (bq ct:Value) (tk:Tok) (o:Obj) (n:Nat) (us:List Value),s.heap.get? dT=some o→o.data=.seq #[.int i tk] n→us.length=ps.length→
   BindsTo s (PySem.W.fnOf x qual (jR st) (gX st) (aQ st) (.ref dT) kV doc pm an bq ct) ⟨us,[]⟩ (ps.zip us)):Binds K fd ps []:=by
 obtain ⟨oc,od,kV,doc,pm,an,bq,ct,gI,dT,tk,pJ,pK,n,pL,rfl,lk,gF,ld⟩:=F.ex;intro s us X hl;rw [List.append_nil] at hl ⊢;exact h s dT kV doc pm an bq ct tk _ n us (X _ _ ld) rfl hl
theorem jT.V3(F:jT K x qual st i f fd)
  (h:∀(s:Shared) (dT:Addr) (kV doc pm:Value) (an:Option Addr) (bq ct:Value) (tk:Tok) (o:Obj) (n:Nat) (us:List Value),s.heap.get? dT=some o→o.data=.seq #[.int i tk] n→us.length+1=ps.length→
   BindsTo s (PySem.W.fnOf x qual (jR st) (gX st) (aQ st) (.ref dT) kV doc pm an bq ct) ⟨us,[]⟩ (ps.zip (us++[.int i tk]))):∃v,Vals [V.int i] [v]∧Binds K fd ps [v]:=by
 obtain ⟨oc,od,kV,doc,pm,an,bq,ct,gI,dT,tk,pJ,pK,n,pL,rfl,lk,gF,ld⟩:=F.ex;refine ⟨.int i tk,.cons ⟨tk,rfl⟩ .nil,fun s us X hl=>?_⟩;exact h s dT kV doc pm an bq ct tk _ n us (X _ _ ld) rfl (by simpa using hl)
theorem jT.V4{y:Str}(F:jT K x qual st i f fd)
  (h:∀(s:Shared) (dT:Addr) (kV doc pm:Value) (an:Option Addr) (bq ct:Value) (tk:Tok) (o:Obj) (n:Nat) (us ws:List Value),s.heap.get? dT=some o→o.data=.seq #[.int i tk] n→ws.length=1→us.length+1=ps.length→
   BindsTo s (PySem.W.fnOf x qual (jR st) (gX st) (aQ st) (.ref dT) kV doc pm an bq ct) ⟨us,[y].zip ws⟩ (ps.zip (us++ws))) :
  ∀(s:Shared) (us ws:List Value),K.In s.heap→ws.length=1→us.length+1=ps.length→BindsTo s fd ⟨us,[y].zip ws⟩ (ps.zip (us++ws)):=by
 obtain ⟨oc,od,kV,doc,pm,an,bq,ct,gI,dT,tk,pJ,pK,n,pL,rfl,lk,gF,ld⟩:=F.ex;intro s us ws X hw hl;exact h s dT kV doc pm an bq ct tk _ n us ws (X _ _ ld) rfl hw hl
end
section
variable {X:Cx} {CX:iW} {k:Nat} {f C:Addr} {fd:FuncData} {ps:List Str} {y:Str} {sp:Sp} {E:XK} {m:Str} {pos apos Uq:Pos} {e e' o:Expr} {ta:TE} {t tk:TA}
end
end L2
namespace My
open PySem L2
def jU(a b:Int):Int:=a.fdiv (lowG a b)
def jo(a b:Int):Int:=b.fdiv (lowG a b)
variable {a:Int}
theorem zA{b:Int}(hb:b≠0):gf (jU a b) (jo a b)∧jU a b*b=a*jo a b∧(jU a b).natAbs≤a.natAbs∧(jo a b).natAbs≤b.natAbs:=by
 have gp:=oi (a:=a) hb;have c:=Co (a:=a) hb;obtain ⟨a',ea⟩:=qz (a:=a) (b:=b);obtain ⟨b',eb⟩:=nE (a:=a) (b:=b);unfold jU jo lowG;generalize Int.gcd a b=g at *;have g0:(g:Int)≠0:=by lia
 have ga:a / (g:Int)=a':=by rw [ea];exact kX _ g0
 have gb:b / (g:Int)=b':=by rw [eb];exact kX _ g0
 rw [ga,gb] at c;have la:a'.natAbs≤a.natAbs:=by rw [←ga];exact nF ..
 have lb:b'.natAbs≤b.natAbs:=by rw [←gb];exact nF ..
 have cr:a'*b=a*b':=by rw [ea,eb];simp only [kn,fi,Int.mul_left_comm]
 by_cases h:b<0
 ·have d1:(0-(g:Int))∣a:=⟨-a',by rw [ea,Int.zero_sub,Int.neg_mul_neg]⟩
  have d2:(0-(g:Int))∣b:=⟨-b',by rw [eb,Int.zero_sub,Int.neg_mul_neg]⟩
  rw [ak h,BA d1,BA d2,Int.zero_sub,Int.ediv_neg,Int.ediv_neg,ga,gb];refine ⟨⟨?_,by rw [Int.neg_gcd,Int.gcd_neg];exact c⟩,?_,?_,?_⟩
  ·have z:0 < -b':=qV (u:=(g:Int)) (by lia) (by rw [i7,←eb];lia)
   lia
  ·rw [Int.neg_mul,i7,cr]
  ·rw [yX];exact la
  ·rw [yX];exact lb
 ·rw [aj h,BA ⟨a',ea⟩,BA ⟨b',eb⟩,ga,gb]
  have z:0<b':=qV (u:=(g:Int)) (by lia) (by rw [←eb];lia)
  exact ⟨⟨by lia,c⟩,cr,la,lb⟩
theorem MQ(a:Int):jU a 1=a∧jo a 1=1:=by
 unfold jU jo lowG;rw [nG,aj (by decide)]
 exact ⟨Int.fdiv_one a,Int.fdiv_one 1⟩
def V5(N:Addr):Sp:=fun vs H Q E=>∃a b:Int,vs=[.int a,.int b]∧cO b∧(b=0→E (.ref N) none H)∧(b≠0→∀(r:Addr) (H':Hp),ag H H'→H' r=some (.tup [.int (jU a b),.int (jo a b)])→Q (.ref r) H')
def mQ(q b:Int):Prop:=if q=0 then b=0 else b % q=0
def qW(H:Hp)(q:Int)(v:V)(a b:Int):Prop:=
 (q=0∧∃r:Addr,v=.ref r∧H r=some (.tup [.int (jU a b),.int (jo a b)]))∨(2≤q∧∃r:Int,v=.int r∧0≤r∧r<q∧(r*(b % q)) % q=a % q)
variable {q:Int}
theorem qW.mono{H H':Hp}{v:V}{b:Int}(h:qW H q v a b)(s:ag H H'):qW H' q v a b:=by
 rcases h with ⟨h,r,e,h2⟩ | h;·exact .inl ⟨h,r,e,s _ _ h2⟩
 ·exact .inr h
def V6(C N:Addr):Sp:=fun vs H Q E=>∃(z:Addr) (q a b:Int),vs=[.ref z,.int a,.int b]∧eJ C H z q∧az q∧cO b ∧
 (mQ q b→E (.ref N) none H)∧(¬mQ q b→∀(v:V) (H':Hp),ag H H'→qW H' q v a b→Q v H')
theorem V7{r b:Int}(h:2≤q)(e:(r*(b % q)) % q=a % q):(r*b-a) % q=0:=by
 have z:(r*b) % q=a % q:=by rw [←e,qA r b,qA r (b % q),Int.emod_emod]
 exact Int.emod_eq_emod_iff_emod_sub_eq_zero.mp z
end My
namespace L2
open PySem PySem.Spec PyProof.Rows
section
variable {X:Cx}
theorem V8:dE X (compareOp .Is) (fun x y H Q=>∃a b,x=.bl a∧y=.bl b∧Q (.bl (a == b)) H):=by intro pins s σ H x y v u Q I rx ry h;obtain ⟨a,b,rfl,rfl,q⟩:=h;cases rx;cases ry;exact e8 (dR I q (by cases a <;> cases b <;> rfl))
end
end L2
namespace My
open PySem L2
inductive cU (H:Hp):Int→V→Int→Int→Prop where
 | bV {p:Addr} {u d t b:Int} (e:H p=some (.tup [.int u,.int d])) (l:gf u d) (hb:b≠0) (h:u*b=t*d):cU H 0 (.ref p) t b
 | rem {q r t b:Int} (q2:2≤q) (h0:0≤r) (h1:r<q) (g:Int.gcd q b=1) (h:q∣r*b-t):cU H q (.int r) t b
variable {H H':Hp} {q t:Int} {v:V}
theorem cU.mono{b:Int}(h:cU H q v t b)(s:ag H H'):cU H' q v t b:=by
 cases h with
 | bV e l hb h=>exact .bV (s _ _ e) l hb h
 | rem q2 h0 h1 g h=>exact .rem q2 h0 h1 g h
variable {B:Nat} {x m:Int}
theorem cD.vk(h:cD B H q v x m)(hq:az q):cU H q v x m:=by
 cases h with
 | bV e l bx bm=>exact .bV e l (by have:=l.pos;lia) rfl
 | rem h0 h1 h2=>
  have q2:2≤q:=(hq.resolve_left (by lia)).1
  exact .rem q2 h0 h1 (by rw [nG]) ⟨0,by lia⟩
theorem zB{u d b:Int}(l:gf u d)(hb:b≠0)(e:u*b=t*d):u.natAbs≤t.natAbs∧d.natAbs≤b.natAbs:=by
 have h3:=l.pos;by_cases c:0<b
 ·obtain ⟨z1,z2⟩:=Cp l c e
  lia
 ·have e':u*(-b)=(-t)*d:=by rw [i7,e,Int.neg_mul]
  obtain ⟨z1,z2⟩:=Cp l (show 0 < -b by lia) e'
  lia
variable {a c:Int}
theorem vm{b:Int}(h:c≠0)(e:a*c=b*c):a=b:=Int.eq_of_mul_eq_mul_right h e
theorem MR(h:Int.gcd q c=1)(d:q∣c-t):Int.gcd q t=1:=by
 refine Ck fun e h1 h2=>Cm h h1 ?_;have z:=Int.dvd_add (o6 h1 d) h2;rw [show c-t+t=c by lia] at z
 exact z
theorem Cs(q2:2≤q)(g:Int.gcd q c=1)(d:q∣a*c):q∣a:=by
 have qq:((q.natAbs:Nat):Int)=q:=by lia
 have z:=Gx (a:=a) (b:=q) (c:=c) (d:=q.natAbs) g (by rw [qq];exact jG q) (by rw [qq];exact d)
 rw [qq] at z;exact z
theorem vp(a q:Int):∃w,a % q+q*w=a:=⟨a / q,Fv a q⟩
section
variable {C N z:Addr} {q:Int} {v u:V} {t b t' b':Int} {H:Hp} {Q:VK} {E:XK}
theorem aiZ(hw:eJ C H z q)(hq:az q)(hv:cU H q v t b)(hu:cU H q u t' b')(b1:eA t)(b2:eA b)(b3:eA t')(b4:eA b')
  (k:∀(v':V) (H':Hp),ag H H'→cU H' q v' (t*b'+t'*b) (b*b')→Q v' H'):Gy C (fun x m y n=>x*n+y*m) (fun i j=>i+j) [.ref z,v,u] H Q E:=by
 refine ⟨z,q,v,u,rfl,hw,?_⟩;cases hv with
 | bV e l hb h=>
  cases hu with
  | bV e' l' jV h'=>
   rename_i p x m p' y n
   obtain ⟨c1,c2⟩:=zB l hb h;obtain ⟨c3,c4⟩:=zB l' jV h';refine .inl ⟨rfl,_,_,x,m,y,n,rfl,rfl,e,e',l,l',av c1 b1,av c2 b2,av c3 b3,av c4 b4,fun r' H' a d s' er la ea=>k _ H' s' (.bV er la (yY hb jV) ?_)⟩;have m0:=l.pos;have n0:=l'.pos;refine vm (c:=m*n) (yY (by lia) (by lia)) ?_
   grind
  | rem q2 h0 h1 g h=>lia
 | rem q2 h0 h1 g h=>
  cases hu with
  | bV e' l' jV h'=>lia
  | rem MS MT MU g' h'=>
   rename_i i j
   have q3:q≤997:=(hq.resolve_left (by lia)).2.1
   refine .inr ⟨q2,i,j,rfl,rfl,h0,by lia,k _ H (ag.refl H) (.rem q2 (eE _ (by lia)) (eW _ (by lia)) (vj g g') ?_)⟩
   obtain ⟨k1,e1⟩:=h;obtain ⟨k2,e2⟩:=h';obtain ⟨w,ew⟩:=vp (i+j) q;exact ⟨k1*b'+k2*b-w*(b*b'),by grind⟩
theorem V9(hw:eJ C H z q)(hq:az q)(hv:cU H q v t b)(hu:cU H q u t' b')(b1:eA t)(b2:eA b)(b3:eA t')(b4:eA b')
  (k:∀(v':V) (H':Hp),ag H H'→cU H' q v' (t*t') (b*b')→Q v' H'):Gy C (fun x m y n=>x*y) (fun i j=>i*j) [.ref z,v,u] H Q E:=by
 refine ⟨z,q,v,u,rfl,hw,?_⟩;cases hv with
 | bV e l hb h=>
  cases hu with
  | bV e' l' jV h'=>
   rename_i p x m p' y n
   obtain ⟨c1,c2⟩:=zB l hb h;obtain ⟨c3,c4⟩:=zB l' jV h';refine .inl ⟨rfl,_,_,x,m,y,n,rfl,rfl,e,e',l,l',av c1 b1,av c2 b2,av c3 b3,av c4 b4,fun r' H' a d s' er la ea=>k _ H' s' (.bV er la (yY hb jV) ?_)⟩;have m0:=l.pos;have n0:=l'.pos;refine vm (c:=m*n) (yY (by lia) (by lia)) ?_
   grind
  | rem q2 h0 h1 g h=>lia
 | rem q2 h0 h1 g h=>
  cases hu with
  | bV e' l' jV h'=>lia
  | rem MS MT MU g' h'=>
   rename_i i j
   have q3:q≤997:=(hq.resolve_left (by lia)).2.1
   refine .inr ⟨q2,i,j,rfl,rfl,h0,by lia,k _ H (ag.refl H) (.rem q2 (eE _ (by lia)) (eW _ (by lia)) (vj g g') ?_)⟩
   obtain ⟨k1,e1⟩:=h;obtain ⟨k2,e2⟩:=h';obtain ⟨w,ew⟩:=vp (i*j) q;exact ⟨k1*j*b'+t*k2-w*(b*b'),by grind⟩
theorem MV{b:Int}(nz:¬q∣b):¬mQ q b:=fun h=>nz (by
  unfold mQ at h;by_cases z:q=0;·rw [ak z] at h;rw [h];exact Int.dvd_zero q
  ·rw [aj z] at h;exact BB h)
theorem V_{b:Int}(ho:qW H q v a b)(hq:az q)(nz:¬q∣b):cU H q v a b:=by
 rcases ho with ⟨rfl,r,rfl,e⟩ | ⟨q2,r,rfl,r0,r1,er⟩
 ·have b0:b≠0:=fun z=>nz (by rw [z];exact jG 0)
  have lw:=zA (a:=a) b0;exact .bV e lw.1 b0 lw.2.1
 ·obtain ⟨_,q3,q4⟩:=hq.resolve_left (by lia)
  have h1:=eE b (show q≠0 by lia)
  have h2:=eW b (show 0<q by lia)
  have h3:b % q≠0:=fun z=>nz (BB z);have g:=Gz q2 q3 q4 (show 1≤b % q by lia) h2
  obtain ⟨w,ew⟩:=vp b q;exact .rem q2 r0 r1 (MR g ⟨-w,by rw [i7];lia⟩) (BB (V7 q2 er))
theorem MW{u d u' d':Int}(l:gf u d)(l':gf u' d')(e:u*d'=u'*d):u=u'∧d=d':=by
 have h1:=l.pos;have h2:=l'.pos;have a:=(Cp l (show 0<d' by lia) e).1
 have c:=(Cp l' (show 0<d by lia) e.symm).1
 have dd:d=d':=by lia
 subst dd;exact ⟨vm (show d≠0 by lia) e,rfl⟩
theorem Wa(hv:cU H q v t b)(hu:cU H q u t' b')(e:t*b'=t'*b) :
  (∃p p' x m,v=.ref p∧u=.ref p'∧H p=some (.tup [.int x,.int m])∧H p'=some (.tup [.int x,.int m]))∨(∃i:Int,v=.int i∧u=.int i):=by
 cases hv with
 | bV e1 l hb h=>
  cases hu with
  | bV e2 l' jV h'=>
   rename_i p x m p' y n
   have z:x*n=y*m:=by refine vm (c:=b*b') (yY hb jV) ?_;grind
   obtain ⟨rfl,rfl⟩:=MW l l' z;exact .inl ⟨_,_,_,_,rfl,rfl,e1,e2⟩
  | rem q2 h0 h1 g h=>lia
 | rem q2 h0 h1 g h=>
  cases hu with
  | bV e' l' jV h'=>lia
  | rem MS MT MU g' h'=>
   rename_i i j
   have d:q∣(i-j)*(b*b'):=by obtain ⟨k1,e1⟩:=h;obtain ⟨k2,e2⟩:=h';exact ⟨k1*b'-k2*b,by grind⟩
   have d2:=Cs q2 (vj g g') d;have ij:i=j:=by
    obtain ⟨k,ek⟩:=d2;by_cases z:k=0;·rw [z,cG] at ek;lia
    ·exfalso
     rcases Int.lt_or_gt_of_ne z with z | z
     ·have:=uU (show k≤-1 by lia) (show 0≤q by lia)
      lia
     ·have:=uU (show 1≤k by lia) (show 0≤q by lia)
      lia
   subst ij;exact .inr ⟨_,rfl,rfl⟩
end
theorem cD.bu{D:Addr}{ys:List V}(h:cD B H q v x m)(eD:H D=some (.lst ys))(k:∀b o,b≠D→H b=some o→H' b=some o):cD B H' q v x m:=by
 cases h with
 | bV e l bx bm=>refine .bV (k _ _ (fun z=>?_) e) l bx bm;rw [z,eD] at e;cases e
 | rem h0 h1 h2=>exact .rem h0 h1 h2
end My
namespace L2
open PySem PySem.Spec PyProof.Rows
structure lK (J:It) (xs:List V) (H1:Hp):Prop where
 go:∀i Hc,ag H1 Hc→i<xs.length→J.go i Hc
 f9:∀i Hc x H',ag H1 Hc→J.f9 i Hc x H'→H'=Hc∧(i<xs.length→xs[i]?=some x)
 stop:∀i Hc,ag H1 Hc→xs.length≤i→J.stop i Hc
variable {K:aL} {a:Addr} {xs:List V} {H1:Hp}
theorem eK(h:cu K H1 a xs):lK (u7 K a) xs H1 where
 go:=fun i Hc s hi=>⟨xs,xs[i],s.seq h,by simp [hi]⟩
 f9:=fun i Hc x H' s y=>⟨y.1,fun _=>y.2 xs (s.seq h)⟩
 stop:=fun i Hc s hi=>⟨xs,s.seq h,hi⟩
theorem lM{lo:Int}{n:Nat}:lK (nU lo n) ((List.range n).map fun i:Nat=>V.int (lo+(i:Int))) H1 where
 go:=fun i Hc s hi=>by
  have hi:i<n:=by simpa using hi
  exact hi
 f9:=fun i Hc x H' s y=>⟨y.1,fun hi=>by
  have hi:i<n:=by simpa using hi
  rw [y.2];simp [hi]⟩
 stop:=fun i Hc s hi=>by
  have hi:n≤i:=by simpa using hi
  exact hi
variable {H:Hp}
theorem ft{H':Hp}{D:Addr}{o:HO}(s:ag H H')(n:H D=none):ag H (upd H' D o):=fun b u e=>by rw [bE (gw e n)];exact s b u e
variable {te:TE} {Q:VK}
theorem MX{J:It}{ρσ:St}{D:Addr}(js:lK J xs H1)(nD:H1 D=none)(hn:xs.length<sizeLine)
  (P:Nat→V→Hp→Prop) (mono:∀i y H H' ys,P i y H→H D=some (.lst ys)→(∀b o,b≠D→H b=some o→H' b=some o)→P i y H')
  (step:∀i x,xs[i]?=some x→∀(Hc:Hp) (R:VK),ag H1 Hc→(∃ys,Hc D=some (.lst ys))→(∀y H3,ag Hc H3→P i y H3→R y H3)→te (some x::ρσ) Hc R)
  (fin:∀ys Hc,ag H1 Hc→ys.length=xs.length→(∀i y,ys[i]?=some y→P i y Hc)→Hc D=some (.lst ys)→Q (.ref D) Hc) :
  ∃W:Nat→Nat→List V→Hp→Prop,(∃m,W 0 m [] (upd H1 D (.lst []))) ∧
   ∀i m ys Hc,W i m ys Hc→Hc D=some (.lst ys)∧((J.stop i Hc∧Q (.ref D) Hc)∨(J.go i Hc∧∀x H',J.f9 i Hc x H'→
    if true=true then te (some x::ρσ) H' fun y H3=>H3 D=some (.lst ys)∧ys.length<sizeLine∧∃m',m'<m∧W (i+1) m' (ys++[y]) (upd H3 D (.lst (ys++[y]))) else ∃m',m'<m∧W (i+1) m' ys H')):=by
 refine ⟨fun i m ys Hc=>m=xs.length-i∧i≤xs.length∧Hc D=some (.lst ys)∧ag H1 Hc∧ys.length=i∧∀j y,ys[j]?=some y→P j y Hc,⟨_,rfl,fh _,aM,ft (ag.refl H1) nD,rfl,fun j y e=>by simp at e⟩,?_⟩
 rintro i m ys Hc ⟨rfl,hi,eD,sH,el,hP⟩;refine ⟨eD,?_⟩;by_cases d3:i<xs.length
 ·refine .inr ⟨js.go i Hc sH d3,fun x H' hy=>?_⟩
  obtain ⟨rfl,hx⟩:=js.f9 i Hc x H' sH hy;rw [ak rfl];refine step i x (hx d3) _ _ sH ⟨ys,eD⟩ fun y H3 s3 hp=>?_;have e3:=s3 _ _ eD;refine ⟨e3,by lia,xs.length-(i+1),by lia,rfl,d3,aM,ft (sH.trans s3) nD,by simp [el],fun j y' e=>?_⟩
  have bu:∀b o,b≠D→H3 b=some o→upd H3 D (.lst (ys++[y])) b=some o:=fun b o nb e=>by rw [bE nb];exact e
  by_cases hj:j<i
  ·have e':ys[j]?=some y':=by rw [iS (by lia)] at e;exact e
   refine mono j y' H' _ ys (hP j y' e') eD fun b o nb e=>?_;exact bu b o nb (s3 _ _ e)
  ·have hj:j=i:=by have:=(aG.mp e).1;simp at this;lia
   subst hj;have e':y'=y:=by rw [iQ (by lia),el,qC] at e;simpa using e.symm
   subst e';exact mono _ _ H3 _ ys hp e3 bu
 ·have e:i=xs.length:=by lia
  subst e;exact .inl ⟨js.stop _ Hc sH (aI _),fin ys Hc sH el hP eD⟩
variable {wi:TI} {ρ:St→St} {σ:St}
theorem Ct(gM:∀R:It→Hp→Prop,(∀J H1,ag H H1→lK J xs H1→R J H1)→wi σ H R)(hn:xs.length<sizeLine)
  (P:Addr→Nat→V→Hp→Prop) (mono:∀D i y H H' ys,P D i y H→H D=some (.lst ys)→(∀b o,b≠D→H b=some o→H' b=some o)→P D i y H')
  (step:∀D i x,xs[i]?=some x→∀(Hc:Hp) (R:VK),ag H Hc→(∃ys,Hc D=some (.lst ys))→(∀y H3,ag Hc H3→P D i y H3→R y H3)→te (some x::ρ σ) Hc R)
  (fin:∀D ys Hc,ag H Hc→ys.length=xs.length→(∀i y,ys[i]?=some y→P D i y Hc)→Hc D=some (.lst ys)→Q (.ref D) Hc):ji wi ρ (fun _ H Q=>Q true H) te σ H Q:=by
 refine gM _ fun J H1 s1 js=>?_;intro D nD;exact MX (ρσ:=ρ σ) (te:=te) (Q:=Q) js nD hn (P D) (mono D) (fun i x hx Hc R sc=>step D i x hx Hc R (s1.trans sc)) (fun ys Hc sc=>fin D ys Hc (s1.trans sc))
variable {g:TG} {D:Ends}
theorem iK(h:te σ H fun x H1=>g x σ H1 D.nx):mM te g D σ H:=h
theorem gY{a b:TS}(h:a {D with nx:=fun σ H=>b D σ H} σ H):FJ a b D σ H:=h
section
variable {X:Cx} {N:List Str} {scope:Scope} {cl:List (Str×Addr)} {x:Str} {px pos:Pos} {iter elt:Expr} {ifs:List Expr} {wi:TI} {ρ:St→St} {tt:TT} {te:TE}
theorem qX{y:Str}{py pM:Pos}{i0:Nat}(B:Gn X N scope cl x ρ)(hc:X.calm=true)(hN:X.N.Nodup)(pN:X.N[i0]?=some y)(hy:Loc X.env.scope y)(hi:PI X (.Name x px) iter wi)(ht:∀s₃ H₃ fp,jh (X.bG N scope cl s₃ H₃ fp) ifs tt)(he:∀s₃ H₃ fp,PE (X.bG N scope cl s₃ H₃ fp) elt te)
  (zC:swapsWith (.ListComp elt [⟨.Name x px,iter,ifs,0⟩] scope pos) (some (.Name y py)) pM.line X.env=pure true:=by rfl) (hf:X.fn y=true∨X.env.scope.names.lookup y=some .local:=by first | exact .inl rfl | exact .inr rfl | assumption)
  (hs:∀x,foldedSetIterable iter X.env x=pure x:=by intro _;rfl):PS X (.Assign [.Name y py] (.ListComp elt [⟨.Name x px,iter,ifs,0⟩] scope pos) pM) (mM (ji wi ρ tt te) (aO i0)):=by
 intro pins s σ H D0 I h
 have h:ji wi ρ tt te σ H (fun v H1=>D0.nx (σ.set i0 (some v)) H1):=h
 rw [Fw _ _ _ _ zC]
 refine cS (uK (cS ?_))
 show wpAny _ X.A (do let _ ←comprehension (.ListComp elt [⟨.Name x px,iter,ifs,0⟩] scope pos) scope X.env _ (newList []) false (eval iter X.env) (some (assign (.Name y py) X.env))) _ _ s
 refine cS (cf (Q:=fun _ s'=>SP X pins D0 .next s') ?_ (fun _ s' hq=>e8 (e8 hq)) fun _ _ e=>e)
 refine uP (use:=some (assign (.Name y py) X.env)) rfl hs B.pG B.kind B.names (aS (hi pins s σ H _ I h) fun v s1 h1=>aS h1 fun pB s2 h2=>?_)
 obtain ⟨it,fp,tn,J,H2,rfl,I2,T,fk,f2,q2⟩:=h2
 have nD:H2 s2.heap.objs.size=none:=I2.aF.fresh (aI _)
 obtain ⟨W,⟨m0,w0⟩,turn⟩:=q2 _ nD
 refine qw (Bu B.zu (by intro y hy;simp at hy) (fun h₁ fM gK=>?_) B.kind)
 dsimp only at fM gK ⊢
 generalize hD:s2.heap.objs.size=D at nD w0 turn fM gK ⊢
 generalize eZ:({s2 with heap:=s2.heap.push {cls:=.type "list",dict:=none,data:=.seq ([]:List Value).toArray}}:Shared)=s3
 have I3:Inv X pins σ (upd H2 D (.lst [])) s3:=by
  subst hD eZ
  exact I2.laid (t':=s2.toks) (fun b u e=>df _ e) (aI _) ⟨fh _,[],_,.nil,gq _ rfl⟩
 have e3:s3.heap=s2.heap.push {cls:=.type "list",dict:=none,data:=.seq ([]:List Value).toArray}:=by rw [←eZ]
 have d5:∀b o,s2.heap.get? b=some o→s3.heap.get? b=some o:=fun b o e=>by rw [e3];exact df _ e
 rw [←e3] at fM gK ⊢
 have below:∀b o,s3.heap.get? b=some o→b≠s3.heap.objs.size:=fun b o e=>fG (bN e)
 have cY:∀b o,s3.heap.get? b=some o→h₁.get? b=some o:=fun b o e=>gK.extBut b o (below b o e) (df _ e)
 have fq:∀b∈fp,∃o,s2.heap.get? b=some o∧∀v,o.data≠.cell v:=T.obj _ _ fk
 have lB:∀b∈fp,b≠D:=fun b hb z=>by
  obtain ⟨o,e,_⟩:=fq b hb
  rw [z,←hD] at e
  exact absurd (bN e) (gk _)
 have cJ:∀y c,cl.lookup y=some c→X.env.cells.lookup y=some c:=fun y c e=>B.sub (y,c) (jB e)
 have lE:=I3.pf
 have dS:(X.bG N scope cl s3 (upd H2 D (.lst [])) fp).Ok:=by
  refine ⟨I.ok.mod,B.kind,I.ok.glob,I.ok.blt,aI _,fun a b c e1 e2=>I.ok.inj a b c (cJ a c e1) (cJ b c e2),fun y hy=>B.has y hy,(fun _ _ z _=>absurd z dW),(fun _=>I.ok.hd hc),I.ok.frames,.inl rfl,fun b hb=>⟨?_,fun y c e z=>?_⟩,fun b o e=>?_,av I.ok.gE I3.sz,fun b o e hb=>?_,fun b hb z=>?_,I3.stack,lE⟩
  ·obtain ⟨o,e,_⟩:=fq b hb
   exact below b o (d5 b o e)
  ·exact (f2 b hb).2.2.2.2.1 y c (cJ y c e) z
  ·exact I3.bs b o e
  ·rcases (f2 b hb).2.2.2.1 with z | z
   ·exact I.ok.mC b o e z
   ·exact absurd (dC (bN e) (av I.ok.gE z)) (gk _)
  ·rcases fg.mp (I3.pe b z) with z | z
   ·exact (f2 b hb).2.1 z
   ·exact (f2 b hb).2.2.1 z
 have IB:∀tk:Nat,Inv (X.bG N scope cl s3 (upd H2 D (.lst [])) fp) [] (none::ρ σ) (upd H2 D (.lst [])) {s3 with heap:=h₁,toks:=tk}:=fun tk=>by
  refine ⟨dS,rfl,I3.bare,Un.kept cY,⟨_,fM,fun j y v e1 e2 e3=>?_⟩,fun y c e=>?_,?_,fun y c e=>I3.iU y c (cJ y c e),(fun p hp=>nomatch hp),I3.aF.kept cY,?_⟩
  ·cases j with
   | zero=>cases e2
   | succ j=>
    obtain ⟨i,y',a1,a2,a3,a4,a5,a6⟩:=B.pH σ j v e2
    have gL:N[j+1]?=some y:=e1
    rw [gL] at a1
    cases a1
    obtain ⟨m,hn,hl⟩:=I3.loc
    obtain ⟨u,r,l⟩:=hl i y v a2 a3 a4
    refine ⟨u,r,.inr ⟨a6,?_⟩⟩
    obtain ⟨c,ec⟩:=B.has y a6
    rcases l with ⟨k,_⟩ | ⟨_,c',il,z⟩
    ·rcases a5 with q | q <;> (rw [k] at q;cases q)
    ·have:=cJ y c ec
     rw [this] at il
     cases il
     obtain ⟨o,ho,hd⟩:=z
     exact ⟨c,ec,o,cY _ _ ho,hd⟩
  ·obtain ⟨v,o,ho,hd⟩:=I3.cell y c (cJ y c e)
   exact ⟨v,o,cY _ _ ho,hd⟩
  ·exact I3.aF.fresh (aI _)
  ·show (none::ρ σ).length=N.length
   rw [dN]
   exact B.len σ I.len
 have lO:∀b o,s3.heap.get? b=some o→b≠s3.heap.objs.size:=below
 have fin:∀{σ':St} {H':Hp} {s':Shared},Inv (X.bG N scope cl s3 (upd H2 D (.lst [])) fp) [] σ' H' s'→D0.nx (σ.set i0 (some (.ref D))) H'→compPost (model X.prog X.w) X.A X.xe (some (assign (.Name y py) X.env)) (fun _ s'=>SP X pins D0 .next s') (.ref D) s3.heap.objs.size (.ok .next) s':=fun{σ' H' s'} J q=>by
  obtain ⟨m,hn,_⟩:=J.loc
  have hn:s'.heap.Ns s3.heap.objs.size m:=hn
  have JC:H' s3.heap.objs.size=none:=J.free
  have u1:Un (dy X.stack) fp (upd H2 D (.lst [])) H' s3.heap s'.heap:=by
   refine ⟨fun b o e n hb hx=>J.base.keep b o e n hb hx,fun b o e n hb hx=>J.base.slot b o e n hb hx,J.base.free,fun b o e hx=>J.base.there b o e hx,J.base.gR,J.base.gD,J.base.gS⟩
  have IX:Inv X pins σ H' s':=I3.k7 (ch:=fp) (J.os) u1 J.aF J.bare fun b hb=>by
   obtain ⟨g0,g1,g2,g3,g4,g5⟩:=f2 b hb
   exact ⟨g3,g1,g4,g5⟩
  have nl:X.env.locals≠s3.heap.objs.size:=by
   obtain ⟨m3,⟨o3,_,_,e3,_⟩,_⟩:=I3.loc
   exact lO _ _ e3
  have nc:∀z c,X.env.cells.lookup z=some c→c≠s3.heap.objs.size:=fun z c e=>by
   obtain ⟨v3,o3,e3,_⟩:=I3.cell z c e
   exact lO _ _ e3
  refine Bk (BO (v:=.ref D) IX hN pN hy rfl (fun iI lQ lR=>?_) hf)
  obtain ⟨a,lR,ha⟩:=lR
  have na:s3.heap.objs.size≠a:=by
   rcases ha with rfl | e
   ·exact fun z=>nl z.symm
   ·exact fun z=>nc _ _ e z.symm
  refine ⟨m,hn.sameBut lR na,fun h' dJ=>⟨σ.set i0 (some (.ref D)),H',?_,q⟩⟩
  have u2:Un (dy X.stack) [s3.heap.objs.size] H' H' iI.heap h':=by
   refine ⟨fun b o e n hb hx=>(dJ.2 b (by simpa using hx)).trans e,fun b o e n hb hx=>⟨o.slots,(dJ.2 b (by simpa using hx)).trans e⟩,fun b o e n hx=>n,fun b o e hx=>⟨o,(dJ.2 b (by simpa using hx)).trans e⟩,fun b xs z=>z,fun b o u z=>z,fun b ps z=>⟨#[],by simpa using z⟩⟩
  have lF:dQ X.prog X.w H' h':=fun b u e=>by
   refine (lQ.aF b u e).ja (fun c v hc z=>(dJ.2 c fun y=>?_).trans z) (fun _ z=>z) fun _ _ z=>z
   have y':c=s3.heap.objs.size:=y
   rcases hc with hc | hc
   ·rw [←hc,y',JC] at e
    cases e
   ·rw [y',JC] at hc
    cases hc
  refine lQ.k7 (s':={iI with heap:=h'}) (ch:=[s3.heap.objs.size]) rfl u2 lF lQ.bare fun b hb=>?_
  have eb:b=s3.heap.objs.size:=by simpa using hb
  subst eb
  refine ⟨.inr I3.sz,fun z=>nl z.symm,fun z c e=>nc z c e,fun p hp=>?_⟩
  exact lO _ _ (I3.pin p hp).1
 have eX:∀{H':Hp},(∀b∈fp,H' b=none)→∀b∈fp,kz (X.bG N scope cl s3 (upd H2 D (.lst [])) fp) [] H' b:=fun hn b hb=>by
  refine ⟨hn b hb,?_,?_,.inl hb,fun y c e z=>(f2 b hb).2.2.2.2.1 y c (cJ y c e) z,fun p hp=>nomatch hp⟩
  ·obtain ⟨o,e,_⟩:=fq b hb
   exact below b o (d5 b o e)
  ·exact dS.mE b hb
 have loop:∀tk:Nat,codeAny (model X.prog X.w) X.A (.compLoop (.ListComp elt [⟨.Name x px,iter,ifs,0⟩] scope pos) 0 (.ref it) (.ref D) (compEnvC scope cl s3.heap.objs.size X.env))
   (compPost (model X.prog X.w) X.A X.xe (some (assign (.Name y py) X.env)) (fun _ s'=>SP X pins D0 .next s') (.ref D) s3.heap.objs.size) {s3 with heap:=h₁,toks:=tk}:=fun tk=>by
  refine Bv (fun n s'=>∃i ys o H',Inv (X.bG N scope cl s3 (upd H2 D (.lst [])) fp) [] (o::ρ σ) H' s'∧tn i s'.heap∧(∀b∈fp,H' b=none)∧W i n ys H') ?_ m0
   ⟨0,[],none,_,IB tk,T.keep _ _ _ fk fun b hb o e=>cY _ _ (d5 _ _ e),fun b hb=>by rw [bE (lB b hb)];exact (f2 b hb).1,w0⟩
  rintro n s4 ⟨i,ys,o,H4,I4,ip,iq,w4⟩
  obtain ⟨zw,lG⟩:=turn i n ys H4 w4
  rcases lG with ⟨stop,qn⟩ | ⟨go,step⟩
  ·refine cf (T.done (X.bG N scope cl s3 (upd H2 D (.lst [])) fp) rfl rfl rfl hc i [] s4 _ H4 (fun _ _=>False) I4 (eX iq) ip stop) (fun r s5 ⟨hr,I5⟩=>?_) fun _ _ z=>z.elim
   subst hr
   exact fin I5 qn
  ·refine cf (T.item (X.bG N scope cl s3 (upd H2 D (.lst [])) fp) rfl rfl rfl hc i [] s4 _ H4 (fun _ _=>False) I4 (eX iq) ip go) (fun r s5 ⟨u,hr,h5⟩=>?_) fun _ _ z=>z.elim
   subst hr
   have z:letOwnedTupleGo (.Name x px) (.ref it) u=pure ():=rfl
   rw [z] at h5
   show wpAny _ _ ((pure ():Sem Unit) >>= fun _=>assign (.Name x px) (compEnvC scope cl s3.heap.objs.size X.env) u) _ _ s5
   refine cS (cf h5 (fun _ s5 ⟨y,H5,I5,r5,y5,eY,jK⟩=>?_) fun _ _ z=>z.elim)
   have jM:=I5.pinned (eX jK) (T.obj _ _ eY)
   have pg:PG (X.bG N scope cl s3 (upd H2 D (.lst [])) fp) (.Name x px) (aO 0):=d9 (i:=0) B.nd B.n0 (.inl (km B.hx)) (.inr (km B.hx))
   have again:∀{σ7:St} {H7:Hp} {s7:Shared},Inv (X.bG N scope cl s3 (upd H2 D (.lst [])) fp) ([]++iF fp s5.heap) σ7 H7 s7→Inv (X.bG N scope cl s3 (upd H2 D (.lst [])) fp) [] σ7 H7 s7∧tn (i+1) s7.heap∧∀b∈fp,H7 b=none:=fun{σ7 H7 s7} I7=>by
    refine ⟨I7.nV,T.keep _ _ _ eY fun b hb o e=>(I7.pin (b,o) (d7 _ (d7 _ (jd hb e)))).1,fun b hb=>?_⟩
    obtain ⟨o,e,d⟩:=T.obj _ _ eY b hb
    exact (I7.pin (b,o) (d7 _ (d7 _ (jd hb e)))).2.1
   refine cf (pg _ s5 _ H5 y u (fun σ2 H6=>σ2=some y::ρ σ∧H6=H5) jM r5 ⟨rfl,rfl⟩) (fun _ s6 ⟨σ6,H6,I6,q6⟩=>?_) fun _ _ z=>z.elim
   obtain ⟨rfl,rfl⟩:=q6
   have lH:=step y _ y5
   have tests:∀{fN:TT},jh (X.bG N scope cl s3 (upd H2 D (.lst [])) fp) ifs fN→∀{R:Bool→Hp→Prop},fN (some y::ρ σ) H6 R→wpAny (model X.prog X.w) X.A
     (forIn ifs true fun c r=>if r=true then do let ok ←isTrue c (compEnvC scope cl s3.heap.objs.size X.env) (eval c (compEnvC scope cl s3.heap.objs.size X.env));pure (ForInStep.yield ok) else pure (ForInStep.yield r))
     (fun ok s7=>∃H7,Inv (X.bG N scope cl s3 (upd H2 D (.lst [])) fp) ([]++iF fp s5.heap) (some y::ρ σ) H7 s7∧R ok H7) (fun _ _=>False) s6:=fun{fN} p {R} hR=>by
    cases p with
    | nil=>exact uQ ⟨_,I6,hR⟩
    | one p=>exact uR (p _ s6 _ _ _ I6 hR)
   refine cf (tests (ht s3 _ fp) lH) (fun ok s7 ⟨H7,I7,q7⟩=>?_) fun _ _ z=>z.elim
   cases ok with
   | false=>
    obtain ⟨m',fI,w7⟩:=q7
    obtain ⟨a1,a2,a3⟩:=again I7
    exact ⟨m',fI,i+1,ys,_,H7,a1,a2,a3,w7⟩
   | true=>
    refine cf (he s3 _ fp _ s7 _ H7 _ I7 q7) (fun ev s8 ⟨z,H8,I8,r8,jS,hz,m',fI,w8⟩=>?_) fun _ _ z=>z.elim
    refine cf (lA (X:=X.bG N scope cl s3 (upd H2 D (.lst [])) fp) _ s8 _ H8 (.ref D) [z] (.ref D) [ev] (fun _ H9=>H9=upd H8 D (.lst (ys++[z]))) I8 rfl (.cons r8 .nil) ⟨D,ys,z,rfl,rfl,jS,hz,rfl⟩) (fun _ s9 ⟨_,H9,I9,_,q9⟩=>?_) fun _ _ z=>z.elim
    subst q9
    obtain ⟨a1,a2,a3⟩:=again I9
    exact ⟨m',fI,i+1,ys++[z],_,_,a1,a2,a3,w8⟩
 have start:=loop (s3.toks+([]:List (Str×Value)).length)
 have es:({s3 with heap:=h₁,toks:=s3.toks+([]:List (Str×Value)).length}:Shared)={s2 with heap:=h₁,toks:=s2.toks+([]:List (Str×Value)).length}:=by rw [←eZ]
 rw [es] at start
 exact uS start (T.self _ 0 _ _ _ (T.keep _ _ _ fk fun b hb o e=>cY _ _ (d5 _ _ e)) start)
end
def vq(K:aL)(l1 l2:Addr):It:=
  ⟨fun i H=>∃xs ys x y,cu K H l1 xs∧cu K H l2 ys∧xs[i]?=some x∧ys[i]?=some y,
   fun i H v H'=>∃T x y,H T=none∧v=.ref T∧H'=upd H T (.tup [x,y])∧∀xs ys,cu K H l1 xs→cu K H l2 ys→xs[i]?=some x∧ys[i]?=some y,
   fun i H=>∃xs ys,cu K H l1 xs∧cu K H l2 ys∧(xs.length≤i∨ys.length≤i)⟩
variable {l1 l2:Addr}
theorem Wb{P:Program}{w:World}{elts:List Expr}{k:Nat}{pos:Pos}{z TI TO i1 i2:Addr}(D:ZipApart z TI TO i1 i2 l1 l2):Turn P w K (.Tuple elts k pos) (vq K l1 l2) [z,TI,TO,i1,i2] z
  (fun i h=>IsZip h z TI TO .none∧IsPair h TI (.ref i1) (.ref i2)∧(∃a b,IsPair h TO a b)∧h.IsListIter i1 l1 i∧h.IsListIter i2 l2 i) where
 mem:=by simp
 obj:=fun i h st b hb=>by
  obtain ⟨hz,om,⟨a,c,pO⟩,h1,h2⟩:=st;simp only [fg,qD,or_false] at hb;rcases hb with rfl | rfl | rfl | rfl | rfl;·exact ⟨_,hz,fun v z=>by cases z⟩
  ·exact ⟨_,om,fun v z=>by cases z⟩
  ·exact ⟨_,pO,fun v z=>by cases z⟩
  ·obtain ⟨o,e,c,d⟩:=h1
   exact ⟨o,e,fun v z=>by rw [d] at z;cases z⟩
  ·obtain ⟨o,e,c,d⟩:=h2
   exact ⟨o,e,fun v z=>by rw [d] at z;cases z⟩
 keep:=fun i h h' st k=>by obtain ⟨hz,om,⟨a,c,pO⟩,h1,h2⟩:=st;exact ⟨k _ (by simp) _ hz,k _ (by simp) _ om,⟨a,c,k _ (by simp) _ pO⟩,h1.at fun o e=>k _ (by simp) o e,h2.at fun o e=>k _ (by simp) o e⟩
 item:=by
  intro X hP hw hK hc i pins s σ H E I hf st hg;subst hP hw hK;obtain ⟨hz,om,⟨a,c,pO⟩,h1,h2⟩:=st;obtain ⟨xs,ys,x,y,vt,kI,hx,hy⟩:=hg;obtain ⟨au,rv,p,_⟩:=I.list vt;obtain ⟨MY,Cu,p',_⟩:=I.list kI;obtain ⟨u,hu,ru⟩:=rv.get hx;obtain ⟨u',MZ,Wc⟩:=Cu.get hy;refine wpAny_pyNext_zip_item D hz om pO h1 h2 p.isList p'.isList (x:=u) (y:=u') (by simpa using hu) (by simpa using MZ) fun h' g1 g2 g3 g4 g5 g6 g7=>⟨_,rfl,?_⟩
  refine wpAny_letOwnedTupleGo_zip g1 fun zD q1 sb=>?_;have M0:H s.heap.objs.size=none:=I.aF.fresh (aI _);have lt:∀b o,s.heap.get? b=some o→b≠s.heap.objs.size:=fun b o e=>fG (bN e);have keep:∀b o,b∉[z,TI,TO,i1,i2]→s.heap.get? b=some o→zD.get? b=some o:=fun b o nb e=>by simp only [fg,qD,or_false,not_or] at nb;exact sb.extBut _ _ nb.1 (g7 b o nb.1 nb.2.2.1 nb.2.2.2.1 nb.2.2.2.2 e)
  have Wd:z≠s.heap.objs.size:=lt _ _ hz;have pT:IsPair zD s.heap.objs.size u u':=sb.extBut _ _ Wd.symm g5;have zE:∀{b:Addr} {o:HO} (e:H b=some o),upd H s.heap.objs.size (.tup [x,y]) b=some o:=fun e=>by rw [bE (gw e M0)];exact e
  have aF:dQ X.prog X.w (upd H s.heap.objs.size (.tup [x,y])) zD:=fun b o e=>by
   by_cases hb:b=s.heap.objs.size
   ·subst hb
    rw [aM] at e;cases e;exact ⟨by show 2≤sizeLine;decide,[u,u'],.cons ru (.cons Wc .nil),⟨_,pT,rfl,_,rfl⟩⟩
   ·rw [bE hb] at e
    refine (I.aF b o e).ja (fun c v e_ q=>keep c v (fun m=>?_) q) (fun c q=>zE q) fun c xs q=>zE q;have nn:=(hf c m).1;rcases e_ with rfl | e_;·rw [nn] at e;cases e
    ·rw [nn] at e_;cases e_
  have u1:Un (dy X.stack) [z,TI,TO,i1,i2] H (upd H s.heap.objs.size (.tup [x,y])) s.heap zD:=
   ⟨fun b o e n _ hx=>keep b o hx e,fun b o e n _ hx=>⟨o.slots,keep b o hx e⟩,fun b o e n hx=>by rw [bE (lt b o e)];exact n,fun b o e hx=>⟨o,keep b o hx e⟩,fun b xs e=>zE e,fun b o u e=>zE e,fun b ps e=>⟨#[],by rw [zE e];simp⟩⟩
  refine ⟨.ref s.heap.objs.size,upd H s.heap.objs.size (.tup [x,y]),I.k7 (s':={s with heap:=zD}) (ch:=[z,TI,TO,i1,i2]) rfl u1 aF I.bare (fun b hb=>?_),rfl,⟨_,x,y,M0,rfl,rfl,fun as bs ha hb=>⟨by rw [I.FI ha vt];exact hx,by rw [I.FI hb kI];exact hy⟩⟩,?_,fun b hb=>?_⟩
  ·obtain ⟨f0,f1,f2,f3,f4,f5⟩:=hf b hb
   exact ⟨f3,f1,f4,f5⟩
  ·exact ⟨q1,sb.extBut _ _ D.TIz (g7 _ _ D.TIz D.TITO D.TIi1 D.TIi2 om),⟨_,_,sb.extBut _ _ D.TOz g2⟩,g3.extBut sb.extBut D.i1z,g4.extBut sb.extBut D.i2z⟩
  ·have nb:b≠s.heap.objs.size:=by
    simp only [fg,qD,or_false] at hb;rcases hb with rfl | rfl | rfl | rfl | rfl;·exact lt _ _ hz
    ·exact lt _ _ om
    ·exact lt _ _ pO
    ·obtain ⟨o,e,_⟩:=h1;exact lt _ _ e
    ·obtain ⟨o,e,_⟩:=h2;exact lt _ _ e
   rw [bE nb];exact (hf b hb).1
 done:=by
  intro X hP hw hK hc i pins s σ H E I hf st hg;subst hP hw hK;obtain ⟨hz,om,⟨a,c,pO⟩,h1,h2⟩:=st;obtain ⟨xs,ys,vt,kI,hx⟩:=hg;obtain ⟨au,rv,p,_⟩:=I.list vt;obtain ⟨MY,Cu,p',_⟩:=I.list kI;have hl:=rv.length;have zF:=Cu.length;refine wpAny_pyNext_zip_end (I.ok.hd hc) D hz om pO h1 h2 p.isList p'.isList (hx.imp (fun h=>by simp;lia) fun h=>by simp;lia) fun h' g=>⟨rfl,?_⟩
  have keep:∀b o,b∉[z,TI,TO,i1,i2]→s.heap.get? b=some o→h'.get? b=some o:=fun b o nb e=>by simp only [fg,qD,or_false,not_or] at nb;exact g b o nb.1 nb.2.2.1 nb.2.2.2.1 nb.2.2.2.2 e
  have aF:dQ X.prog X.w H h':=fun b o e=>by
   refine (I.aF b o e).ja (fun c v e_ q=>keep c v (fun m=>?_) q) (fun c q=>q) fun c xs q=>q;have nn:=(hf c m).1;rcases e_ with rfl | e_;·rw [nn] at e;cases e
   ·rw [nn] at e_;cases e_
  have u1:Un (dy X.stack) [z,TI,TO,i1,i2] H H s.heap h':=
   ⟨fun b o e n _ hx=>keep b o hx e,fun b o e n _ hx=>⟨o.slots,keep b o hx e⟩,fun b o e n hx=>n,fun b o e hx=>⟨o,keep b o hx e⟩,fun b xs e=>e,fun b o u e=>e,fun b ps e=>⟨#[],by rw [e];simp⟩⟩
  refine I.k7 (s':={s with heap:=h'}) (ch:=[z,TI,TO,i1,i2]) rfl u1 aF I.bare fun b hb=>?_;obtain ⟨f0,f1,f2,f3,f4,f5⟩:=hf b hb;exact ⟨f3,f1,f4,f5⟩
 self:=fun _ _ _ _ _ st h=>wpAny_pyIter_zip st.1 h
theorem boot_zip:bootBuiltins "zip"=some (.type "zip"):=by decide +kernel
def We(K:aL)(ta:TA):TI:=fun σ H R=>ta σ H fun vs H1=>∃l1 l2,vs=[.ref l1,.ref l2]∧(∃xs,cu K H1 l1 xs)∧(∃ys,cu K H1 l2 ys)∧R (vq K l1 l2) H1
section
variable {X:Cx}
theorem lT{elts:List Expr}{k:Nat}{LS:Pos}{a b:Expr}{ta:TA}{p pos:Pos}(hg:Gl X "zip")(hm:X.mg "zip"=none)(ha:PA X [a,b] ta)(hs:starEach [a,b] X.env=[(false,eval a X.env),(false,eval b X.env)]:=by rfl)(mO:starEach [b] X.env=[(false,eval b X.env)]:=by rfl) :
  PI X (.Tuple elts k LS) (.Call (.Name "zip" p) [a,b] [] pos) (We X.K ta):=by
 intro pins s σ H R I h;refine Call_ (u4 I hg hm boot_zip (Bm (aS (ha pos pins s σ H _ I h) fun us s1 ⟨vs,H1,I1,r1,q1⟩=>?_) (by rw [hs,mO]) (by rw [mO];rfl)))
 obtain ⟨l1,l2,e,⟨xs,vt⟩,⟨ys,kI⟩,q⟩:=q1;subst e;cases r1 with
 | cons r rr=>
  cases rr with
  | cons r' rr=>
   cases rr;cases r;cases r';obtain ⟨au,rv,p1,_⟩:=I1.list vt;obtain ⟨MY,Cu,p2,_⟩:=I1.list kI;have b1:l1<s1.heap.objs.size:=by obtain ⟨o,e,_⟩:=p1.isList;exact bN e
   have b2:l2<s1.heap.objs.size:=by obtain ⟨o,e,_⟩:=p2.isList;exact bN e
   refine call_zip_2 p1.isList p2.isList fun h' z1 z2 z3 z4 z5 z6 z7=>?_;refine wpAny_pyIter_zip (s:={s1 with heap:=h'}) z1 ?_;have D:ZipApart (s1.heap.objs.size+4) (s1.heap.objs.size+2) (s1.heap.objs.size+3) s1.heap.objs.size (s1.heap.objs.size+1) l1 l2:=by constructor <;> (intro h;have h:@Eq Nat _ _:=h;have b1:@LT.lt Nat _ l1 s1.heap.objs.size:=b1;have b2:@LT.lt Nat _ l2 s1.heap.objs.size:=b2;lia)
   refine ⟨_,_,_,_,H1,rfl,I1.kept (t':=s1.toks) z7,Wb D,⟨z1,z2,⟨_,_,z3⟩,z4,z5⟩,fun b hb=>?_,q⟩;have le:s1.heap.objs.size≤b:=by
    simp only [fg,qD,or_false] at hb;rcases hb with rfl | rfl | rfl | rfl | rfl;·exact BC ..
    ·exact BC ..
    ·exact BC ..
    ·exact aI _
    ·exact BC ..
   exact I1.FT le (I1.aF.fresh le)
end
section
variable {prog:Program} {w:World} {A:Around} {R:Result→Shared→Prop} {s:Shared}
theorem M3{elt target iter:Expr}{ifs:List Expr}{scope:Scope}{pos:Pos}{it acc:Value}{env:Env}(I:Nat→Shared→Prop)
  (turn:∀n s,I n s→wpAny (model prog w) A (pyNext it) (fun r s₁=>match r with
   | none=>R (.ok .next) s₁
   | some v=>wpAny (model prog w) A (letOwnedTupleGo target it v) (fun _ s₁=>wpAny (model prog w) A (assign target env v) (fun _ s₂=>
     wpAny (model prog w) A (forIn ifs true fun c r=>if r=true then do let ok ←isTrue c env (eval c env);pure (ForInStep.yield ok) else pure (ForInStep.yield r)) (fun ok s₃=>
      if ok=true then wpAny (model prog w) A (eval elt env) (fun x s₄=>
       wpAny (model prog w) A (call (.builtin "list.append") [acc,x]) (fun _ s₅=>∃m,m<n∧I m s₅) (notedBy (model prog w) A env fun e s'=>R (.error e) s') s₄) (notedBy (model prog w) A env fun e s'=>R (.error e) s') s₃
      else ∃m,m<n∧I m s₃) (notedBy (model prog w) A env fun e s'=>R (.error e) s') s₂) (notedBy (model prog w) A env fun e s'=>R (.error e) s') s₁) (notedBy (model prog w) A env fun e s'=>R (.error e) s') s₁) (notedBy (model prog w) A env fun e s'=>R (.error e) s') s)
  (n:Nat) (h:I n s):codeAny (model prog w) A (.compLoop (.ListComp elt [⟨target,iter,ifs,0⟩] scope pos) 0 it acc env) R s:=by
 refine codeAny_loop rfl I (fun n s hI=>?_) n h
 show wpAny _ A ((compTurn (.ListComp elt [⟨target,iter,ifs,0⟩] scope pos) 0 it acc env).onRaise (fun x=>do noteFrame x env;theTreesLotGoes x)) _ _ s
 refine wpAny_noted ?_
 rw [compTurn_list]
 refine cS (uK (cS (cf (turn n s hI) (fun r s₁ h₁=>?_) fun _ _ h'=>h')))
 cases r with
 | none=>exact e8 h₁
 | some v=>
  refine cS (cf h₁ (fun _ s₁ h₁=>?_) fun _ _ h'=>h')
  refine cS (cf h₁ (fun _ s₂ h₂=>cS (cf h₂ (fun ok s₃ h₃=>?_) fun _ _ h'=>h')) fun _ _ h'=>h')
  cases ok with
  | false=>exact e8 ⟨rfl,h₃⟩
  | true=>
   exact cS (cS (cf h₃ (fun x s₄ h₄=>cS (cf h₄ (fun _ s₅ h₅=>e8 (e8 ⟨rfl,h₅⟩)) fun _ _ h'=>h')) fun _ _ h'=>h'))
end
def vv(K:aL)(wi:TI)(ρ:St→St)(tt:TT)(te:TE):TE:=fun σ H Q=>wi σ H fun J H1=>∀D,H1 D=none→∃W:Nat→Nat→List V→Hp→Prop,(∃m,W 0 m [] (upd H1 D (.lst []))) ∧
 ∀i m ys Hc,W i m ys Hc→Hc D=some (.lst ys)∧((J.stop i Hc∧Q (.ref D) Hc)∨(J.go i Hc∧∀v H',J.f9 i Hc v H'→∃T x1 x2,v=.ref T∧jc K H' T [x1,x2]∧tt (some x1::some x2::ρ σ) H' fun b H2=>
  if b=true then te (some x1::some x2::ρ σ) H2 fun y H3=>H3 D=some (.lst ys)∧ys.length<sizeLine∧∃m',m'<m∧W (i+1) m' (ys++[y]) (upd H3 D (.lst (ys++[y]))) else ∃m',m'<m∧W (i+1) m' ys H2))
section
variable {X:Cx} {N:List Str} {scope:Scope} {cl:List (Str×Addr)} {x y:Str} {px py pos tp:Pos} {lU:Nat} {iter elt:Expr} {ifs:List Expr} {wi:TI} {ρ:St→St} {tt:TT} {te:TE}
structure GA (X:Cx) (N:List Str) (scope:Scope) (cl:List (Str×Addr)) (x y:Str) (ρ:St→St):Prop where
 pG:closureFor scope X.env=pure cl
 kind:scope.kind=.function
 zu:∀y∈scope.names,y.2≠.cell
 names:∀y∈scope.names,y.2=.local→scope.names.lookup y.1=some .local
 sub:∀p∈cl,X.env.cells.lookup p.1=some p.2
 has:∀y,((relabel scope X.env).names.lookup y=some .cell∨(relabel scope X.env).names.lookup y=some .free)→∃c,cl.lookup y=some c
 n0:N[0]?=some x
 n1:N[1]?=some y
 nd:N.Nodup
 hx:scope.names.lookup x=some .local
 hy:scope.names.lookup y=some .local
 pH:∀(σ:St) (j:Nat) (v:V),(ρ σ)[j]?=some (some v)→∃(i:Nat) (y:Str),N[j+1+1]?=some y∧X.N[i]?=some y∧σ[i]?=some (some v)∧nP X.env.scope y∧(X.env.kindOf y=some .cell∨X.env.kindOf y=some .free)∧((relabel scope X.env).names.lookup y=some .cell∨(relabel scope X.env).names.lookup y=some .free)
 len:∀σ:St,σ.length=X.N.length→(ρ σ).length+1+1=N.length
theorem mR(is:List Nat)(h1:closureFor scope X.env=pure cl)(h:Cd X scope N.tail.tail is:=by repeat' first | exact True.intro | refine And.intro ⟨rfl,Or.inr (Or.inl rfl),.inl rfl,.inl rfl⟩ ?_)(h2:scope.kind=.function:=by rfl)(h3:∀y∈scope.names,y.2≠.cell:=by decide +kernel)(h4:∀y∈scope.names,y.2=.local→scope.names.lookup y.1=some .local:=by decide +kernel)(h5:∀p∈cl,X.env.cells.lookup p.1=some p.2:=by repeat' first | exact nC _ | refine ic.mpr ⟨rfl,?_⟩)(h6:((relabel scope X.env).names.all fun q=>(q.2 != .cell && q.2 != .free) || (cl.lookup q.1).isSome)=true:=by rfl)(h7:N[0]?=some x:=by rfl)(Wf:N[1]?=some y:=by rfl)(h8:N.Nodup:=by decide +kernel)(h9:scope.names.lookup x=some .local:=by rfl)(Wg:scope.names.lookup y=some .local:=by rfl)(hr:∀σ:St,ρ σ=is.map fun i=>σ[i]?.join:=by exact fun _=>rfl)(hl:is.length+1+1=N.length:=by rfl):GA X N scope cl x y ρ:=
 ⟨h1,h2,h3,h4,h5,Mx h6,h7,Wf,h8,h9,Wg,fun σ j v e=>by rw [hr] at e;rw [←List.getElem?_tail,←List.getElem?_tail];exact Gp h σ j v e,fun σ _=>by rw [hr,aY];exact hl⟩
theorem oo(B:GA X N scope cl x y ρ)(hc:X.calm=true)(hi:PI X (.Tuple [.Name x px,.Name y py] lU tp) iter wi)(ht:∀s₃ H₃ fp,jh (X.bG N scope cl s₃ H₃ fp) ifs tt)(he:∀s₃ H₃ fp,PE (X.bG N scope cl s₃ H₃ fp) elt te)
  (hs:∀x,foldedSetIterable iter X.env x=pure x:=by intro _;rfl):PE X (.ListComp elt [⟨.Tuple [.Name x px,.Name y py] lU tp,iter,ifs,0⟩] scope pos) (vv X.K wi ρ tt te):=by
 intro pins s σ H Q I h
 rw [eval_ListComp]
 refine uP (use:=none) rfl hs B.pG B.kind B.names (aS (hi pins s σ H _ I h) fun v s1 h1=>aS h1 fun pB s2 h2=>?_)
 obtain ⟨it,fp,tn,J,H2,rfl,I2,T,fk,f2,q2⟩:=h2
 have nD:H2 s2.heap.objs.size=none:=I2.aF.fresh (aI _)
 obtain ⟨W,⟨m0,w0⟩,turn⟩:=q2 _ nD
 refine qw (Bu B.zu (by intro y hy;simp at hy) (fun h₁ fM gK=>?_) B.kind)
 dsimp only at fM gK ⊢
 generalize hD:s2.heap.objs.size=D at nD w0 turn fM gK ⊢
 generalize eZ:({s2 with heap:=s2.heap.push {cls:=.type "list",dict:=none,data:=.seq ([]:List Value).toArray}}:Shared)=s3
 have I3:Inv X pins σ (upd H2 D (.lst [])) s3:=by
  subst hD eZ
  exact I2.laid (t':=s2.toks) (fun b u e=>df _ e) (aI _) ⟨fh _,[],_,.nil,gq _ rfl⟩
 have e3:s3.heap=s2.heap.push {cls:=.type "list",dict:=none,data:=.seq ([]:List Value).toArray}:=by rw [←eZ]
 have d5:∀b o,s2.heap.get? b=some o→s3.heap.get? b=some o:=fun b o e=>by rw [e3];exact df _ e
 rw [←e3] at fM gK ⊢
 have below:∀b o,s3.heap.get? b=some o→b≠s3.heap.objs.size:=fun b o e=>fG (bN e)
 have cY:∀b o,s3.heap.get? b=some o→h₁.get? b=some o:=fun b o e=>gK.extBut b o (below b o e) (df _ e)
 have fq:∀b∈fp,∃o,s2.heap.get? b=some o∧∀v,o.data≠.cell v:=T.obj _ _ fk
 have lB:∀b∈fp,b≠D:=fun b hb z=>by
  obtain ⟨o,e,_⟩:=fq b hb
  rw [z,←hD] at e
  exact absurd (bN e) (gk _)
 have cJ:∀y c,cl.lookup y=some c→X.env.cells.lookup y=some c:=fun y c e=>B.sub (y,c) (jB e)
 have lE:=I3.pf
 have dS:(X.bG N scope cl s3 (upd H2 D (.lst [])) fp).Ok:=by
  refine ⟨I.ok.mod,B.kind,I.ok.glob,I.ok.blt,aI _,fun a b c e1 e2=>I.ok.inj a b c (cJ a c e1) (cJ b c e2),fun y hy=>B.has y hy,(fun _ _ z _=>absurd z dW),(fun _=>I.ok.hd hc),I.ok.frames,.inl rfl,fun b hb=>⟨?_,fun y c e z=>?_⟩,fun b o e=>?_,av I.ok.gE I3.sz,fun b o e hb=>?_,fun b hb z=>?_,I3.stack,lE⟩
  ·obtain ⟨o,e,_⟩:=fq b hb
   exact below b o (d5 b o e)
  ·exact (f2 b hb).2.2.2.2.1 y c (cJ y c e) z
  ·exact I3.bs b o e
  ·rcases (f2 b hb).2.2.2.1 with z | z
   ·exact I.ok.mC b o e z
   ·exact absurd (dC (bN e) (av I.ok.gE z)) (gk _)
  ·rcases fg.mp (I3.pe b z) with z | z
   ·exact (f2 b hb).2.1 z
   ·exact (f2 b hb).2.2.1 z
 have IB:∀tk:Nat,Inv (X.bG N scope cl s3 (upd H2 D (.lst [])) fp) [] (none::none::ρ σ) (upd H2 D (.lst [])) {s3 with heap:=h₁,toks:=tk}:=fun tk=>by
  refine ⟨dS,rfl,I3.bare,Un.kept cY,⟨_,fM,fun j y v e1 e2 e3=>?_⟩,fun y c e=>?_,?_,fun y c e=>I3.iU y c (cJ y c e),(fun p hp=>nomatch hp),I3.aF.kept cY,?_⟩
  ·cases j with
   | zero=>cases e2
   | succ j=>
   cases j with
   | zero=>cases e2
   | succ j=>
    obtain ⟨i,y',a1,a2,a3,a4,a5,a6⟩:=B.pH σ j v e2
    have gL:N[j+1+1]?=some y:=e1
    rw [gL] at a1
    cases a1
    obtain ⟨m,hn,hl⟩:=I3.loc
    obtain ⟨u,r,l⟩:=hl i y v a2 a3 a4
    refine ⟨u,r,.inr ⟨a6,?_⟩⟩
    obtain ⟨c,ec⟩:=B.has y a6
    rcases l with ⟨k,_⟩ | ⟨_,c',il,z⟩
    ·rcases a5 with q | q <;> (rw [k] at q;cases q)
    ·have:=cJ y c ec
     rw [this] at il
     cases il
     obtain ⟨o,ho,hd⟩:=z
     exact ⟨c,ec,o,cY _ _ ho,hd⟩
  ·obtain ⟨v,o,ho,hd⟩:=I3.cell y c (cJ y c e)
   exact ⟨v,o,cY _ _ ho,hd⟩
  ·exact I3.aF.fresh (aI _)
  ·show (none::none::ρ σ).length=N.length
   rw [dN,dN]
   exact B.len σ I.len
 have fin:∀{σ':St} {H':Hp} {s':Shared},Inv (X.bG N scope cl s3 (upd H2 D (.lst [])) fp) [] σ' H' s'→Q (.ref D) H'→compPost (model X.prog X.w) X.A X.xe none (EP X pins σ Q) (.ref D) s3.heap.objs.size (.ok .next) s':=fun{σ' H' s'} J q=>by
  obtain ⟨m,hn,_⟩:=J.loc
  refine ⟨m,hn,fun h' dJ=>⟨.ref D,H',?_,rfl,q⟩⟩
  have old:∀b o,s3.heap.get? b=some o→b≠s3.heap.objs.size:=below
  have u1:Un (dy X.stack) fp (upd H2 D (.lst [])) H' s3.heap h':=by
   refine ⟨fun b o e n hb hx=>?_,fun b o e n hb hx=>?_,J.base.free,fun b o e hx=>?_,J.base.gR,J.base.gD,J.base.gS⟩
   ·exact (dJ.2 b (old b o e)).trans (J.base.keep b o e n hb hx)
   ·obtain ⟨sl,z⟩:=J.base.slot b o e n hb hx
    exact ⟨sl,(dJ.2 b (old b o e)).trans z⟩
   ·obtain ⟨o',z⟩:=J.base.there b o e hx
    exact ⟨o',(dJ.2 b (old b o e)).trans z⟩
  have lF:dQ X.prog X.w H' h':=fun b u e=>by
   refine (J.aF b u e).ja (fun c v hc z=>(dJ.2 c fun y=>?_).trans z) (fun _ z=>z) fun _ _ z=>z
   have fr:=J.free
   have y':c=s3.heap.objs.size:=y
   rcases hc with hc | hc
   ·rw [←hc,y'] at e
    exact absurd (fr.symm.trans e) (by simp)
   ·rw [y'] at hc
    exact absurd (fr.symm.trans hc) (by simp)
  refine I3.k7 (s':={s' with heap:=h'}) (ch:=fp) (J.os) u1 lF J.bare fun b hb=>?_
  obtain ⟨g0,g1,g2,g3,g4,g5⟩:=f2 b hb
  exact ⟨g3,g1,g4,g5⟩
 have eX:∀{H':Hp},(∀b∈fp,H' b=none)→∀b∈fp,kz (X.bG N scope cl s3 (upd H2 D (.lst [])) fp) [] H' b:=fun hn b hb=>by
  refine ⟨hn b hb,?_,?_,.inl hb,fun y c e z=>(f2 b hb).2.2.2.2.1 y c (cJ y c e) z,fun p hp=>nomatch hp⟩
  ·obtain ⟨o,e,_⟩:=fq b hb
   exact below b o (d5 b o e)
  ·exact dS.mE b hb
 have loop:∀tk:Nat,codeAny (model X.prog X.w) X.A (.compLoop (.ListComp elt [⟨.Tuple [.Name x px,.Name y py] lU tp,iter,ifs,0⟩] scope pos) 0 (.ref it) (.ref D) (compEnvC scope cl s3.heap.objs.size X.env))
   (compPost (model X.prog X.w) X.A X.xe none (EP X pins σ Q) (.ref D) s3.heap.objs.size) {s3 with heap:=h₁,toks:=tk}:=fun tk=>by
  refine M3 (fun n s'=>∃i ys o o2 H',Inv (X.bG N scope cl s3 (upd H2 D (.lst [])) fp) [] (o::o2::ρ σ) H' s'∧tn i s'.heap∧(∀b∈fp,H' b=none)∧W i n ys H') ?_ m0
   ⟨0,[],none,none,_,IB tk,T.keep _ _ _ fk fun b hb o e=>cY _ _ (d5 _ _ e),fun b hb=>by rw [bE (lB b hb)];exact (f2 b hb).1,w0⟩
  rintro n s4 ⟨i,ys,o,o2,H4,I4,ip,iq,w4⟩
  obtain ⟨zw,lG⟩:=turn i n ys H4 w4
  rcases lG with ⟨stop,qn⟩ | ⟨go,step⟩
  ·refine cf (T.done (X.bG N scope cl s3 (upd H2 D (.lst [])) fp) rfl rfl rfl hc i [] s4 _ H4 (fun _ _=>False) I4 (eX iq) ip stop) (fun r s5 ⟨hr,I5⟩=>?_) fun _ _ z=>z.elim
   subst hr
   exact fin I5 qn
  ·refine cf (T.item (X.bG N scope cl s3 (upd H2 D (.lst [])) fp) rfl rfl rfl hc i [] s4 _ H4 (fun _ _=>False) I4 (eX iq) ip go) (fun r s5 ⟨u,hr,h5⟩=>?_) fun _ _ z=>z.elim
   subst hr
   refine cf h5 (fun _ s5 ⟨y0,H5,I5,r5,y5,eY,jK⟩=>?_) fun _ _ z=>z.elim
   obtain ⟨Tt,x1,x2,e0,GB,lH⟩:=step y0 _ y5
   subst e0
   have jM:=I5.pinned (eX jK) (T.obj _ _ eY)
   have pg:PG (X.bG N scope cl s3 (upd H2 D (.lst [])) fp) (.Tuple [.Name x px,.Name y py] lU tp) (FN X.K 2 (zd (aO 0) (zd (aO 1) FL))):=
    BW (X:=X.bG N scope cl s3 (upd H2 D (.lst [])) fp) hc (k8 (d9 (i:=0) B.nd B.n0 (.inl (km B.hx)) (.inr (km B.hx))) (k8 (d9 (i:=1) B.nd B.n1 (.inl (km B.hy)) (.inr (km B.hy))) BV))
   have again:∀{σ7:St} {H7:Hp} {s7:Shared},Inv (X.bG N scope cl s3 (upd H2 D (.lst [])) fp) ([]++iF fp s5.heap) σ7 H7 s7→Inv (X.bG N scope cl s3 (upd H2 D (.lst [])) fp) [] σ7 H7 s7∧tn (i+1) s7.heap∧∀b∈fp,H7 b=none:=fun{σ7 H7 s7} I7=>by
    refine ⟨I7.nV,T.keep _ _ _ eY fun b hb o e=>(I7.pin (b,o) (d7 _ (d7 _ (jd hb e)))).1,fun b hb=>?_⟩
    obtain ⟨o,e,d⟩:=T.obj _ _ eY b hb
    exact (I7.pin (b,o) (d7 _ (d7 _ (jd hb e)))).2.1
   refine cf (pg _ s5 _ H5 (.ref Tt) u (fun σ2 H6=>σ2=some x1::some x2::ρ σ∧H6=H5) jM r5 ⟨Tt,_,rfl,GB,rfl,_,_,rfl,_,_,rfl,rfl,rfl,rfl⟩) (fun _ s6 ⟨σ6,H6,I6,q6⟩=>?_) fun _ _ z=>z.elim
   obtain ⟨rfl,rfl⟩:=q6
   have tests:∀{fN:TT},jh (X.bG N scope cl s3 (upd H2 D (.lst [])) fp) ifs fN→∀{R:Bool→Hp→Prop},fN (some x1::some x2::ρ σ) H6 R→wpAny (model X.prog X.w) X.A
     (forIn ifs true fun c r=>if r=true then do let ok ←isTrue c (compEnvC scope cl s3.heap.objs.size X.env) (eval c (compEnvC scope cl s3.heap.objs.size X.env));pure (ForInStep.yield ok) else pure (ForInStep.yield r))
     (fun ok s7=>∃H7,Inv (X.bG N scope cl s3 (upd H2 D (.lst [])) fp) ([]++iF fp s5.heap) (some x1::some x2::ρ σ) H7 s7∧R ok H7) (fun _ _=>False) s6:=fun{fN} p {R} hR=>by
    cases p with
    | nil=>exact uQ ⟨_,I6,hR⟩
    | one p=>exact uR (p _ s6 _ _ _ I6 hR)
   refine cf (tests (ht s3 _ fp) lH) (fun ok s7 ⟨H7,I7,q7⟩=>?_) fun _ _ z=>z.elim
   cases ok with
   | false=>
    obtain ⟨m',fI,w7⟩:=q7
    obtain ⟨a1,a2,a3⟩:=again I7
    exact ⟨m',fI,i+1,ys,_,_,H7,a1,a2,a3,w7⟩
   | true=>
    refine cf (he s3 _ fp _ s7 _ H7 _ I7 q7) (fun ev s8 ⟨z,H8,I8,r8,jS,hz,m',fI,w8⟩=>?_) fun _ _ z=>z.elim
    refine cf (lA (X:=X.bG N scope cl s3 (upd H2 D (.lst [])) fp) _ s8 _ H8 (.ref D) [z] (.ref D) [ev] (fun _ H9=>H9=upd H8 D (.lst (ys++[z]))) I8 rfl (.cons r8 .nil) ⟨D,ys,z,rfl,rfl,jS,hz,rfl⟩) (fun _ s9 ⟨_,H9,I9,_,q9⟩=>?_) fun _ _ z=>z.elim
    subst q9
    obtain ⟨a1,a2,a3⟩:=again I9
    exact ⟨m',fI,i+1,ys++[z],_,_,_,a1,a2,a3,w8⟩
 have start:=loop (s3.toks+([]:List (Str×Value)).length)
 have es:({s3 with heap:=h₁,toks:=s3.toks+([]:List (Str×Value)).length}:Shared)={s2 with heap:=h₁,toks:=s2.toks+([]:List (Str×Value)).length}:=by rw [←eZ]
 rw [es] at start
 exact uS start (T.self _ 0 _ _ _ (T.keep _ _ _ fk fun b hb o e=>cY _ _ (d5 _ _ e)) start)
end
section
variable {X:Cx}
def anyR(K:aL):List V→Hp→VK→Prop:=fun xs H Q=>∃(p:Addr) (bs:List Bool),xs=[.ref p]∧cu K H p (bs.map V.bl)∧Q (.bl (bs.any id)) H
theorem M5(hc:X.calm=true)(hK:X.K=K:=by rfl):iV X (.builtin "any") (anyR K):=by
 intro pins s σ H xs us Q I r h;subst hK;obtain ⟨p,bs,rfl,hq,q⟩:=h;obtain ⟨u,rfl,ru⟩:=vals1 r;cases ru;obtain ⟨au,rv,pl,hz⟩:=I.list hq;have iw:p≠s.heap.objs.size:=by obtain ⟨o,e,_⟩:=pl.isList;exact fG (bN e)
 have hl:au.length=bs.length:=by rw [←rv.length,aY]
 refine call_any_walk (Bl pl.isList ?_);refine ⟨s.heap.objs.size,_,_,_,_,_,fun i=>bs.getD i false,rfl,Walks.list (A:=X.A.in1) (show X.A.in1.handled=none from I.ok.hd hc) s.heap.objs.size p iw au.toArray,⟨⟨_,gq _ rfl,rfl,rfl⟩,pl.isList.push _⟩,fun i v s' Q' E' hv n6=>?_,fun h' tk hk=>?_⟩
 ·have fc:au[i]?=some v:=by simpa using hv
  cases eb:bs[i]? with
  | none=>
   have:=rv.none_of (i:=i) (by rw [bj,eb];rfl)
   rw [this] at fc;cases fc
  | some b=>
   obtain ⟨u,hu,ru⟩:=rv.get (i:=i) (x:=V.bl b) (by rw [bj,eb];rfl)
   rw [hu] at fc;cases fc;cases ru;have e:bs.getD i false=b:=by rw [dg,eb];rfl
   have kI:Q' (bs.getD i false) s':=n6;rw [e] at kI;exact mf kI
 ·refine ⟨.bl (bs.any id),H,I.kept fun b o e=>hk b o (fun z=>?_) (df _ e),?_,q⟩
  ·exact absurd (bN e) (by rw [qy.mp z];exact gk _)
  ·show Value.bool _=Value.bool _
   congr 1
   rw [eQ,hl];clear hk q rv pl hz hl hq
   induction bs with
   | nil=>rfl
   | cons b bs ih=>rw [dN,List.range_succ_eq_map,List.any_cons,List.any_map,List.any_cons];show (b || (List.range bs.length).any fun i=>bs.getD i false)=(b || bs.any id);rw [ih]
def Wh(K:aL):List V→Hp→VK→Prop:=fun xs H Q=>∃(p:Addr) (ns:List Int),xs=[.ref p]∧cu K H p (ns.map V.int)∧Q (.int ns.sum) H
theorem Wi:∀(ns:List Int),preSum (fun i=>ns.getD i 0) ns.length=ns.sum:=by
 intro ns;have key:∀k,k≤ns.length→preSum (fun i=>ns.getD i 0) k=(ns.take k).sum:=by
  intro k
  induction k with
  | zero=>intro _;rfl
  | succ k ih=>
   intro hk;show preSum (fun i=>ns.getD i 0) k+ns.getD k 0=_;rw [ih (by lia),List.take_add_one,List.sum_append]
   have e:ns[k]?=some ns[k]:=by simp [show k<ns.length by lia]
   rw [dg,e];simp
 rw [key ns.length (aI _),List.take_length]
theorem M6(hc:X.calm=true)(hK:X.K=K:=by rfl):iV X (.builtin "sum") (Wh K):=by
 intro pins s σ H xs us Q I r h;subst hK;obtain ⟨p,ns,rfl,hq,q⟩:=h;obtain ⟨u,rfl,ru⟩:=vals1 r;cases ru;obtain ⟨au,rv,pl,hz⟩:=I.list hq;have iw:p≠s.heap.objs.size:=by obtain ⟨o,e,_⟩:=pl.isList;exact fG (bN e)
 have hl:au.length=ns.length:=by rw [←rv.length,aY]
 refine call_sum_walkG (Bl pl.isList ?_);refine ⟨s.heap.objs.size,_,_,_,_,_,fun i=>ns.getD i 0,rfl,Walks.list (A:=X.A.in1) (show X.A.in1.handled=none from I.ok.hd hc) s.heap.objs.size p iw au.toArray,⟨⟨_,gq _ rfl,rfl,rfl⟩,pl.isList.push _⟩,?_,fun i v hv=>?_,fun h' tk t' hk=>?_⟩
 ·intro b hb
  rw [uN];simp only [fg,qD,or_false] at hb;rcases hb with rfl | rfl;·exact Nat.lt_succ_self _
  ·obtain ⟨o,e,_⟩:=pl.isList
   exact yZ (bN e)
 ·have fc:au[i]?=some v:=by simpa using hv
  cases eb:ns[i]? with
  | none=>
   have:=rv.none_of (i:=i) (by rw [bj,eb];rfl)
   rw [this] at fc;cases fc
  | some b=>
   obtain ⟨u,hu,ru⟩:=rv.get (i:=i) (x:=V.int b) (by rw [bj,eb];rfl)
   rw [hu] at fc;cases fc;obtain ⟨t,rfl⟩:=ru;exact ⟨t,by show Value.int b t=Value.int (ns.getD i 0) t;rw [dg,eb];rfl⟩
 ·refine ⟨.int ns.sum,H,I.kept fun b o e=>hk b o (fun z=>?_) (df _ e),⟨t',?_⟩,q⟩
  ·exact absurd (bN e) (by rw [qy.mp z];exact gk _)
  ·congr 1
   rw [eQ,hl];exact Wi ns
end
theorem boot_any:bootBuiltins "any"=some (.builtin "any"):=by decide +kernel
theorem boot_sum:bootBuiltins "sum"=some (.builtin "sum"):=by decide +kernel
abbrev Cx.ed (X:Cx) (N:List Str) (scope:Scope) (cl:List (Str×Addr)) (x:Str) (s₃:Shared) (H₃:Hp) (fp:List Addr):Cx:=
 {X with N:=N,s₀:=s₃,H₀:=H₃,env:=compEnvC scope ((x,s₃.heap.objs.size+1)::cl) s₃.heap.objs.size X.env,outer:=X.stack,stack:=X.stack,ex:=fp,fn:=fun y=>y == x,pn:=[],xe:=fun _ _=>False}
section
variable {M:Model} {A:Around} {E:cV} {s:Shared}
theorem M7{scope:Scope}{globals:Addr}{cl:List (Str×Addr)}{qual x:Str}{env:Env}{Q:Env→Shared→Prop}
  (c1:∀n,cellsFrom n scope.names cl=(x,n)::cl) (p1:∀h:Heap,pushCells h scope.names=h.push {cls:=.type "cell",data:=.cell none})
  (hQ:Q (newEnv scope s.heap.objs.size globals ((x,s.heap.objs.size+1)::cl) qual none .none (some env) builtinsNs) {s with heap:=(s.heap.push {cls:=.type "dict",data:=.dict #[]}).push {cls:=.type "cell",data:=.cell none}}) :
  wpAny M A (newFunctionEnv scope globals cl [] qual none .none (some env)) Q E s:=by
 simp only [newFunctionEnv,Option.isSome_some,if_true];refine cS (wpAny_alloc ?_);refine cS (wpAny_layCells _ (fun name kind cells=>by cases Wj:kind == NameKind.cell <;> simp [Wj]) _ _ _ _ ?_)
 rw [show ({s with heap:=s.heap.push {cls:=.type "dict",data:=.dict #[]}}:Shared).heap.objs.size=s.heap.objs.size+1 from uN ..,c1,p1];exact cS (e8 (e8 hQ))
end
section
variable {X:Cx} {N:List Str} {scope:Scope} {cl:List (Str×Addr)} {x:Str} {px pos:Pos} {iter elt:Expr} {ifs:List Expr} {wi:TI} {ρ:St→St} {tt:TT} {te:TE}
theorem qY{names:List (Str×NameKind)}(h:(names.all fun q=>(q.2 != .cell && q.2 != .free) || ((cl.lookup q.1).isSome || q.1 == x))=true) :
  ∀y,y≠x→(names.lookup y=some .cell∨names.lookup y=some .free)→∃c,cl.lookup y=some c:=fun y hx hy=>by
 have key:∀k:NameKind,(k != .cell && k != .free)=false→names.lookup y=some k→∃c,cl.lookup y=some c:=fun k hk e=>by have z:=nB.mp h (y,k) (jB e);rw [hk,Bool.false_or,show ((y,k).1 == x)=false from m_.mpr hx,Bool.or_false] at z;exact Fs.mp z
 rcases hy with e | e;·exact key .cell rfl e
 ·exact key .free rfl e
structure M8 (X:Cx) (N:List Str) (scope:Scope) (cl:List (Str×Addr)) (x:Str) (ρ:St→St):Prop where
 pG:closureFor scope X.env=pure cl
 kind:scope.kind=.function
 M9:∀n,cellsFrom n scope.names cl=(x,n)::cl
 M_:∀h:Heap,pushCells h scope.names=h.push {cls:=.type "cell",data:=.cell none}
 names:∀y∈scope.names,y.2=.local→scope.names.lookup y.1=some .local
 sub:∀p∈cl,X.env.cells.lookup p.1=some p.2
 has:∀y,y≠x→((relabel scope X.env).names.lookup y=some .cell∨(relabel scope X.env).names.lookup y=some .free)→∃c,cl.lookup y=some c
 n0:N[0]?=some x
 nd:N.Nodup
 Na:(relabel scope X.env).names.lookup x=some .cell
 pH:∀(σ:St) (j:Nat) (v:V),(ρ σ)[j]?=some (some v)→∃(i:Nat) (y:Str),N[j+1]?=some y∧X.N[i]?=some y∧σ[i]?=some (some v)∧nP X.env.scope y∧(X.env.kindOf y=some .cell∨X.env.kindOf y=some .free)∧((relabel scope X.env).names.lookup y=some .cell∨(relabel scope X.env).names.lookup y=some .free)
 len:∀σ:St,σ.length=X.N.length→(ρ σ).length+1=N.length
theorem vw(B:M8 X N scope cl x ρ)(hc:X.calm=true)(hi:PI X (.Name x px) iter wi)(ht:∀s₃ H₃ fp,jh (X.ed N scope cl x s₃ H₃ fp) ifs tt)(he:∀s₃ H₃ fp,PE (X.ed N scope cl x s₃ H₃ fp) elt te)
  (hs:∀x,foldedSetIterable iter X.env x=pure x:=by intro _;rfl):PE X (.ListComp elt [⟨.Name x px,iter,ifs,0⟩] scope pos) (ji wi ρ tt te):=by
 intro pins s σ H Q I h
 rw [eval_ListComp]
 refine uP (use:=none) rfl hs B.pG B.kind B.names (aS (hi pins s σ H _ I h) fun v s1 h1=>aS h1 fun pB s2 h2=>?_)
 obtain ⟨it,fp,tn,J,H2,rfl,I2,T,fk,f2,q2⟩:=h2
 have nD:H2 s2.heap.objs.size=none:=I2.aF.fresh (aI _)
 obtain ⟨W,⟨m0,w0⟩,turn⟩:=q2 _ nD
 refine qw (M7 B.M9 B.M_ ?_)
 dsimp only
 generalize hD:s2.heap.objs.size=D at nD w0 turn ⊢
 generalize eZ:({s2 with heap:=s2.heap.push {cls:=.type "list",dict:=none,data:=.seq ([]:List Value).toArray}}:Shared)=s3
 have I3:Inv X pins σ (upd H2 D (.lst [])) s3:=by
  subst hD eZ
  exact I2.laid (t':=s2.toks) (fun b u e=>df _ e) (aI _) ⟨fh _,[],_,.nil,gq _ rfl⟩
 have e3:s3.heap=s2.heap.push {cls:=.type "list",dict:=none,data:=.seq ([]:List Value).toArray}:=by rw [←eZ]
 have d5:∀b o,s2.heap.get? b=some o→s3.heap.get? b=some o:=fun b o e=>by rw [e3];exact df _ e
 rw [←e3]
 obtain ⟨h₁,eh⟩:∃h₁,h₁=(s3.heap.push {cls:=.type "dict",data:=.dict #[]}).push {cls:=.type "cell",data:=.cell none}:=⟨_,rfl⟩
 rw [←eh]
 have fM:h₁.Ns s3.heap.objs.size (fun _=>none):=by
  rw [eh]
  exact (Heap.Ns.new s3.heap (.type "dict")).keeps fun b o e=>df _ e
 have GC:(s3.heap.push {cls:=.type "dict",data:=.dict #[]}).objs.size=s3.heap.objs.size+1:=uN ..
 have GD:h₁.IsCell (s3.heap.objs.size+1) none:=by
  rw [eh,←GC]
  exact ⟨_,gq _ rfl,rfl⟩
 have below:∀b o,s3.heap.get? b=some o→b≠s3.heap.objs.size:=fun b o e=>fG (bN e)
 have cY:∀b o,s3.heap.get? b=some o→h₁.get? b=some o:=fun b o e=>by rw [eh];exact df _ (df _ e)
 have fq:∀b∈fp,∃o,s2.heap.get? b=some o∧∀v,o.data≠.cell v:=T.obj _ _ fk
 have lB:∀b∈fp,b≠D:=fun b hb z=>by
  obtain ⟨o,e,_⟩:=fq b hb
  rw [z,←hD] at e
  exact absurd (bN e) (gk _)
 have cJ:∀y c,cl.lookup y=some c→X.env.cells.lookup y=some c:=fun y c e=>B.sub (y,c) (jB e)
 have zG:∀y c,cl.lookup y=some c→c<s3.heap.objs.size:=fun y c e=>by
  obtain ⟨v,o,eo,_⟩:=I3.cell y c (cJ y c e)
  exact bN eo
 have lk:∀y c,((x,s3.heap.objs.size+1)::cl).lookup y=some c→(y=x∧c=s3.heap.objs.size+1)∨(y≠x∧cl.lookup y=some c):=fun y c e=>by
  by_cases z:y=x
  ·subst z
   rw [o7,yT] at e
   exact .inl ⟨rfl,(Option.some.inj e).symm⟩
  ·rw [o7,m_.mpr z] at e
   exact .inr ⟨z,e⟩
 have zH:∀y c,y≠x→cl.lookup y=some c→((x,s3.heap.objs.size+1)::cl).lookup y=some c:=fun y c z e=>by
  rw [o7,m_.mpr z]
  exact e
 have zI:∀b∈fp,b<s3.heap.objs.size:=fun b hb=>by
  obtain ⟨o,e,_⟩:=fq b hb
  exact bN (d5 b o e)
 have lE:=I3.pf
 have dS:(X.ed N scope cl x s3 (upd H2 D (.lst [])) fp).Ok:=by
  refine ⟨I.ok.mod,B.kind,I.ok.glob,I.ok.blt,aI _,fun a b c e1 e2=>?inj,fun y hy=>?has,(fun y c z e=>?nQ),(fun _=>I.ok.hd hc),I.ok.frames,.inl rfl,fun b hb=>⟨?_,fun y c e z=>?_⟩,fun b o e=>?_,av I.ok.gE I3.sz,fun b o e hb=>?_,fun b hb z=>?_,I3.stack,lE⟩
  case inj=>
   rcases lk a c e1 with ⟨z1,GF⟩ | ⟨_,f1⟩ <;> rcases lk b _ e2 with ⟨z2,ec⟩ | ⟨_,zJ⟩
   ·rw [z1,z2]
   ·have:=zG _ _ zJ
    rw [GF] at this
    exact absurd this (o8.mpr (jA _))
   ·have:=zG _ _ f1
    rw [ec] at this
    exact absurd this (o8.mpr (jA _))
   ·exact I.ok.inj a b c (cJ a c f1) (cJ b c zJ)
  case has=>
   by_cases z:y=x
   ·subst z
    exact ⟨_,by rw [show (compEnvC scope ((y,s3.heap.objs.size+1)::cl) s3.heap.objs.size X.env).cells=(y,s3.heap.objs.size+1)::cl from rfl,o7,yT]⟩
   ·obtain ⟨c,ec⟩:=B.has y z hy
    exact ⟨c,zH y c z ec⟩
  case nQ=>
   have z:y=x:=by simpa using z
   rcases lk y c e with ⟨_,rfl⟩ | ⟨z',_⟩
   ·exact jA _
   ·exact absurd z z'
  ·obtain ⟨o,e,_⟩:=fq b hb
   exact below b o (d5 b o e)
  ·rcases lk y c e with ⟨rfl,rfl⟩ | ⟨_,e⟩
   ·rw [←z] at hb
    exact absurd (zI _ hb) (o8.mpr (jA _))
   ·exact (f2 b hb).2.2.2.2.1 y c (cJ y c e) z
  ·exact I3.bs b o e
  ·rcases (f2 b hb).2.2.2.1 with z | z
   ·exact I.ok.mC b o e z
   ·exact absurd (dC (bN e) (av I.ok.gE z)) (gk _)
  ·rcases fg.mp (I3.pe b z) with z | z
   ·exact (f2 b hb).2.1 z
   ·exact (f2 b hb).2.2.1 z
 have IB:∀tk:Nat,Inv (X.ed N scope cl x s3 (upd H2 D (.lst [])) fp) [] (none::ρ σ) (upd H2 D (.lst [])) {s3 with heap:=h₁,toks:=tk}:=fun tk=>by
  refine ⟨dS,rfl,I3.bare,Un.kept cY,⟨_,fM,fun j y v e1 e2 e3=>?_⟩,fun y c e=>?_,?_,fun y c e=>?fC,(fun p hp=>nomatch hp),I3.aF.kept cY,?_⟩
  ·cases j with
   | zero=>cases e2
   | succ j=>
    obtain ⟨i,y',a1,a2,a3,a4,a5,a6⟩:=B.pH σ j v e2
    have gL:N[j+1]?=some y:=e1
    rw [gL] at a1
    cases a1
    obtain ⟨m,hn,hl⟩:=I3.loc
    obtain ⟨u,r,l⟩:=hl i y v a2 a3 a4
    refine ⟨u,r,.inr ⟨a6,?_⟩⟩
    have yx:y≠x:=fun z=>by
     have n0:=B.n0
     rw [←z] at n0
     have:=(List.getElem?_inj (aG.mp n0).1 B.nd).mp (n0.trans gL.symm)
     lia
    obtain ⟨c,ec⟩:=B.has y yx a6
    rcases l with ⟨k,_⟩ | ⟨_,c',il,z⟩
    ·rcases a5 with q | q <;> (rw [k] at q;cases q)
    ·have:=cJ y c ec
     rw [this] at il
     cases il
     obtain ⟨o,ho,hd⟩:=z
     exact ⟨c,zH y c yx ec,o,cY _ _ ho,hd⟩
  case fC=>
   rcases lk y c e with ⟨rfl,rfl⟩ | ⟨_,e⟩
   ·exact I3.aF.fresh (jA _)
   ·exact I3.iU y c (cJ y c e)
  ·rcases lk y c e with ⟨rfl,rfl⟩ | ⟨_,e⟩
   ·exact ⟨none,GD⟩
   ·obtain ⟨v,o,ho,hd⟩:=I3.cell y c (cJ y c e)
    exact ⟨v,o,cY _ _ ho,hd⟩
  ·exact I3.aF.fresh (aI _)
  ·show (none::ρ σ).length=N.length
   rw [dN]
   exact B.len σ I.len
 have fin:∀{σ':St} {H':Hp} {s':Shared},Inv (X.ed N scope cl x s3 (upd H2 D (.lst [])) fp) [] σ' H' s'→Q (.ref D) H'→compPost (model X.prog X.w) X.A X.xe none (EP X pins σ Q) (.ref D) s3.heap.objs.size (.ok .next) s':=fun{σ' H' s'} J q=>by
  obtain ⟨m,hn,_⟩:=J.loc
  refine ⟨m,hn,fun h' dJ=>⟨.ref D,H',?_,rfl,q⟩⟩
  have old:∀b o,s3.heap.get? b=some o→b≠s3.heap.objs.size:=below
  have u1:Un (dy X.stack) fp (upd H2 D (.lst [])) H' s3.heap h':=by
   refine ⟨fun b o e n hb hx=>?_,fun b o e n hb hx=>?_,J.base.free,fun b o e hx=>?_,J.base.gR,J.base.gD,J.base.gS⟩
   ·exact (dJ.2 b (old b o e)).trans (J.base.keep b o e n hb hx)
   ·obtain ⟨sl,z⟩:=J.base.slot b o e n hb hx
    exact ⟨sl,(dJ.2 b (old b o e)).trans z⟩
   ·obtain ⟨o',z⟩:=J.base.there b o e hx
    exact ⟨o',(dJ.2 b (old b o e)).trans z⟩
  have lF:dQ X.prog X.w H' h':=fun b u e=>by
   refine (J.aF b u e).ja (fun c v hc z=>(dJ.2 c fun y=>?_).trans z) (fun _ z=>z) fun _ _ z=>z
   have fr:=J.free
   have y':c=s3.heap.objs.size:=y
   rcases hc with hc | hc
   ·rw [←hc,y'] at e
    exact absurd (fr.symm.trans e) (by simp)
   ·rw [y'] at hc
    exact absurd (fr.symm.trans hc) (by simp)
  refine I3.k7 (s':={s' with heap:=h'}) (ch:=fp) (J.os) u1 lF J.bare fun b hb=>?_
  obtain ⟨g0,g1,g2,g3,g4,g5⟩:=f2 b hb
  exact ⟨g3,g1,g4,g5⟩
 have eX:∀{H':Hp},(∀b∈fp,H' b=none)→∀b∈fp,kz (X.ed N scope cl x s3 (upd H2 D (.lst [])) fp) [] H' b:=fun hn b hb=>by
  refine ⟨hn b hb,?_,?_,.inl hb,fun y c e z=>?sc,fun p hp=>nomatch hp⟩
  case sc=>
   rcases lk y c e with ⟨rfl,rfl⟩ | ⟨_,e⟩
   ·rw [←z] at hb
    exact absurd (zI _ hb) (o8.mpr (jA _))
   ·exact (f2 b hb).2.2.2.2.1 y c (cJ y c e) z
  ·obtain ⟨o,e,_⟩:=fq b hb
   exact below b o (d5 b o e)
  ·exact dS.mE b hb
 have loop:∀tk:Nat,codeAny (model X.prog X.w) X.A (.compLoop (.ListComp elt [⟨.Name x px,iter,ifs,0⟩] scope pos) 0 (.ref it) (.ref D) (compEnvC scope ((x,s3.heap.objs.size+1)::cl) s3.heap.objs.size X.env))
   (compPost (model X.prog X.w) X.A X.xe none (EP X pins σ Q) (.ref D) s3.heap.objs.size) {s3 with heap:=h₁,toks:=tk}:=fun tk=>by
  refine Bv (fun n s'=>∃i ys o H',Inv (X.ed N scope cl x s3 (upd H2 D (.lst [])) fp) [] (o::ρ σ) H' s'∧tn i s'.heap∧(∀b∈fp,H' b=none)∧W i n ys H') ?_ m0
   ⟨0,[],none,_,IB tk,T.keep _ _ _ fk fun b hb o e=>cY _ _ (d5 _ _ e),fun b hb=>by rw [bE (lB b hb)];exact (f2 b hb).1,w0⟩
  rintro n s4 ⟨i,ys,o,H4,I4,ip,iq,w4⟩
  obtain ⟨zw,lG⟩:=turn i n ys H4 w4
  rcases lG with ⟨stop,qn⟩ | ⟨go,step⟩
  ·refine cf (T.done (X.ed N scope cl x s3 (upd H2 D (.lst [])) fp) rfl rfl rfl hc i [] s4 _ H4 (fun _ _=>False) I4 (eX iq) ip stop) (fun r s5 ⟨hr,I5⟩=>?_) fun _ _ z=>z.elim
   subst hr
   exact fin I5 qn
  ·refine cf (T.item (X.ed N scope cl x s3 (upd H2 D (.lst [])) fp) rfl rfl rfl hc i [] s4 _ H4 (fun _ _=>False) I4 (eX iq) ip go) (fun r s5 ⟨u,hr,h5⟩=>?_) fun _ _ z=>z.elim
   subst hr
   have z:letOwnedTupleGo (.Name x px) (.ref it) u=pure ():=rfl
   rw [z] at h5
   show wpAny _ _ ((pure ():Sem Unit) >>= fun _=>assign (.Name x px) (compEnvC scope ((x,s3.heap.objs.size+1)::cl) s3.heap.objs.size X.env) u) _ _ s5
   refine cS (cf h5 (fun _ s5 ⟨y,H5,I5,r5,y5,eY,jK⟩=>?_) fun _ _ z=>z.elim)
   have jM:=I5.pinned (eX jK) (T.obj _ _ eY)
   have pg:PG (X.ed N scope cl x s3 (upd H2 D (.lst [])) fp) (.Name x px) (aO 0):=d9 (i:=0) B.nd B.n0 (.inr B.Na) (.inl (by show (x == x)=true;simp))
   have again:∀{σ7:St} {H7:Hp} {s7:Shared},Inv (X.ed N scope cl x s3 (upd H2 D (.lst [])) fp) ([]++iF fp s5.heap) σ7 H7 s7→Inv (X.ed N scope cl x s3 (upd H2 D (.lst [])) fp) [] σ7 H7 s7∧tn (i+1) s7.heap∧∀b∈fp,H7 b=none:=fun{σ7 H7 s7} I7=>by
    refine ⟨I7.nV,T.keep _ _ _ eY fun b hb o e=>(I7.pin (b,o) (d7 _ (d7 _ (jd hb e)))).1,fun b hb=>?_⟩
    obtain ⟨o,e,d⟩:=T.obj _ _ eY b hb
    exact (I7.pin (b,o) (d7 _ (d7 _ (jd hb e)))).2.1
   refine cf (pg _ s5 _ H5 y u (fun σ2 H6=>σ2=some y::ρ σ∧H6=H5) jM r5 ⟨rfl,rfl⟩) (fun _ s6 ⟨σ6,H6,I6,q6⟩=>?_) fun _ _ z=>z.elim
   obtain ⟨rfl,rfl⟩:=q6
   have lH:=step y _ y5
   have tests:∀{fN:TT},jh (X.ed N scope cl x s3 (upd H2 D (.lst [])) fp) ifs fN→∀{R:Bool→Hp→Prop},fN (some y::ρ σ) H6 R→wpAny (model X.prog X.w) X.A
     (forIn ifs true fun c r=>if r=true then do let ok ←isTrue c (compEnvC scope ((x,s3.heap.objs.size+1)::cl) s3.heap.objs.size X.env) (eval c (compEnvC scope ((x,s3.heap.objs.size+1)::cl) s3.heap.objs.size X.env));pure (ForInStep.yield ok) else pure (ForInStep.yield r))
     (fun ok s7=>∃H7,Inv (X.ed N scope cl x s3 (upd H2 D (.lst [])) fp) ([]++iF fp s5.heap) (some y::ρ σ) H7 s7∧R ok H7) (fun _ _=>False) s6:=fun{fN} p {R} hR=>by
    cases p with
    | nil=>exact uQ ⟨_,I6,hR⟩
    | one p=>exact uR (p _ s6 _ _ _ I6 hR)
   refine cf (tests (ht s3 _ fp) lH) (fun ok s7 ⟨H7,I7,q7⟩=>?_) fun _ _ z=>z.elim
   cases ok with
   | false=>
    obtain ⟨m',fI,w7⟩:=q7
    obtain ⟨a1,a2,a3⟩:=again I7
    exact ⟨m',fI,i+1,ys,_,H7,a1,a2,a3,w7⟩
   | true=>
    refine cf (he s3 _ fp _ s7 _ H7 _ I7 q7) (fun ev s8 ⟨z,H8,I8,r8,jS,hz,m',fI,w8⟩=>?_) fun _ _ z=>z.elim
    refine cf (lA (X:=X.ed N scope cl x s3 (upd H2 D (.lst [])) fp) _ s8 _ H8 (.ref D) [z] (.ref D) [ev] (fun _ H9=>H9=upd H8 D (.lst (ys++[z]))) I8 rfl (.cons r8 .nil) ⟨D,ys,z,rfl,rfl,jS,hz,rfl⟩) (fun _ s9 ⟨_,H9,I9,_,q9⟩=>?_) fun _ _ z=>z.elim
    subst q9
    obtain ⟨a1,a2,a3⟩:=again I9
    exact ⟨m',fI,i+1,ys++[z],_,_,a1,a2,a3,w8⟩
 have start:=loop s3.toks
 have es:({s3 with heap:=h₁,toks:=s3.toks}:Shared)={s2 with heap:=h₁}:=by rw [←eZ]
 rw [es] at start
 exact uS start (T.self _ 0 _ _ _ (T.keep _ _ _ fk fun b hb o e=>cY _ _ (d5 _ _ e)) start)
end
def vx(K:aL)(H:Hp):Nat→V→V→Prop
 | 0,v,u=>v=u∧vc v=true
 | n+1,v,u=>(v=u∧vc v=true)∨∃a b xs ys,v=.ref a∧u=.ref b∧((cu K H a xs∧cu K H b ys)∨(jc K H a xs∧jc K H b ys))∧xs.length=ys.length∧∀(j:Nat) (x y:V),xs[j]?=some x→ys[j]?=some y→vx K H n x y
theorem GG{v:V}(h:vc v=true):zo v v=true:=by
 cases v with
 | aV=>rfl
 | bl b=>show (b == b)=true;simp
 | int i=>show (i == i)=true;simp
 | str x=>show (x == x)=true;simp
 | _=>cases h
theorem all_range(n:Nat):(List.range n).all (fun _=>true)=true:=by simp
section
variable {X:Cx} {pins:bS} {σ:St} {H:Hp} {s:Shared}
theorem Cv(I:Inv X pins σ H s):∀(n:Nat) (A:Around) (v u:V) (a b:Value),vx X.K H n v u→RelV v a→RelV u b→A.units+n<cLine→SeqAt.EqAt A s a b true
 | 0,A,v,u,a,b,h,ra,rb,hu=>by obtain ⟨rfl,hf⟩:=h;have z:=F_ (A:=A) (s:=s) ra rb hf hf;rw [GG hf] at z;exact z
 | n+1,A,v,u,a,b,h,ra,rb,hu=>by
  rcases h with ⟨rfl,hf⟩ | ⟨p,q,xs,ys,rfl,rfl,hs,hl,hi⟩
  ·have z:=F_ (A:=A) (s:=s) ra rb hf hf
   rw [GG hf] at z;exact z
  ·cases ra
   cases rb;by_cases pq:p=q
   ·subst pq
    exact SeqAt.EqAt.same _
   rcases hs with ⟨h1,h2⟩ | ⟨h1,h2⟩
   ·obtain ⟨us,r1,t1,_⟩:=I.list h1
    obtain ⟨vs,r2,t2,_⟩:=I.list h2;have l1:=r1.length;have l2:=r2.length;have z:=SeqAt.RcAt.lists (A:=A) (e:=fun _=>true) t1.isList t2.isList (by simp;lia) (by lia) (fun j z1 z2=>by
     have Cw:j<us.length:=by simpa using z1
     have Cy:j<vs.length:=by simpa using z2
     obtain ⟨x,ex⟩:∃x,xs[j]?=some x:=⟨xs[j],by simp [show j<xs.length by lia]⟩
     obtain ⟨y,ey⟩:∃y,ys[j]?=some y:=⟨ys[j],by simp [show j<ys.length by lia]⟩
     obtain ⟨x',mB,rx⟩:=r1.get ex;obtain ⟨y',oq,ry⟩:=r2.get ey;have e1:us.toArray[j]=x':=by simpa using (aG.mp mB).2
     have e2:vs.toArray[j]=y':=by simpa using (aG.mp oq).2
     rw [e1,e2];exact Cv I n A.in1 x y x' y' (hi j x y ex ey) rx ry (by rw [BD];lia))
    rw [all_range] at z;exact SeqAt.EqAt.of_refs pq z
   ·obtain ⟨us,r1,t1,_⟩:=I.tuple h1
    obtain ⟨vs,r2,t2,_⟩:=I.tuple h2;have l1:=r1.length;have l2:=r2.length;have z:=SeqAt.RcAt.tuples (A:=A) (e:=fun _=>true) t1 t2 (by lia) (fun j z1 z2=>by
     have Cw:j<us.length:=by simpa using z1
     have Cy:j<vs.length:=by simpa using z2
     obtain ⟨x,ex⟩:∃x,xs[j]?=some x:=⟨xs[j],by simp [show j<xs.length by lia]⟩
     obtain ⟨y,ey⟩:∃y,ys[j]?=some y:=⟨ys[j],by simp [show j<ys.length by lia]⟩
     obtain ⟨x',mB,rx⟩:=r1.get ex;obtain ⟨y',oq,ry⟩:=r2.get ey;have e1:us.toArray[j]=x':=by simpa using (aG.mp mB).2
     have e2:vs.toArray[j]=y':=by simpa using (aG.mp oq).2
     rw [e1,e2];exact Cv I n A.in1 x y x' y' (hi j x y ex ey) rx ry (by rw [BD];lia))
    have e3:(us.toArray.size == vs.toArray.size)=true:=by simp;lia
    rw [all_range,e3] at z;exact SeqAt.EqAt.of_refs pq z
end
section
variable {X:Cx}
def GH(K:aL)(n:Nat)(r:Bool):R2:=fun x y H Q=>∃a b xs ys,x=.ref a∧y=.ref b∧cu K H a xs∧cu K H b ys∧xs.length=ys.length∧(∀(j:Nat) (x y:V),xs[j]?=some x→ys[j]?=some y→vx K H n x y)∧Q (.bl r) H
variable {n:Nat}
theorem GI(hu:X.A.units+64<cLine)(hn:n<60:=by decide):dE X (compareOp .Eq) (GH X.K n true):=by
 intro pins s σ H x y v u Q I rx ry h;obtain ⟨a,b,xs,ys,rfl,rfl,h1,h2,hl,hi,q⟩:=h;cases rx;cases ry;obtain ⟨us,r1,t1,_⟩:=I.list h1;obtain ⟨vs,r2,t2,_⟩:=I.list h2;have l1:=r1.length;have l2:=r2.length;refine SeqAt.eq_listAt (e:=fun _=>true) t1.isList t2.isList (by simp;lia) (by lia) (fun j z1 z2=>?_) ?_
 ·have Cw:j<us.length:=by simpa using z1
  have Cy:j<vs.length:=by simpa using z2
  obtain ⟨x,ex⟩:∃x,xs[j]?=some x:=⟨xs[j],by simp [show j<xs.length by lia]⟩
  obtain ⟨y,ey⟩:∃y,ys[j]?=some y:=⟨ys[j],by simp [show j<ys.length by lia]⟩
  obtain ⟨x',mB,rx⟩:=r1.get ex;obtain ⟨y',oq,ry⟩:=r2.get ey;have e1:us.toArray[j]=x':=by simpa using (aG.mp mB).2
  have e2:vs.toArray[j]=y':=by simpa using (aG.mp oq).2
  rw [e1,e2];exact Cv I n X.A.in1 x y x' y' (hi j x y ex ey) rx ry (by rw [BD];lia)
 ·rw [all_range]
  exact ⟨.bl true,H,I,rfl,q⟩
theorem Wk(hu:X.A.units+64<cLine)(hn:n<60:=by decide):dE X (compareOp .NotEq) (GH X.K n false):=by
 intro pins s σ H x y v u Q I rx ry h;obtain ⟨a,b,xs,ys,rfl,rfl,h1,h2,hl,hi,q⟩:=h;cases rx;cases ry;obtain ⟨us,r1,t1,_⟩:=I.list h1;obtain ⟨vs,r2,t2,_⟩:=I.list h2;have l1:=r1.length;have l2:=r2.length;refine SeqAt.RcNeAt.lists (e:=fun _=>true) t1.isList t2.isList (by simp;lia) (by lia) (fun j z1 z2=>?_) _ _ _ _ ?_
 ·have Cw:j<us.length:=by simpa using z1
  have Cy:j<vs.length:=by simpa using z2
  obtain ⟨x,ex⟩:∃x,xs[j]?=some x:=⟨xs[j],by simp [show j<xs.length by lia]⟩
  obtain ⟨y,ey⟩:∃y,ys[j]?=some y:=⟨ys[j],by simp [show j<ys.length by lia]⟩
  obtain ⟨x',mB,rx⟩:=r1.get ex;obtain ⟨y',oq,ry⟩:=r2.get ey;have e1:us.toArray[j]=x':=by simpa using (aG.mp mB).2
  have e2:vs.toArray[j]=y':=by simpa using (aG.mp oq).2
  rw [e1,e2];exact Cv I n X.A.in1 x y x' y' (hi j x y ex ey) rx ry (by rw [BD];lia)
 ·rw [all_range]
  exact ⟨.bl false,H,I,rfl,q⟩
end
section
variable {X:Cx} {N:List Str} {scope:Scope} {cl:List (Str×Addr)} {x:Str} {px pos:Pos} {iter elt:Expr} {ifs:List Expr} {wi:TI} {ρ:St→St} {tt:TT} {te:TE}
theorem Wl{y:Str}{py pM:Pos}{i0:Nat}(B:M8 X N scope cl x ρ)(hc:X.calm=true)(hN:X.N.Nodup)(pN:X.N[i0]?=some y)(hy:Loc X.env.scope y)(hi:PI X (.Name x px) iter wi)(ht:∀s₃ H₃ fp,jh (X.ed N scope cl x s₃ H₃ fp) ifs tt)(he:∀s₃ H₃ fp,PE (X.ed N scope cl x s₃ H₃ fp) elt te)
  (zC:swapsWith (.ListComp elt [⟨.Name x px,iter,ifs,0⟩] scope pos) (some (.Name y py)) pM.line X.env=pure true:=by rfl) (hf:X.fn y=true∨X.env.scope.names.lookup y=some .local:=by first | exact .inl rfl | exact .inr rfl | assumption)
  (hs:∀x,foldedSetIterable iter X.env x=pure x:=by intro _;rfl):PS X (.Assign [.Name y py] (.ListComp elt [⟨.Name x px,iter,ifs,0⟩] scope pos) pM) (mM (ji wi ρ tt te) (aO i0)):=by
 intro pins s σ H D0 I h
 have h:ji wi ρ tt te σ H (fun v H1=>D0.nx (σ.set i0 (some v)) H1):=h
 rw [Fw _ _ _ _ zC]
 refine cS (uK (cS ?_))
 show wpAny _ X.A (do let _ ←comprehension (.ListComp elt [⟨.Name x px,iter,ifs,0⟩] scope pos) scope X.env _ (newList []) false (eval iter X.env) (some (assign (.Name y py) X.env))) _ _ s
 refine cS (cf (Q:=fun _ s'=>SP X pins D0 .next s') ?_ (fun _ s' hq=>e8 (e8 hq)) fun _ _ e=>e)
 refine uP (use:=some (assign (.Name y py) X.env)) rfl hs B.pG B.kind B.names (aS (hi pins s σ H _ I h) fun v s1 h1=>aS h1 fun pB s2 h2=>?_)
 obtain ⟨it,fp,tn,J,H2,rfl,I2,T,fk,f2,q2⟩:=h2
 have nD:H2 s2.heap.objs.size=none:=I2.aF.fresh (aI _)
 obtain ⟨W,⟨m0,w0⟩,turn⟩:=q2 _ nD
 refine qw (M7 B.M9 B.M_ ?_)
 dsimp only
 generalize hD:s2.heap.objs.size=D at nD w0 turn ⊢
 generalize eZ:({s2 with heap:=s2.heap.push {cls:=.type "list",dict:=none,data:=.seq ([]:List Value).toArray}}:Shared)=s3
 have I3:Inv X pins σ (upd H2 D (.lst [])) s3:=by
  subst hD eZ
  exact I2.laid (t':=s2.toks) (fun b u e=>df _ e) (aI _) ⟨fh _,[],_,.nil,gq _ rfl⟩
 have e3:s3.heap=s2.heap.push {cls:=.type "list",dict:=none,data:=.seq ([]:List Value).toArray}:=by rw [←eZ]
 have d5:∀b o,s2.heap.get? b=some o→s3.heap.get? b=some o:=fun b o e=>by rw [e3];exact df _ e
 rw [←e3]
 obtain ⟨h₁,eh⟩:∃h₁,h₁=(s3.heap.push {cls:=.type "dict",data:=.dict #[]}).push {cls:=.type "cell",data:=.cell none}:=⟨_,rfl⟩
 rw [←eh]
 have fM:h₁.Ns s3.heap.objs.size (fun _=>none):=by
  rw [eh]
  exact (Heap.Ns.new s3.heap (.type "dict")).keeps fun b o e=>df _ e
 have GC:(s3.heap.push {cls:=.type "dict",data:=.dict #[]}).objs.size=s3.heap.objs.size+1:=uN ..
 have GD:h₁.IsCell (s3.heap.objs.size+1) none:=by
  rw [eh,←GC]
  exact ⟨_,gq _ rfl,rfl⟩
 have below:∀b o,s3.heap.get? b=some o→b≠s3.heap.objs.size:=fun b o e=>fG (bN e)
 have cY:∀b o,s3.heap.get? b=some o→h₁.get? b=some o:=fun b o e=>by rw [eh];exact df _ (df _ e)
 have fq:∀b∈fp,∃o,s2.heap.get? b=some o∧∀v,o.data≠.cell v:=T.obj _ _ fk
 have lB:∀b∈fp,b≠D:=fun b hb z=>by
  obtain ⟨o,e,_⟩:=fq b hb
  rw [z,←hD] at e
  exact absurd (bN e) (gk _)
 have cJ:∀y c,cl.lookup y=some c→X.env.cells.lookup y=some c:=fun y c e=>B.sub (y,c) (jB e)
 have zG:∀y c,cl.lookup y=some c→c<s3.heap.objs.size:=fun y c e=>by
  obtain ⟨v,o,eo,_⟩:=I3.cell y c (cJ y c e)
  exact bN eo
 have lk:∀y c,((x,s3.heap.objs.size+1)::cl).lookup y=some c→(y=x∧c=s3.heap.objs.size+1)∨(y≠x∧cl.lookup y=some c):=fun y c e=>by
  by_cases z:y=x
  ·subst z
   rw [o7,yT] at e
   exact .inl ⟨rfl,(Option.some.inj e).symm⟩
  ·rw [o7,m_.mpr z] at e
   exact .inr ⟨z,e⟩
 have zH:∀y c,y≠x→cl.lookup y=some c→((x,s3.heap.objs.size+1)::cl).lookup y=some c:=fun y c z e=>by
  rw [o7,m_.mpr z]
  exact e
 have zI:∀b∈fp,b<s3.heap.objs.size:=fun b hb=>by
  obtain ⟨o,e,_⟩:=fq b hb
  exact bN (d5 b o e)
 have lE:=I3.pf
 have dS:(X.ed N scope cl x s3 (upd H2 D (.lst [])) fp).Ok:=by
  refine ⟨I.ok.mod,B.kind,I.ok.glob,I.ok.blt,aI _,fun a b c e1 e2=>?inj,fun y hy=>?has,(fun y c z e=>?nQ),(fun _=>I.ok.hd hc),I.ok.frames,.inl rfl,fun b hb=>⟨?_,fun y c e z=>?_⟩,fun b o e=>?_,av I.ok.gE I3.sz,fun b o e hb=>?_,fun b hb z=>?_,I3.stack,lE⟩
  case inj=>
   rcases lk a c e1 with ⟨z1,GF⟩ | ⟨_,f1⟩ <;> rcases lk b _ e2 with ⟨z2,ec⟩ | ⟨_,zJ⟩
   ·rw [z1,z2]
   ·have:=zG _ _ zJ
    rw [GF] at this
    exact absurd this (o8.mpr (jA _))
   ·have:=zG _ _ f1
    rw [ec] at this
    exact absurd this (o8.mpr (jA _))
   ·exact I.ok.inj a b c (cJ a c f1) (cJ b c zJ)
  case has=>
   by_cases z:y=x
   ·subst z
    exact ⟨_,by rw [show (compEnvC scope ((y,s3.heap.objs.size+1)::cl) s3.heap.objs.size X.env).cells=(y,s3.heap.objs.size+1)::cl from rfl,o7,yT]⟩
   ·obtain ⟨c,ec⟩:=B.has y z hy
    exact ⟨c,zH y c z ec⟩
  case nQ=>
   have z:y=x:=by simpa using z
   rcases lk y c e with ⟨_,rfl⟩ | ⟨z',_⟩
   ·exact jA _
   ·exact absurd z z'
  ·obtain ⟨o,e,_⟩:=fq b hb
   exact below b o (d5 b o e)
  ·rcases lk y c e with ⟨rfl,rfl⟩ | ⟨_,e⟩
   ·rw [←z] at hb
    exact absurd (zI _ hb) (o8.mpr (jA _))
   ·exact (f2 b hb).2.2.2.2.1 y c (cJ y c e) z
  ·exact I3.bs b o e
  ·rcases (f2 b hb).2.2.2.1 with z | z
   ·exact I.ok.mC b o e z
   ·exact absurd (dC (bN e) (av I.ok.gE z)) (gk _)
  ·rcases fg.mp (I3.pe b z) with z | z
   ·exact (f2 b hb).2.1 z
   ·exact (f2 b hb).2.2.1 z
 have IB:∀tk:Nat,Inv (X.ed N scope cl x s3 (upd H2 D (.lst [])) fp) [] (none::ρ σ) (upd H2 D (.lst [])) {s3 with heap:=h₁,toks:=tk}:=fun tk=>by
  refine ⟨dS,rfl,I3.bare,Un.kept cY,⟨_,fM,fun j y v e1 e2 e3=>?_⟩,fun y c e=>?_,?_,fun y c e=>?fC,(fun p hp=>nomatch hp),I3.aF.kept cY,?_⟩
  ·cases j with
   | zero=>cases e2
   | succ j=>
    obtain ⟨i,y',a1,a2,a3,a4,a5,a6⟩:=B.pH σ j v e2
    have gL:N[j+1]?=some y:=e1
    rw [gL] at a1
    cases a1
    obtain ⟨m,hn,hl⟩:=I3.loc
    obtain ⟨u,r,l⟩:=hl i y v a2 a3 a4
    refine ⟨u,r,.inr ⟨a6,?_⟩⟩
    have yx:y≠x:=fun z=>by
     have n0:=B.n0
     rw [←z] at n0
     have:=(List.getElem?_inj (aG.mp n0).1 B.nd).mp (n0.trans gL.symm)
     lia
    obtain ⟨c,ec⟩:=B.has y yx a6
    rcases l with ⟨k,_⟩ | ⟨_,c',il,z⟩
    ·rcases a5 with q | q <;> (rw [k] at q;cases q)
    ·have:=cJ y c ec
     rw [this] at il
     cases il
     obtain ⟨o,ho,hd⟩:=z
     exact ⟨c,zH y c yx ec,o,cY _ _ ho,hd⟩
  case fC=>
   rcases lk y c e with ⟨rfl,rfl⟩ | ⟨_,e⟩
   ·exact I3.aF.fresh (jA _)
   ·exact I3.iU y c (cJ y c e)
  ·rcases lk y c e with ⟨rfl,rfl⟩ | ⟨_,e⟩
   ·exact ⟨none,GD⟩
   ·obtain ⟨v,o,ho,hd⟩:=I3.cell y c (cJ y c e)
    exact ⟨v,o,cY _ _ ho,hd⟩
  ·exact I3.aF.fresh (aI _)
  ·show (none::ρ σ).length=N.length
   rw [dN]
   exact B.len σ I.len
 have lO:∀b o,s3.heap.get? b=some o→b≠s3.heap.objs.size:=below
 have fin:∀{σ':St} {H':Hp} {s':Shared},Inv (X.ed N scope cl x s3 (upd H2 D (.lst [])) fp) [] σ' H' s'→D0.nx (σ.set i0 (some (.ref D))) H'→compPost (model X.prog X.w) X.A X.xe (some (assign (.Name y py) X.env)) (fun _ s'=>SP X pins D0 .next s') (.ref D) s3.heap.objs.size (.ok .next) s':=fun{σ' H' s'} J q=>by
  obtain ⟨m,hn,_⟩:=J.loc
  have hn:s'.heap.Ns s3.heap.objs.size m:=hn
  have JC:H' s3.heap.objs.size=none:=J.free
  have u1:Un (dy X.stack) fp (upd H2 D (.lst [])) H' s3.heap s'.heap:=by
   refine ⟨fun b o e n hb hx=>J.base.keep b o e n hb hx,fun b o e n hb hx=>J.base.slot b o e n hb hx,J.base.free,fun b o e hx=>J.base.there b o e hx,J.base.gR,J.base.gD,J.base.gS⟩
  have IX:Inv X pins σ H' s':=I3.k7 (ch:=fp) (J.os) u1 J.aF J.bare fun b hb=>by
   obtain ⟨g0,g1,g2,g3,g4,g5⟩:=f2 b hb
   exact ⟨g3,g1,g4,g5⟩
  have nl:X.env.locals≠s3.heap.objs.size:=by
   obtain ⟨m3,⟨o3,_,_,e3,_⟩,_⟩:=I3.loc
   exact lO _ _ e3
  have nc:∀z c,X.env.cells.lookup z=some c→c≠s3.heap.objs.size:=fun z c e=>by
   obtain ⟨v3,o3,e3,_⟩:=I3.cell z c e
   exact lO _ _ e3
  refine Bk (BO (v:=.ref D) IX hN pN hy rfl (fun iI lQ lR=>?_) hf)
  obtain ⟨a,lR,ha⟩:=lR
  have na:s3.heap.objs.size≠a:=by
   rcases ha with rfl | e
   ·exact fun z=>nl z.symm
   ·exact fun z=>nc _ _ e z.symm
  refine ⟨m,hn.sameBut lR na,fun h' dJ=>⟨σ.set i0 (some (.ref D)),H',?_,q⟩⟩
  have u2:Un (dy X.stack) [s3.heap.objs.size] H' H' iI.heap h':=by
   refine ⟨fun b o e n hb hx=>(dJ.2 b (by simpa using hx)).trans e,fun b o e n hb hx=>⟨o.slots,(dJ.2 b (by simpa using hx)).trans e⟩,fun b o e n hx=>n,fun b o e hx=>⟨o,(dJ.2 b (by simpa using hx)).trans e⟩,fun b xs z=>z,fun b o u z=>z,fun b ps z=>⟨#[],by simpa using z⟩⟩
  have lF:dQ X.prog X.w H' h':=fun b u e=>by
   refine (lQ.aF b u e).ja (fun c v hc z=>(dJ.2 c fun y=>?_).trans z) (fun _ z=>z) fun _ _ z=>z
   have y':c=s3.heap.objs.size:=y
   rcases hc with hc | hc
   ·rw [←hc,y',JC] at e
    cases e
   ·rw [y',JC] at hc
    cases hc
  refine lQ.k7 (s':={iI with heap:=h'}) (ch:=[s3.heap.objs.size]) rfl u2 lF lQ.bare fun b hb=>?_
  have eb:b=s3.heap.objs.size:=by simpa using hb
  subst eb
  refine ⟨.inr I3.sz,fun z=>nl z.symm,fun z c e=>nc z c e,fun p hp=>?_⟩
  exact lO _ _ (I3.pin p hp).1
 have eX:∀{H':Hp},(∀b∈fp,H' b=none)→∀b∈fp,kz (X.ed N scope cl x s3 (upd H2 D (.lst [])) fp) [] H' b:=fun hn b hb=>by
  refine ⟨hn b hb,?_,?_,.inl hb,fun y c e z=>?sc,fun p hp=>nomatch hp⟩
  case sc=>
   rcases lk y c e with ⟨rfl,rfl⟩ | ⟨_,e⟩
   ·rw [←z] at hb
    exact absurd (zI _ hb) (o8.mpr (jA _))
   ·exact (f2 b hb).2.2.2.2.1 y c (cJ y c e) z
  ·obtain ⟨o,e,_⟩:=fq b hb
   exact below b o (d5 b o e)
  ·exact dS.mE b hb
 have loop:∀tk:Nat,codeAny (model X.prog X.w) X.A (.compLoop (.ListComp elt [⟨.Name x px,iter,ifs,0⟩] scope pos) 0 (.ref it) (.ref D) (compEnvC scope ((x,s3.heap.objs.size+1)::cl) s3.heap.objs.size X.env))
   (compPost (model X.prog X.w) X.A X.xe (some (assign (.Name y py) X.env)) (fun _ s'=>SP X pins D0 .next s') (.ref D) s3.heap.objs.size) {s3 with heap:=h₁,toks:=tk}:=fun tk=>by
  refine Bv (fun n s'=>∃i ys o H',Inv (X.ed N scope cl x s3 (upd H2 D (.lst [])) fp) [] (o::ρ σ) H' s'∧tn i s'.heap∧(∀b∈fp,H' b=none)∧W i n ys H') ?_ m0
   ⟨0,[],none,_,IB tk,T.keep _ _ _ fk fun b hb o e=>cY _ _ (d5 _ _ e),fun b hb=>by rw [bE (lB b hb)];exact (f2 b hb).1,w0⟩
  rintro n s4 ⟨i,ys,o,H4,I4,ip,iq,w4⟩
  obtain ⟨zw,lG⟩:=turn i n ys H4 w4
  rcases lG with ⟨stop,qn⟩ | ⟨go,step⟩
  ·refine cf (T.done (X.ed N scope cl x s3 (upd H2 D (.lst [])) fp) rfl rfl rfl hc i [] s4 _ H4 (fun _ _=>False) I4 (eX iq) ip stop) (fun r s5 ⟨hr,I5⟩=>?_) fun _ _ z=>z.elim
   subst hr
   exact fin I5 qn
  ·refine cf (T.item (X.ed N scope cl x s3 (upd H2 D (.lst [])) fp) rfl rfl rfl hc i [] s4 _ H4 (fun _ _=>False) I4 (eX iq) ip go) (fun r s5 ⟨u,hr,h5⟩=>?_) fun _ _ z=>z.elim
   subst hr
   have z:letOwnedTupleGo (.Name x px) (.ref it) u=pure ():=rfl
   rw [z] at h5
   show wpAny _ _ ((pure ():Sem Unit) >>= fun _=>assign (.Name x px) (compEnvC scope ((x,s3.heap.objs.size+1)::cl) s3.heap.objs.size X.env) u) _ _ s5
   refine cS (cf h5 (fun _ s5 ⟨y,H5,I5,r5,y5,eY,jK⟩=>?_) fun _ _ z=>z.elim)
   have jM:=I5.pinned (eX jK) (T.obj _ _ eY)
   have pg:PG (X.ed N scope cl x s3 (upd H2 D (.lst [])) fp) (.Name x px) (aO 0):=d9 (i:=0) B.nd B.n0 (.inr B.Na) (.inl (by show (x == x)=true;simp))
   have again:∀{σ7:St} {H7:Hp} {s7:Shared},Inv (X.ed N scope cl x s3 (upd H2 D (.lst [])) fp) ([]++iF fp s5.heap) σ7 H7 s7→Inv (X.ed N scope cl x s3 (upd H2 D (.lst [])) fp) [] σ7 H7 s7∧tn (i+1) s7.heap∧∀b∈fp,H7 b=none:=fun{σ7 H7 s7} I7=>by
    refine ⟨I7.nV,T.keep _ _ _ eY fun b hb o e=>(I7.pin (b,o) (d7 _ (d7 _ (jd hb e)))).1,fun b hb=>?_⟩
    obtain ⟨o,e,d⟩:=T.obj _ _ eY b hb
    exact (I7.pin (b,o) (d7 _ (d7 _ (jd hb e)))).2.1
   refine cf (pg _ s5 _ H5 y u (fun σ2 H6=>σ2=some y::ρ σ∧H6=H5) jM r5 ⟨rfl,rfl⟩) (fun _ s6 ⟨σ6,H6,I6,q6⟩=>?_) fun _ _ z=>z.elim
   obtain ⟨rfl,rfl⟩:=q6
   have lH:=step y _ y5
   have tests:∀{fN:TT},jh (X.ed N scope cl x s3 (upd H2 D (.lst [])) fp) ifs fN→∀{R:Bool→Hp→Prop},fN (some y::ρ σ) H6 R→wpAny (model X.prog X.w) X.A
     (forIn ifs true fun c r=>if r=true then do let ok ←isTrue c (compEnvC scope ((x,s3.heap.objs.size+1)::cl) s3.heap.objs.size X.env) (eval c (compEnvC scope ((x,s3.heap.objs.size+1)::cl) s3.heap.objs.size X.env));pure (ForInStep.yield ok) else pure (ForInStep.yield r))
     (fun ok s7=>∃H7,Inv (X.ed N scope cl x s3 (upd H2 D (.lst [])) fp) ([]++iF fp s5.heap) (some y::ρ σ) H7 s7∧R ok H7) (fun _ _=>False) s6:=fun{fN} p {R} hR=>by
    cases p with
    | nil=>exact uQ ⟨_,I6,hR⟩
    | one p=>exact uR (p _ s6 _ _ _ I6 hR)
   refine cf (tests (ht s3 _ fp) lH) (fun ok s7 ⟨H7,I7,q7⟩=>?_) fun _ _ z=>z.elim
   cases ok with
   | false=>
    obtain ⟨m',fI,w7⟩:=q7
    obtain ⟨a1,a2,a3⟩:=again I7
    exact ⟨m',fI,i+1,ys,_,H7,a1,a2,a3,w7⟩
   | true=>
    refine cf (he s3 _ fp _ s7 _ H7 _ I7 q7) (fun ev s8 ⟨z,H8,I8,r8,jS,hz,m',fI,w8⟩=>?_) fun _ _ z=>z.elim
    refine cf (lA (X:=X.ed N scope cl x s3 (upd H2 D (.lst [])) fp) _ s8 _ H8 (.ref D) [z] (.ref D) [ev] (fun _ H9=>H9=upd H8 D (.lst (ys++[z]))) I8 rfl (.cons r8 .nil) ⟨D,ys,z,rfl,rfl,jS,hz,rfl⟩) (fun _ s9 ⟨_,H9,I9,_,q9⟩=>?_) fun _ _ z=>z.elim
    subst q9
    obtain ⟨a1,a2,a3⟩:=again I9
    exact ⟨m',fI,i+1,ys++[z],_,_,a1,a2,a3,w8⟩
 have start:=loop s3.toks
 have es:({s3 with heap:=h₁,toks:=s3.toks}:Shared)={s2 with heap:=h₁}:=by rw [←eZ]
 rw [es] at start
 exact uS start (T.self _ 0 _ _ _ (T.keep _ _ _ fk fun b hb o e=>cY _ _ (d5 _ _ e)) start)
end
structure Cz (J:It) (zs:List (V×V)) (H1:Hp):Prop where
 go:∀i Hc,ag H1 Hc→i<zs.length→J.go i Hc
 f9:∀i Hc v H',ag H1 Hc→J.f9 i Hc v H'→∃T x y,v=.ref T∧Hc T=none∧H'=upd Hc T (.tup [x,y])∧(i<zs.length→zs[i]?=some (x,y))
 stop:∀i Hc,ag H1 Hc→zs.length≤i→J.stop i Hc
variable {ys:List V}
theorem lV{b:Addr}(h1:cu K H1 a xs)(h2:cu K H1 b ys):Cz (vq K a b) (xs.zip ys) H1 where
 go:=fun i Hc s hi=>by
  have hi:i<min xs.length ys.length:=by simpa using hi
  exact ⟨xs,ys,xs[i],ys[i],s.seq h1,s.seq h2,by simp [show i<xs.length by lia],by simp [show i<ys.length by lia]⟩
 f9:=fun i Hc v H' s y=>by obtain ⟨T,x,y,nT,ev,eH,hx⟩:=y;obtain ⟨e1,e2⟩:=hx xs ys (s.seq h1) (s.seq h2);exact ⟨T,x,y,ev,nT,eH,fun _=>by rw [mh];exact ⟨e1,e2⟩⟩
 stop:=fun i Hc s hi=>by
  have hi:min xs.length ys.length≤i:=by simpa using hi
  exact ⟨xs,ys,s.seq h1,s.seq h2,by lia⟩
theorem Nb{zs:List (V×V)}(gM:∀R:It→Hp→Prop,(∀J H1,ag H H1→Cz J zs H1→R J H1)→wi σ H R)(hn:zs.length<sizeLine)
  (P:Nat→V→Prop)
  (step:∀i x y,zs[i]?=some (x,y)→∀(Hc:Hp) (R:VK),ag H Hc→(∀v H3,ag Hc H3→P i v→R v H3)→te (some x::some y::ρ σ) Hc R)
  (fin:∀D vs Hc,ag H Hc→vs.length=zs.length→(∀(i:Nat) (v:V),vs[i]?=some v→P i v)→Hc D=some (.lst vs)→Q (.ref D) Hc):vv K wi ρ (fun _ H Q=>Q true H) te σ H Q:=by
 refine gM _ fun J H1 s1 js=>?_;intro D nD;refine ⟨fun i m vs Hc=>m=zs.length-i∧i≤zs.length∧Hc D=some (.lst vs)∧ag H1 Hc∧vs.length=i∧∀(j:Nat) (v:V),vs[j]?=some v→P j v,⟨_,rfl,fh _,aM,ft (ag.refl H1) nD,rfl,fun j y e=>by simp at e⟩,?_⟩
 rintro i m vs Hc ⟨rfl,hi,eD,sH,el,hP⟩;refine ⟨eD,?_⟩;by_cases d3:i<zs.length
 ·refine .inr ⟨js.go i Hc sH d3,fun v H' hy=>?_⟩
  obtain ⟨T,x,y,ev,nT,eH,hx⟩:=js.f9 i Hc v H' sH hy;subst ev eH;refine ⟨T,x,y,rfl,.of aM,?_⟩;dsimp only;rw [ak rfl];have sT:ag Hc (upd Hc T (.tup [x,y])):=fun b o e=>by rw [bE (gw e nT)];exact e
  refine step i x y (hx d3) _ _ (s1.trans (sH.trans sT)) fun w H3 s3 hp=>?_;have e3:=s3 _ _ (sT _ _ eD);refine ⟨e3,by lia,zs.length-(i+1),by lia,rfl,d3,aM,ft (sH.trans (sT.trans s3)) nD,by simp [el],fun j v' e=>?_⟩
  by_cases hj:j<i;·exact hP j v' (by rw [iS (by lia)] at e;exact e)
  ·have hj:j=i:=by have:=(aG.mp e).1;simp at this;lia
   subst hj;have e':v'=w:=by rw [iQ (by lia),el,qC] at e;simpa using e.symm
   subst e';exact hp
 ·have e:i=zs.length:=by lia
  subst e;exact .inl ⟨js.stop _ Hc sH (aI _),fin D vs Hc (s1.trans sH) el hP eD⟩
theorem eB(gM:∀R:It→Hp→Prop,(∀J H1,ag H H1→lK J xs H1→R J H1)→wi σ H R)(hn:xs.length<sizeLine)
  (P:Addr→Nat→V→Hp→Prop) (mono:∀D i y H H' ys,P D i y H→H D=some (.lst ys)→(∀b o,b≠D→H b=some o→H' b=some o)→P D i y H')
  (step:∀D i x,xs[i]?=some x→∀(Hc:Hp) (R:VK),ag H Hc→(∃ys,Hc D=some (.lst ys))→(∀y H3,ag Hc H3→P D i y H3→R y H3)→te (some x::ρ σ) Hc R)
  (fin:∀D ys Hc,H D=none→ag H Hc→ys.length=xs.length→(∀(i:Nat) (y:V),ys[i]?=some y→P D i y Hc)→Hc D=some (.lst ys)→Q (.ref D) Hc):ji wi ρ (fun _ H Q=>Q true H) te σ H Q:=by
 refine gM _ fun J H1 s1 js=>?_;intro D nD;have hD:H D=none:=by
  cases e:H D with
  | none=>rfl
  | some o=>rw [s1 _ _ e] at nD;cases nD
 exact MX (ρσ:=ρ σ) (te:=te) (Q:=Q) js nD hn (P D) (mono D) (fun i x hx Hc R sc=>step D i x hx Hc R (s1.trans sc)) (fun ys Hc sc=>fin D ys Hc hD (s1.trans sc))
theorem Wm{tb:TS}(Pv:Nat→St→Hp→Prop)(h0:Pv 0 σ H)(hl:∀i σ H,Pv i σ H→cu K H l1 xs∧cu K H l2 ys)
  (hs:∀(i:Nat) (x y:V) σ H T,(xs.zip ys)[i]?=some (x,y)→Pv i σ H→H T=none→g (.ref T) σ (upd H T (.tup [x,y])) fun σ2 H2=>tb {D with nx:=Pv (i+1),ct:=Pv (i+1),bk:=D.nx} σ2 H2) (hd:∀σ H,Pv (xs.zip ys).length σ H→D.nx σ H) :
  ∃W:Nat→Nat→St→Hp→Prop,(∃m,W 0 m σ H)∧∀i m σ H,W i m σ H→
   ((vq K l1 l2).stop i H∧D.nx σ H)∨((vq K l1 l2).go i H∧∃N:St→Hp→Prop,(∀σ' H',N σ' H'→∃m',m'<m∧W (i+1) m' σ' H')∧∀x H',(vq K l1 l2).f9 i H x H'→g x σ H' fun σ2 H2=>tb {D with nx:=N,ct:=N,bk:=D.nx} σ2 H2):=by
 refine ⟨fun i m σ H=>m=(xs.zip ys).length-i∧i≤(xs.zip ys).length∧Pv i σ H,⟨(xs.zip ys).length,by simp,fh _,h0⟩,?_⟩
 rintro i m σ H ⟨rfl,hi,p⟩;obtain ⟨q1,q2⟩:=hl i σ H p;have js:=lV q1 q2;by_cases d3:i<(xs.zip ys).length
 ·refine .inr ⟨js.go i H (ag.refl H) d3,Pv (i+1),fun σ' H' p'=>⟨(xs.zip ys).length-(i+1),by lia,rfl,d3,p'⟩,fun v H' hy=>?_⟩
  obtain ⟨T,x,y,rfl,nT,rfl,hx⟩:=js.f9 i H v H' (ag.refl H) hy;exact hs i x y σ H T (hx d3) p nT
 ·have e:i=(xs.zip ys).length:=by lia
  subst e;exact .inl ⟨js.stop _ H (ag.refl H) (aI _),hd σ H p⟩
section
variable {X:Cx} {K:aL}
theorem qZ(hK:X.K=K:=by rfl):u_ X (Md K):=by subst hK;exact cz
theorem iy(hK:X.K=K:=by rfl):u_ X (F8 K):=by subst hK;exact dF
def Wn(K:aL):List V→Hp→VK→Prop:=fun xs H Q=>∃p ys,xs=[.ref p]∧(cu K H p ys∨jc K H p ys)∧Q (.int (ys.length:Int)) H
theorem CA(hK:X.K=K:=by rfl):iV X (.builtin "len") (Wn K):=by subst hK;exact dI
theorem GJ{tg l:Expr}{tl:TE}(hl:PE X l tl)(hK:X.K=K:=by rfl):PI X tg l (FU K tl):=by subst hK;exact dH hl
def Wo(K:aL):List V→Hp→VK→Prop:=fun xs H Q=>∃p ys,xs=[.ref p]∧(cu K H p ys∨jc K H p ys)∧∀l,H l=none→Q (.ref l) (upd H l (.lst ys))
theorem Wq(hK:X.K=K:=by rfl):iV X (.type "list") (Wo K):=by subst hK;exact Ga
end
end L2
namespace My
open PySem L2
variable {te:TE} {σ:St} {H:Hp} {Q:VK}
theorem q5{r:List V→Hp→VK→Prop}(h:te σ H fun x H1=>r [x] H1 Q):F5 r (zl te LW) σ H Q:=h
theorem fO{D:Ends}(h:te σ H D.rt):Lr te D σ H:=h
theorem GK{t:TA}(h:te σ H fun x H1=>t σ H1 fun xs H2=>(x::xs).length≤sizeLine∧∀p,H2 p=none→Q (.ref p) (upd H2 p (.tup (x::xs)))):LX (zl te t) σ H Q:=h
def ou(H:Hp)(v:V)(ts:List Int)(B:Int):Prop:=∃tp l:Addr,v=.ref tp∧H tp=some (.tup [.ref l,.int B])∧H l=some (.lst (ts.map V.int))
variable {H':Hp} {v:V} {ts:List Int}
theorem ou.mono{B:Int}(h:ou H v ts B)(s:ag H H'):ou H' v ts B:=by obtain ⟨tp,l,e,e1,e2⟩:=h;exact ⟨tp,l,e,s _ _ e1,s _ _ e2⟩
def jq(ts us:List Int):Int:=(List.zipWith (· * ·) ts us).sum
def Wr(C:Addr):Sp:=fun vs H Q _=>∃(z:Addr) (q:Int) (v u:V) (ts us:List Int) (b c:Int),vs=[.ref z,v,u]∧eJ C H z q∧az q∧ou H v ts b∧ou H u us c∧ts.length≤1000∧us.length≤1000∧(∀t∈ts,cO t)∧(∀t∈us,cO t)∧cO b∧cO c∧cO (b*c)∧¬q∣b*c ∧
 ∀(v':V) (H':Hp),ag H H'→cU H' q v' (jq ts us) (b*c)→Q v' H'
variable {i:Nat}
theorem Nc{us:List Int}{x y:V}(h:((ts.map V.int).zip (us.map V.int))[i]?=some (x,y)):∃t u:Int,x=.int t∧y=.int u∧ts[i]?=some t∧us[i]?=some u:=by rw [mh] at h;obtain ⟨h1,h2⟩:=h;rw [bj] at h1 h2;obtain ⟨t,e1,e2⟩:=Option.map_eq_some_iff.mp h1;obtain ⟨u,e3,e4⟩:=Option.map_eq_some_iff.mp h2;exact ⟨t,u,e2.symm,e4.symm,e1,e3⟩
theorem ox{vs:List V}{ws:List Int}(hl:vs.length=ws.length)(h:∀(i:Nat) (v:V),vs[i]?=some v→∃w,ws[i]?=some w∧v=.int w):vs=ws.map V.int:=by
 refine List.ext_getElem? fun i=>?_;rw [bj];by_cases hi:i<vs.length
 ·obtain ⟨w,e1,e2⟩:=h i vs[i] (by simp [hi])
  rw [e1,show vs[i]?=some vs[i] by simp [hi],e2]
  rfl
 ·rw [y3 (by lia),y3 (by lia)]
  rfl
def vy(H0 H:Hp)(v:V)(ts:List Int)(B:Int):Prop:=∃tp l:Addr,v=.ref tp∧H tp=some (.tup [.ref l,.int B])∧H l=some (.lst (ts.map V.int))∧H0 l=none
variable {m:Int}
theorem Ws{b:Int}(hb:1≤b)(hm:1≤m):1≤b / (Int.gcd b m:Int)*m∧m∣b / (Int.gcd b m:Int)*m∧b∣b / (Int.gcd b m:Int)*m∧(b / (Int.gcd b m:Int)*m).natAbs≤b.natAbs*m.natAbs:=by
 have gp:=oi (a:=b) (b:=m) (by lia)
 obtain ⟨b',eb⟩:=qz (a:=b) (b:=m);obtain ⟨m',em⟩:=nE (a:=b) (b:=m);generalize Int.gcd b m=g at *;have g0:(g:Int)≠0:=by lia
 have gb:b / (g:Int)=b':=by rw [eb];exact kX _ g0
 rw [gb];have b0:0<b':=qV (u:=(g:Int)) (by lia) (by rw [←eb];lia)
 have mp:0<b'*m:=fP b0 (by lia)
 refine ⟨by lia,BE ..,⟨m',?_⟩,?_⟩
 ·rw [em,eb]
  simp only [kn,fi,Int.mul_left_comm]
 ·rw [bT]
  refine gs _ ?_;rw [←gb];exact nF ..
variable {H0:Hp}
theorem vy.at{B:Int}(h:vy H0 H v ts B):ou H v ts B:=by obtain ⟨tp,l,e,e1,e2,_⟩:=h;exact ⟨tp,l,e,e1,e2⟩
def pP(D:Addr)(H:Hp)(v:V)(ts:List Int)(B:Int):Prop:=∃tp l:Addr,v=.ref tp∧H tp=some (.tup [.ref l,.int B])∧H l=some (.lst (ts.map V.int))∧l≠D
variable {zs:List V} {D:Addr}
theorem vy.bu{B:Int}(h:vy H0 H v ts B)(e:H0 D=some (.lst zs)):pP D H v ts B:=by obtain ⟨tp,l,e0,e1,e2,n⟩:=h;exact ⟨tp,l,e0,e1,e2,fun z=>by rw [z,e] at n;cases n⟩
theorem pP.keep{B:Int}(h:pP D H v ts B)(eD:H D=some (.lst zs))(k:∀b o,b≠D→H b=some o→H' b=some o):pP D H' v ts B:=by obtain ⟨tp,l,e0,e1,e2,n⟩:=h;exact ⟨tp,l,e0,k _ _ (fun z=>by rw [z,eD] at e1;cases e1) e1,k _ _ n e2,n⟩
theorem pP.at{B:Int}(h:pP D H v ts B):ou H v ts B:=by obtain ⟨tp,l,e,e1,e2,_⟩:=h;exact ⟨tp,l,e,e1,e2⟩
structure zK (H:Hp) (a:Addr) (ws:List (List Int×Int)):Prop where
 ex:∃vs:List V,H a=some (.lst vs)∧vs.length=ws.length∧∀(i:Nat) (v:V) (w:List Int×Int),vs[i]?=some v→ws[i]?=some w→ou H v w.1 w.2
variable {a:Addr}
theorem zK.mono{ws:List (List Int×Int)}(h:zK H a ws)(s:ag H H'):zK H' a ws:=by obtain ⟨vs,e,l,k⟩:=h.ex;exact ⟨⟨vs,s _ _ e,l,fun i v w h1 h2=>(k i v w h1 h2).mono s⟩⟩
variable {α:Type}
theorem pick{β:Type}{xs:List α}{R:Nat→α→β→Prop}(h:∀(i:Nat) (x:α),xs[i]?=some x→∃w,R i x w):∃ws:List β,ws.length=xs.length∧∀(i:Nat) (x:α) (w:β),xs[i]?=some x→ws[i]?=some w→R i x w:=by
 refine ⟨List.ofFn fun i:Fin xs.length=>Classical.choose (h i.1 xs[i.1] (by simp)),by simp,fun i x w hx hw=>?_⟩
 have hi:i<xs.length:=(aG.mp hx).1;have ex:xs[i]=x:=(aG.mp hx).2;rw [List.getElem?_ofFn,dif_pos hi] at hw;have hw:=Option.some.inj hw;rw [←hw];have z:=Fz (h i xs[i] (by simp [hi]))
 rw [←ex];exact z
variable {q:Int}
theorem iL{b c:Int}(hq:az q)(h1:¬q∣b)(h2:¬q∣c):¬q∣b*c:=fun h=>by
 rcases hq with rfl | ⟨q2,q3,q4⟩
 ·have z:=kY.mp h
  rcases BF.mp z with z | z;·exact h1 (by rw [z];exact jG 0)
  ·exact h2 (by rw [z];exact jG 0)
 ·have k1:=eE c (show q≠0 by lia)
  have k2:=eW c (show 0<q by lia)
  have k3:c % q≠0:=fun z=>h2 (BB z);have g:=Gz q2 q3 q4 (show 1≤c % q by lia) k2
  obtain ⟨w,ew⟩:=vp c q;exact h1 (Cs q2 (MR g ⟨-w,by rw [i7];lia⟩) h)
variable {t:Int}
theorem cU.bu{b:Int}{ys:List V}(h:cU H q v t b)(eD:H D=some (.lst ys))(k:∀b o,b≠D→H b=some o→H' b=some o):cU H' q v t b:=by
 cases h with
 | bV e l hb h=>refine .bV (k _ _ (fun z=>?_) e) l hb h;rw [z,eD] at e;cases e
 | rem q2 h0 h1 g h=>exact .rem q2 h0 h1 g h
def zL(H:Hp)(q:Int)(a:Addr)(tb:a_):Prop:=∃vs:List V,H a=some (.lst vs)∧vs.length=tb.length∧∀(i:Nat) (v:V) (p:Int×Int),vs[i]?=some v→tb[i]?=some p→cU H q v p.1 p.2
def aW:List (Int×Int)→List (Int×Int)→Int×Int→Int×Int
 | p::ps,r::rs,acc=>aW ps rs (acc.1*p.2*r.2+p.1*r.1*acc.2,acc.2*p.2*r.2)
 | _,_,acc=>acc
theorem GL{B C:Int}:∀{ps rs:a_} {ts us:List Int} {S:Int} {acc:Int×Int},ts.length=ps.length→us.length=rs.length→
  (∀(i:Nat) (p:Int×Int) (t:Int),ps[i]?=some p→ts[i]?=some t→t*p.2=p.1*B)→(∀(i:Nat) (p:Int×Int) (t:Int),rs[i]?=some p→us[i]?=some t→t*p.2=p.1*C)→
  S*acc.2=acc.1*(B*C)→(S+jq ts us)*(aW ps rs acc).2=(aW ps rs acc).1*(B*C)
 | p::ps,r::rs,t::ts,u::us,S,acc,hl,zF,h1,h2,e=>by
  have a:=h1 0 p t rfl rfl;have b:=h2 0 r u rfl rfl
  have z:=GL (ps:=ps) (rs:=rs) (ts:=ts) (us:=us) (S:=S+t*u) (acc:=(acc.1*p.2*r.2+p.1*r.1*acc.2,acc.2*p.2*r.2)) (by simpa using hl) (by simpa using zF)
   (fun i q v x y=>h1 (i+1) q v (by simpa using x) (by simpa using y)) (fun i q v x y=>h2 (i+1) q v (by simpa using x) (by simpa using y)) (by dsimp only;obtain ⟨a1,a2⟩:=acc;dsimp only at e ⊢;grind)
  have d:jq (t::ts) (u::us)=t*u+jq ts us:=by unfold jq;simp
  rw [d,←Int.add_assoc];exact z
 | [],rs,ts,us,S,acc,hl,zF,h1,h2,e=>by
  have:ts=[]:=i8.mp (by simpa using hl)
  subst this;have d:jq [] us=0:=by unfold jq;simp
  have f:aW [] rs acc=acc:=by unfold aW;rfl
  rw [d,y4,f];exact e
 | p::ps,[],ts,us,S,acc,hl,zF,h1,h2,e=>by
  have:us=[]:=i8.mp (by simpa using zF)
  subst this;have d:jq ts []=0:=by unfold jq;simp
  have f:aW (p::ps) [] acc=acc:=by unfold aW;rfl
  rw [d,y4,f];exact e
def aH(q:Int)(b:Int):Prop:=(q=0→1≤b)∧(q≠0→b=1)
theorem zM{q:Int}:∀{ps rs:a_} {acc:Int×Int},(∀p∈ps,aH q p.2)→(∀p∈rs,aH q p.2)→aH q acc.2→aH q (aW ps rs acc).2
 | p::ps,r::rs,acc,h1,h2,h3=>by
  unfold aW;refine zM (fun x hx=>h1 x (ia _ hx)) (fun x hx=>h2 x (ia _ hx)) ?_;have a:=h1 p i6;have b:=h2 r i6;refine ⟨fun z=>?_,fun z=>?_⟩
  ·have x1:=a.1 z
   have x2:=b.1 z;have x3:=h3.1 z;have:=fP (fP (show 0<acc.2 by lia) (show 0<p.2 by lia)) (show 0<r.2 by lia)
   dsimp only;lia
  ·dsimp only
   rw [h3.2 z,a.2 z,b.2 z];rfl
 | [],rs,acc,h1,h2,h3=>by rw [show aW [] rs acc=acc by unfold aW;rfl];exact h3
 | p::ps,[],acc,h1,h2,h3=>by rw [show aW (p::ps) [] acc=acc by unfold aW;rfl];exact h3
variable {t' b':Int}
theorem cU.to{b:Int}(h:cU H q v t b)(hq:az q)(e:t*b'=t'*b)(ok:aH q b'):cU H q v t' b':=by
 cases h with
 | bV e1 l hb h=>
  rename_i p x m
  have b0:=ok.1 rfl;refine .bV e1 l (by lia) (vm (c:=b) hb ?_)
  grind
 | rem q2 h0 h1 g h=>
  rename_i r
  have b0:=ok.2 (by lia)
  subst b0;refine .rem q2 h0 h1 (by rw [nG]) (Cs q2 g ?_)
  obtain ⟨k,ek⟩:=h;exact ⟨k,by grind⟩
variable {B:Nat} {x:Int}
theorem cD.bot(h:cD B H q v x m)(hq:az q):aH q m:=by
 cases h with
 | bV e l bx bm=>exact ⟨fun _=>l.pos,fun z=>absurd rfl z⟩
 | rem h0 h1 h2=>exact ⟨fun _=>by lia,fun _=>rfl⟩
def CB(D:Addr)(H:Hp)(q:Int)(a:Addr)(tb:a_):Prop:=a≠D∧zL H q a tb
theorem CB.keep{tb:a_}(h:CB D H q a tb)(eD:H D=some (.lst zs))(k:∀b o,b≠D→H b=some o→H' b=some o):CB D H' q a tb:=by obtain ⟨n,vs,e,l,f⟩:=h;exact ⟨n,vs,k _ _ n e,l,fun i v p h1 h2=>(f i v p h1 h2).bu eD k⟩
theorem Wt{c:TT}{t u:TS}{D:Ends}(h:c σ H fun b H1=>if b=true then t D σ H1 else u D σ H1):u6 c t u D σ H:=h
theorem Wu{Q:Bool→Hp→Prop}(h:te σ H fun x H1=>∃c,x=.bl c∧Q c H1):tB te σ H Q:=h
theorem zN{vs:List V}{b:Bool}(h:∀(i:Nat) (v:V),vs[i]?=some v→v=.bl b):vs=(List.replicate vs.length b).map V.bl:=by
 refine List.ext_getElem? fun i=>?_;rw [bj];by_cases hi:i<vs.length
 ·rw [show vs[i]?=some vs[i] by simp [hi],h i vs[i] (by simp [hi])]
  simp [hi]
 ·rw [y3 (by lia),y3 (by simp;lia)]
  rfl
theorem Wv(n:Nat):(List.replicate n false).any id=false:=by simp
theorem CD(n:Nat):(List.replicate n true).all id=true:=by simp
theorem Nd:∀(ps rs:a_) (i:Nat) (acc:Int×Int) (p r:Int×Int),ps[i]?=some p→rs[i]?=some r→
  aW (ps.take (i+1)) (rs.take (i+1)) acc=((aW (ps.take i) (rs.take i) acc).1*p.2*r.2+p.1*r.1*(aW (ps.take i) (rs.take i) acc).2,(aW (ps.take i) (rs.take i) acc).2*p.2*r.2)
 | x::ps,y::rs,0,acc,p,r,h1,h2=>by cases h1;cases h2;simp [aW]
 | x::ps,y::rs,i+1,acc,p,r,h1,h2=>by
  have z:=Nd ps rs i (acc.1*x.2*y.2+x.1*y.1*acc.2,acc.2*x.2*y.2) p r (by simpa using h1) (by simpa using h2)
  simp only [List.take_succ_cons,aW];exact z
 | [],rs,i,acc,p,r,h1,h2=>by simp at h1
 | x::ps,[],i,acc,p,r,h1,h2=>by simp at h2
theorem Ww(ps rs:a_)(acc:Int×Int)(n:Nat)(h:min ps.length rs.length≤n):aW (ps.take n) (rs.take n) acc=aW ps rs acc:=by
 induction ps generalizing rs acc n with
 | nil=>simp [aW]
 | cons p ps ih=>
  cases rs with
  | nil=>simp [aW]
  | cons r rs=>
   cases n with
   | zero=>simp at h
   | succ n=>simp only [List.take_succ_cons,aW];exact ih rs _ n (by simp at h;lia)
theorem Nf{r:R2}{ta tb:TE}(h:ta σ H fun x H1=>tb σ H1 fun y H2=>r x y H2 Q):kC r ta tb σ H Q:=h
theorem GN:∀(ps rs:a_) (acc:Int×Int),aW ps rs acc=aW rs ps acc
 | p::ps,r::rs,acc=>by unfold aW;rw [GN ps rs,show acc.1*p.2*r.2+p.1*r.1*acc.2=acc.1*r.2*p.2+r.1*p.1*acc.2 by grind,show acc.2*p.2*r.2=acc.2*r.2*p.2 by grind]
 | [],[],acc=>rfl
 | [],r::rs,acc=>by simp [aW]
 | p::ps,[],acc=>by simp [aW]
variable {n:Nat}
theorem oy(h:((List.range n).map fun i:Nat=>V.int (0+(i:Int)))[i]?=some v):i<n∧v=.int (i:Int):=by
 have aR:i<n:=by have:=(aG.mp h).1;simpa using this
 refine ⟨aR,?_⟩;rw [bj] at h;simp [aR] at h;exact h.symm
theorem none_of{b:Addr}(s:ag H H')(h:H' b=none):H b=none:=by
 cases e:H b with
 | none=>rfl
 | some o=>rw [s _ _ e] at h;cases h
variable {K:aL}
theorem Ng{u:V}{b:Int}(hv:cU H q v t b)(hu:cU H q u t' b')(e:t*b'=t'*b)(n:Nat):vx K H (n+1) v u:=by
 rcases Wa hv hu e with ⟨p,p',x,m,rfl,rfl,e1,e2⟩ | ⟨i,rfl,rfl⟩
 ·refine .inr ⟨p,p',_,_,rfl,rfl,.inr ⟨.of e1,.of e2⟩,rfl,fun j x y h1 h2=>?_⟩
  rw [h1] at h2;cases h2;have hf:vc x=true:=by
   match j,h1 with
   | 0,h1=>cases h1;rfl
   | 1,h1=>cases h1;rfl
   | j+2,h1=>cases h1
  cases n with
  | zero=>exact ⟨rfl,hf⟩
  | succ n=>exact .inl ⟨rfl,hf⟩
 ·exact .inl ⟨rfl,rfl⟩
def fR(H:Hp)(q:Int)(r:Addr)(M:Nat)(g:Nat→Int×Int):Prop:=∃ws:List V,H r=some (.lst ws)∧ws.length=M∧∀(j:Nat) (w:V),ws[j]?=some w→cU H q w (g j).1 (g j).2
variable {r:Addr} {M:Nat} {g:Nat→Int×Int}
theorem fR.mono(h:fR H q r M g)(s:ag H H'):fR H' q r M g:=by obtain ⟨ws,e,l,k⟩:=h;exact ⟨ws,s _ _ e,l,fun j w hw=>(k j w hw).mono s⟩
theorem fR.bu(h:fR H q r M g)(n:r≠D)(eD:H D=some (.lst zs))(k:∀b o,b≠D→H b=some o→H' b=some o):fR H' q r M g:=by obtain ⟨ws,e,l,f⟩:=h;exact ⟨ws,k _ _ n e,l,fun j w hw=>(f j w hw).bu eD k⟩
def lX(H0 H:Hp)(q:Int)(a:Addr)(N M:Nat)(f:Nat→Nat→Int×Int):Prop:=∃vs:List V,H a=some (.lst vs)∧vs.length=N∧∀(i:Nat) (v:V),vs[i]?=some v→∃r:Addr,v=.ref r∧r≠a∧H0 r=none∧fR H q r M (f i)
variable {N:Nat}
theorem lX.mono{f:Nat→Nat→Int×Int}(h:lX H0 H q a N M f)(s:ag H H'):lX H0 H' q a N M f:=by obtain ⟨vs,e,l,k⟩:=h;exact ⟨vs,s _ _ e,l,fun i v hv=>by obtain ⟨r,e1,e2,e3,e4⟩:=k i v hv;exact ⟨r,e1,e2,e3,e4.mono s⟩⟩
theorem Nh{b:Addr}{f:Nat→Int×Int}(h1:fR H q a M f)(h2:fR H q b M f)(n:Nat):vx K H (n+2) (.ref a) (.ref b):=by obtain ⟨vs,e1,l1,f1⟩:=h1;obtain ⟨us,e2,l2,f2⟩:=h2;exact .inr ⟨a,b,vs,us,rfl,rfl,.inl ⟨.of e1,.of e2⟩,by lia,fun j x y hx hy=>Ng (f1 j x hx) (f2 j y hy) rfl n⟩
def pQ(x y:Int×Int):Int×Int:=(x.1*y.1,x.2*y.2)
def o1:Int×Int:=(0,1)
def cellOf(aa af:aD)(k u i j:Nat):Int×Int:=pQ ((aa.getD (i / k) []).getD (j / u) o1) ((af.getD (i % k) []).getD (j % u) o1)
theorem getD_at{α:Type}{xs:List α}{d:α}(hi:i<xs.length):xs.getD i d=xs[i]:=by
 rw [dg,show xs[i]?=some xs[i] by simp [hi]]
 rfl
variable {k:Nat}
theorem fS(h:i<n*k):i / k<n:=Nat.div_lt_of_lt_mul (by rw [jD];exact h)
theorem fz(h:i<n*k):i % k<k:=Nat.mod_lt _ (by
 rcases Nat.eq_zero_or_pos k with z | z;·rw [z,Nat.mul_zero] at h;lia
 ·exact z)
variable {c j:Nat}
theorem lY(h:j<k):(c*k+j) / k=c:=by rw [jD,Nat.mul_add_div (by lia),Nat.div_eq_of_lt h,Nat.add_zero]
theorem mS(h:j<k):(c*k+j) % k=j:=by rw [jD,Nat.mul_add_mod,Nat.mod_eq_of_lt h]
theorem GO{D:Ends}(h:te σ H fun _ H1=>D.nx σ H1):Lq te D σ H:=h
def GP(H:Hp)(q:Int)(a:Addr)(ps:a_):Prop:=∃vs:List V,H a=some (.lst vs)∧vs.length=ps.length∧∀(i:Nat) (v:V) (p:Int×Int),vs[i]?=some v→ps[i]?=some p→cD (10 ^ 60) H q v p.1 p.2
def CF(H:Hp)(q:Int)(a:Addr)(aa:aD):Prop:=∃vs:List V,H a=some (.lst vs)∧vs.length=aa.length∧∀(i:Nat) (v:V) (ps:a_),vs[i]?=some v→aa[i]?=some ps→∃r:Addr,v=.ref r∧GP H q r ps
def aX(q:Int)(p t:Int×Int):Prop:=q∣p.1*t.2-t.1*p.2
theorem aX.refl(p:Int×Int):aX q p p:=⟨0,by rw [Int.sub_self,cG]⟩
variable {p:Int×Int}
theorem aX.symm{t:Int×Int}(h:aX q p t):aX q t p:=by obtain ⟨k,e⟩:=h;exact ⟨-k,by rw [i7];lia⟩
theorem aX.cancel{b:Int}(ok:aH q b)(h:q∣b*x):q∣x:=by
 by_cases z:q=0
 ·subst z
  have h0:=kY.mp h;have b1:=ok.1 rfl;rcases BF.mp h0 with e | e;·lia
  ·rw [e];exact jG 0
 ·rw [ok.2 z,uV] at h
  exact h
theorem aX.trans{t s:Int×Int}(h1:aX q p t)(h2:aX q t s)(ok:aH q t.2):aX q p s:=by obtain ⟨k1,e1⟩:=h1;obtain ⟨k2,e2⟩:=h2;refine aX.cancel ok ⟨k1*s.2+k2*p.2,?_⟩;grind
def ai:Nat→(Nat→Int)→Int
 | 0,_=>0
 | n+1,f=>f 0+ai n fun i=>f (i+1)
theorem cQ:∀{n:Nat} {f g:Nat→Int},(∀i,i<n→f i=g i)→ai n f=ai n g
 | 0,f,g,_=>rfl
 | n+1,f,g,h=>by unfold ai;rw [h 0 (by lia),cQ fun i hi=>h (i+1) (by lia)]
theorem oz:∀(n:Nat) (f g:Nat→Int),ai n (fun i=>f i+g i)=ai n f+ai n g
 | 0,f,g=>rfl
 | n+1,f,g=>by show f 0+g 0+ai n (fun i=>f (i+1)+g (i+1))=(f 0+ai n fun i=>f (i+1))+(g 0+ai n fun i=>g (i+1));rw [oz n];lia
theorem cm(c:Int):∀(n:Nat) (f:Nat→Int),c*ai n f=ai n fun i=>c*f i
 | 0,f=>by unfold ai;rw [cG]
 | n+1,f=>by unfold ai;rw [Int.mul_add,cm c n]
theorem gg:∀(n:Nat),ai n (fun _=>0)=0
 | 0=>rfl
 | n+1=>by unfold ai;rw [gg n];rfl
theorem zO:∀(n m:Nat) (F:ax),ai n (fun i=>ai m fun j=>F i j)=ai m fun j=>ai n fun i=>F i j
 | 0,m,F=>by show (0:Int)=_;rw [show (fun j=>ai 0 fun i=>F i j)=fun _=>(0:Int) from rfl,gg]
 | n+1,m,F=>by show (ai m fun j=>F 0 j)+ai n (fun i=>ai m fun j=>F (i+1) j)=ai m fun j=>F 0 j+ai n fun i=>F (i+1) j;rw [zO n m,←oz]
theorem jW:∀(n j:Nat) (f:Nat→Int),j<n→ai n (fun i=>if i=j then f i else 0)=f j
 | n+1,0,f,_=>by
  show (if (0:Nat)=0 then f 0 else 0)+ai n (fun i=>if i+1=0 then f (i+1) else 0)=f 0
  rw [ak rfl,show (fun i=>if i+1=0 then f (i+1) else 0)=fun _=>(0:Int) from funext fun i=>aj (by lia),gg]
  lia
 | n+1,j+1,f,h=>by
  show (if (0:Nat)=j+1 then f 0 else 0)+ai n (fun i=>if i+1=j+1 then f (i+1) else 0)=f (j+1)
  rw [aj (by lia),show (fun i=>if i+1=j+1 then f (i+1) else 0)=fun i=>if i=j then (fun i=>f (i+1)) i else 0 from funext fun i=>by by_cases z:i=j <;> simp [z],jW n j (fun i=>f (i+1)) (by lia)]
  lia
theorem GQ{q D1 D2:Int}:∀(n:Nat) (ps rs:a_) (f g:Nat→Int) (acc:Int×Int) (S:Int),ps.length=n→rs.length=n→(∀i,i<n→aX q (ps.getD i o1) (f i,D1))→(∀i,i<n→aX q (rs.getD i o1) (g i,D2))→
  aX q acc (S,D1*D2)→aX q (aW ps rs acc) (S+ai n (fun i=>f i*g i),D1*D2)
 | 0,ps,rs,f,g,acc,S,h1,h2,_,_,h=>by
  have:ps=[]:=i8.mp h1;subst this;rw [show aW [] rs acc=acc by unfold aW;rfl]
  show aX q acc (S+0,_);rw [y4];exact h
 | n+1,p::ps,r::rs,f,g,acc,S,h1,h2,hp,hr,h=>by
  have a:=hp 0 (by lia)
  have b:=hr 0 (by lia)
  have z:=GQ (D1:=D1) (D2:=D2) n ps rs (fun i=>f (i+1)) (fun i=>g (i+1)) (acc.1*p.2*r.2+p.1*r.1*acc.2,acc.2*p.2*r.2) (S+f 0*g 0) (by simpa using h1) (by simpa using h2)
   (fun i hi=>by simpa using hp (i+1) (by lia)) (fun i hi=>by simpa using hr (i+1) (by lia)) (by obtain ⟨k1,e1⟩:=a;obtain ⟨k2,e2⟩:=b;obtain ⟨k3,e3⟩:=h;simp only [List.getD_cons_zero] at e1 e2;refine ⟨p.2*r.2*k3+acc.2*(p.1*D1*k2+g 0*r.2*k1),?_⟩;dsimp only at e1 e2 e3 ⊢;grind)
  unfold aW;show aX q _ (S+(f 0*g 0+ai n fun i=>f (i+1)*g (i+1)),_);rw [←Int.add_assoc];exact z
variable {ps:a_}
theorem Ni{D1 D2:Int}{rs:a_}{f g:Nat→Int}(h1:ps.length=n)(h2:rs.length=n)(hp:∀i,i<n→aX q (ps.getD i o1) (f i,D1))(hr:∀i,i<n→aX q (rs.getD i o1) (g i,D2)) :
  aX q (aW ps rs (0,1)) (ai n (fun i=>f i*g i),D1*D2):=by
 have z:=GQ (D1:=D1) (D2:=D2) n ps rs f g (0,1) 0 h1 h2 hp hr ⟨0,by simp⟩
 rw [mj] at z;exact z
theorem Nj{q:Int}:∀(xs:a_),(∀p∈xs,aH q p.2)→(q=0∨q≠0)→∃D:Int,aH q D∧∀p∈xs,p.2∣D
 | [],_,_=>⟨1,⟨fun _=>by decide,fun _=>rfl⟩,fun p hp=>by simp at hp⟩
 | x::xs,h,hq=>by
  obtain ⟨D,h1,h2⟩:=Nj xs (fun p hp=>h p (ia _ hp)) hq;have hx:=h x i6;refine ⟨x.2*D,⟨fun z=>?_,fun z=>?_⟩,fun p hp=>?_⟩
  ·have:=fP (show 0<x.2 by have:=hx.1 z;lia) (show 0<D by have:=h1.1 z;lia)
   lia
  ·rw [hx.2 z,h1.2 z];rfl
  ·rcases fg.mp hp with e | e
   ·rw [e];exact Int.dvd_mul_right ..
   ·exact o6 (h2 p e) (BE ..)
def GR(D:Int)(p:Int×Int):Int:=p.1*(D / p.2)
theorem Wx{D:Int}(h:p.2∣D)(ok:aH q p.2):aX q p (GR D p,D):=by
 obtain ⟨c,e⟩:=h;refine ⟨0,?_⟩;rw [cG];unfold GR;dsimp only;by_cases z:p.2=0
 ·rw [z,iT] at e
  rw [e,z];simp
 ·rw [e,kX _ z]
  grind
theorem cU.CG{b:Int}(h:cU H q v t b)(e:aX q (t,b) (t',b'))(ok:aH q b'):cU H q v t' b':=by
 cases h with
 | bV e1 l hb h=>
  rename_i p x m
  have b0:=ok.1 rfl;have e:=kY.mp e;refine .bV e1 l (by lia) (vm (c:=b) hb ?_)
  dsimp only at e;grind
 | rem q2 h0 h1 g h=>
  rename_i r
  have b0:=ok.2 (by lia)
  subst b0;refine .rem q2 h0 h1 (by rw [nG]) (Cs q2 g ?_)
  obtain ⟨k,ek⟩:=h;obtain ⟨k2,GS⟩:=e;dsimp only at GS;exact ⟨k+k2,by grind⟩
theorem Wy{b:Int}(h:cU H q v t b)(hq:az q)(bt:t.natAbs≤B)(bb:b.natAbs≤B):∃xm:Int×Int,cD B H q v xm.1 xm.2∧aX q xm (t,b):=by
 cases h with
 | bV e l hb h=>
  rename_i p x m
  obtain ⟨c1,c2⟩:=zB l hb h;exact ⟨(x,m),.bV e l (av c1 bt) (av c2 bb),⟨0,by dsimp only;rw [h];lia⟩⟩
 | rem q2 h0 h1 g h=>
  rename_i r
  obtain ⟨k,ek⟩:=h;have q3:q≤997:=by rcases hq with z | ⟨_,z,_⟩ <;> lia
  exact ⟨(r,1),.rem h0 h1 q3,⟨k,by dsimp only;rw [iC];exact ek⟩⟩
def gZ(n i:Nat):List (Int×Int):=(List.range n).map fun j=>if j=i then ((1:Int),(1:Int)) else ((0:Int),(1:Int))
theorem Nk(hB:1≤B){a:Int}(h:qW H q v a 1)(hq:az q)(ha:a=0∨a=1):cD B H q v a 1:=by
 rcases h with ⟨rfl,r,rfl,e⟩ | ⟨q2,r,rfl,r0,r1,er⟩
 ·rw [(MQ a).1,(MQ a).2] at e
  exact .bV e ⟨by decide,nG ..⟩ (by rcases ha with rfl | rfl <;> simp [hB]) (by simpa using hB)
 ·have q3:q≤997:=by rcases hq with z | ⟨_,z,_⟩ <;> lia
  rw [qB (show (0:Int)≤1 by decide) (show (1:Int)<q by lia),iC,qB r0 r1] at er
  have ea:a % q=a:=qB (by lia) (by lia)
  rw [ea] at er;subst er;exact .rem r0 r1 q3
theorem Wz(hq:az q):¬mQ q 1:=fun h=>by
 unfold mQ at h;rcases hq with rfl | ⟨q2,q3,q4⟩;·rw [ak rfl] at h;lia
 ·rw [aj (by lia),qB (by lia) (by lia)] at h;lia
theorem aH.mul{a b:Int}(h1:aH q a)(h2:aH q b):aH q (a*b):=⟨fun z=>by
  have:=fP (show 0<a by have:=h1.1 z;lia) (show 0<b by have:=h2.1 z;lia)
  lia,fun z=>by rw [h1.2 z,h2.2 z];rfl⟩
theorem aH.one:aH q 1:=⟨fun _=>by decide,fun _=>rfl⟩
theorem WA{aa:aD}(hb:∀ps∈aa,∀p∈ps,aH q p.2)(hN:aa.length=N)(hM:∀ps∈aa,ps.length=M):∃(D:Int) (A:ax),aH q D∧∀i j,i<N→j<M→aX q ((aa.getD i []).getD j o1) (A i j,D):=by
 obtain ⟨D,h1,h2⟩:=Nj aa.flatten (fun p hp=>by obtain ⟨ps,a,b⟩:=List.mem_flatten.mp hp;exact hb ps a p b) (Classical.em _)
 refine ⟨D,fun i j=>GR D ((aa.getD i []).getD j o1),h1,fun i j hi hj=>?_⟩;have aR:i<aa.length:=by lia
 dsimp only;rw [getD_at aR];have cK:j<aa[i].length:=by rw [hM _ (aE aR)];exact hj
 rw [getD_at cK];exact Wx (h2 _ (List.mem_flatten.mpr ⟨_,aE aR,aE cK⟩)) (hb _ (aE aR) _ (aE cK))
theorem cD.both(h:cD B H q v x m)(b1:1000≤B):x.natAbs≤B∧m.natAbs≤B:=by
 cases h with
 | bV e l bx bm=>exact ⟨bx,bm⟩
 | rem h0 h1 h2=>exact ⟨by lia,by show Int.natAbs 1≤B;lia⟩
theorem CH(hj:j<n):(gZ n i).getD j o1=((if j=i then 1 else 0:Int),(1:Int)):=by
 unfold gZ;rw [getD_at (by simpa using hj),i9,List.getElem_range]
 by_cases z:j=i <;> simp [z]
theorem vz:(gZ n i).length=n:=by simp [gZ]
theorem CI(k m:Nat)(A:Nat→Int)(B:ax)(R:Nat→Int):(ai k fun j=>(ai m fun l=>A l*B l j)*R j)=ai m fun l=>A l*ai k fun j=>B l j*R j:=by
 have e1:(fun j=>(ai m fun l=>A l*B l j)*R j)=fun j=>ai m fun l=>A l*(B l j*R j):=funext fun j=>by rw [fi,cm];exact cQ fun l _=>by rw [fi,kn]
 rw [e1,zO];exact cQ fun l _=>(cm ..).symm
def bC(B:Nat)(H:Hp)(q:Int)(a:Addr)(ps:a_):Prop:=∃vs:List V,H a=some (.lst vs)∧vs.length=ps.length∧∀(i:Nat) (v:V) (p:Int×Int),vs[i]?=some v→ps[i]?=some p→cD B H q v p.1 p.2
theorem bC.mono(h:bC B H q a ps)(s:ag H H'):bC B H' q a ps:=by obtain ⟨vs,e,l,k⟩:=h;exact ⟨vs,s _ _ e,l,fun i v p h1 h2=>(k i v p h1 h2).mono s⟩
variable {B':Nat}
theorem cD.weak(h:cD B H q v x m)(hb:B≤B'):cD B' H q v x m:=by
 cases h with
 | bV e l bx bm=>exact .bV e l (av bx hb) (av bm hb)
 | rem h0 h1 h2=>exact .rem h0 h1 h2
theorem bC.weak(h:bC B H q a ps)(hb:B≤B'):bC B' H q a ps:=by obtain ⟨vs,e,l,k⟩:=h;exact ⟨vs,e,l,fun i v p h1 h2=>(k i v p h1 h2).weak hb⟩
theorem WB(hq:az q){b:Addr}(h1:bC B H q a ps)(h2:bC B' H q b ps)(n:Nat):vx K H (n+2) (.ref a) (.ref b):=by
 obtain ⟨vs,e1,l1,f1⟩:=h1;obtain ⟨us,e2,l2,f2⟩:=h2;refine .inr ⟨a,b,vs,us,rfl,rfl,.inl ⟨.of e1,.of e2⟩,by lia,fun j x y hx hy=>?_⟩
 have hj:j<ps.length:=by rw [←l1];exact (aG.mp hx).1
 exact Ng ((f1 j x ps[j] hx (by simp [hj])).vk hq) ((f2 j y ps[j] hy (by simp [hj])).vk hq) rfl n
end My
namespace L2
open PySem PySem.Spec PyProof.Rows
def WC(K:aL):R2:=fun x y H Q=>∃a b xs,x=.ref a∧y=.ref b∧cu K H a xs∧H b=some (.lst [])∧(∀v∈xs,∃i,v=.int i)∧Q (.bl (!xs.isEmpty)) H
theorem WD{X:Cx}(hu:X.A.units+64<cLine):dE X (compareOp .NotEq) (WC X.K):=by
 intro pins s σ H x y v u Q I rx ry h;obtain ⟨a,b,xs,rfl,rfl,h1,h2,_,q⟩:=h;cases rx;cases ry;obtain ⟨us,r1,t1,_⟩:=I.list h1;obtain ⟨vs,r2,t2,_⟩:=I.list (cu.of h2);have l1:=r1.length;have l2:=r2.length;cases xs with
 | nil=>
  refine SeqAt.RcNeAt.lists (e:=fun _=>true) t1.isList t2.isList (by simp at l1 l2 ⊢;lia) (by lia) (fun j z1 z2=>?_) _ _ _ _ ?_
  ·simp at l1
   have:us=[]:=i8.mp l1.symm;subst this;simp at z1
  ·rw [all_range]
   exact ⟨.bl false,H,I,rfl,q⟩
 | cons w ws=>
  refine SeqAt.RcNeAt.lists_lengths t1.isList t2.isList ?_ (by lia) _ _ _ _ ⟨.bl true,H,I,rfl,q⟩
  simp at l1 l2 ⊢;lia
end L2
namespace My
open PySem L2
def mulQ(q:Int)(p r:Int×Int):Int×Int:=if q=0 then (jU (p.1*r.1) (p.2*r.2),jo (p.1*r.1) (p.2*r.2)) else (p.1*r.1 % q,1)
theorem bC.cat{B:Nat}{H:Hp}{q:Int}{r:Addr}{vs us:List V}{ps rs:a_}(e:H r=some (.lst (vs++us)))(l1:vs.length=ps.length)(l2:us.length=rs.length)(f1:∀(i:Nat) (v:V) (p:Int×Int),vs[i]?=some v→ps[i]?=some p→cD B H q v p.1 p.2)(f2:∀(i:Nat) (v:V) (p:Int×Int),us[i]?=some v→rs[i]?=some p→cD B H q v p.1 p.2):bC B H q r (ps++rs):=by
 refine ⟨vs++us,e,by simp [l1,l2],fun i v p h1 h2=>?_⟩
 by_cases hi:i<vs.length
 ·rw [iS hi] at h1
  rw [iS (by lia)] at h2
  exact f1 i v p h1 h2
 ·rw [iQ (by lia)] at h1
  rw [iQ (by lia),←l1] at h2
  exact f2 _ v p h1 h2
end My
namespace L2
open PySem PySem.Spec PyProof.Rows
theorem vA{K:aL}{wi:TI}{ρ:St→St}{te:TE}{σ:St}{H:Hp}{Q:VK}{Z:List (V×V)→Hp→Prop}(gM:∀R:It→Hp→Prop,(∀J H1 zs,ag H H1→Cz J zs H1→zs.length<sizeLine→Z zs H1→R J H1)→wi σ H R)
  (P:Addr→Nat→V→Hp→Prop) (mono:∀D i y H H' ys,P D i y H→H D=some (.lst ys)→(∀b o,b≠D→H b=some o→H' b=some o)→P D i y H')
  (step:∀zs H1,Z zs H1→ag H H1→∀D i x y,zs[i]?=some (x,y)→∀(Hc:Hp) (R:VK),ag H1 Hc→(∃ys,Hc D=some (.lst ys))→(∀v H3,ag Hc H3→P D i v H3→R v H3)→te (some x::some y::ρ σ) Hc R)
  (fin:∀zs H1,Z zs H1→ag H H1→∀D vs Hc,H D=none→ag H1 Hc→vs.length=zs.length→(∀(i:Nat) (v:V),vs[i]?=some v→P D i v Hc)→Hc D=some (.lst vs)→Q (.ref D) Hc):vv K wi ρ (fun _ H Q=>Q true H) te σ H Q:=by
 refine gM _ fun J H1 zs s1 js hn hZ=>?_;intro D nD;have hD:H D=none:=by
  cases e:H D with
  | none=>rfl
  | some o=>rw [s1 _ _ e] at nD;cases nD
 refine ⟨fun i m vs Hc=>m=zs.length-i∧i≤zs.length∧Hc D=some (.lst vs)∧ag H1 Hc∧vs.length=i∧∀(j:Nat) (v:V),vs[j]?=some v→P D j v Hc,⟨_,rfl,fh _,aM,ft (ag.refl H1) nD,rfl,fun j y e=>by simp at e⟩,?_⟩
 rintro i m vs Hc ⟨rfl,hi,eD,sH,el,hP⟩;refine ⟨eD,?_⟩;by_cases d3:i<zs.length
 ·refine .inr ⟨js.go i Hc sH d3,fun v H' hy=>?_⟩
  obtain ⟨T,x,y,ev,nT,eH,hx⟩:=js.f9 i Hc v H' sH hy;subst ev eH;refine ⟨T,x,y,rfl,.of aM,?_⟩;dsimp only;rw [ak rfl];have sT:ag Hc (upd Hc T (.tup [x,y])):=fun b o e=>by rw [bE (gw e nT)];exact e
  refine step zs H1 hZ s1 D i x y (hx d3) _ _ (sH.trans sT) ⟨vs,sT _ _ eD⟩ fun w H3 s3 hp=>?_;have e3:=s3 _ _ (sT _ _ eD);have bu:∀b o,b≠D→H3 b=some o→upd H3 D (.lst (vs++[w])) b=some o:=fun b o nb e=>by rw [bE nb];exact e
  refine ⟨e3,by lia,zs.length-(i+1),by lia,rfl,d3,aM,ft (sH.trans (sT.trans s3)) nD,by simp [el],fun j v' e=>?_⟩
  by_cases hj:j<i;·exact mono D j v' Hc _ vs (hP j v' (by rw [iS (by lia)] at e;exact e)) eD fun b o nb e=>bu b o nb (s3 _ _ (sT _ _ e))
  ·have hj:j=i:=by have:=(aG.mp e).1;simp at this;lia
   subst hj;have e':v'=w:=by rw [iQ (by lia),el,qC] at e;simpa using e.symm
   subst e';exact mono D _ _ H3 _ vs hp e3 bu
 ·have e:i=zs.length:=by lia
  subst e;exact .inl ⟨js.stop _ Hc sH (aI _),fin zs H1 hZ s1 D vs Hc hD sH el hP eD⟩
end L2
namespace My
open PySem L2
end My
namespace L2
open PySem PySem.Spec PyProof.Rows
section
variable {X:Cx}
end
end L2
namespace My
open PySem L2
theorem pR:∀(n:Nat) (f:Nat→Int),ai (n+1) f=ai n f+f n
 | 0,f=>by show f 0+0=0+f 0;lia
 | n+1,f=>by show f 0+ai (n+1) (fun i=>f (i+1))=(f 0+ai n fun i=>f (i+1))+f (n+1);rw [pR n];lia
def lZ(q T D:Int):Int×Int:=if q=0 then (jU T D,jo T D) else (T % q,1)
variable {q T D:Int}
theorem GU(ok:aH q D):aX q (lZ q T D) (T,D):=by
 unfold lZ aX;by_cases z:q=0
 ·subst z
  have hD:=ok.1 rfl;have e:=(zA (a:=T) (show D≠0 by lia)).2.1
  rw [ak rfl];exact ⟨0,by dsimp only;rw [e];lia⟩
 ·rw [aj z,ok.2 z]
  obtain ⟨w,ew⟩:=vp T q;exact ⟨-w,by dsimp only;rw [i7];lia⟩
def Canon(q:Int)(p:Int×Int):Prop:=(q=0→gf p.1 p.2)∧(q≠0→p.2=1∧0≤p.1∧p.1<q)
variable {B:Nat} {m:Int}
theorem cD.canon{H:Hp}{v:V}{x:Int}(h:cD B H q v x m):Canon q (x,m):=by
 cases h with
 | bV e l bx bm=>exact ⟨fun _=>l,fun z=>absurd rfl z⟩
 | rem h0 h1 h2=>exact ⟨fun z=>by lia,fun _=>⟨rfl,h0,h1⟩⟩
variable {p r:Int×Int}
theorem GV(hq:az q)(h1:Canon q p)(h2:Canon q r)(e:aX q p r):p=r:=by
 obtain ⟨x,m⟩:=p;obtain ⟨y,n⟩:=r;unfold aX at e;dsimp only at e;by_cases z:q=0
 ·subst z
  have l1:=h1.1 rfl;have l2:=h2.1 rfl;have e:=kY.mp e;obtain ⟨a,b⟩:=MW l1 l2 (show x*n=y*m by lia)
  dsimp only at a b;rw [a,b]
 ·obtain ⟨a1,a2,a3⟩:=h1.2 z
  obtain ⟨b1,b2,b3⟩:=h2.2 z;dsimp only at a1 a2 a3 b1 b2 b3;subst a1 b1;rw [iC,iC] at e;obtain ⟨k,ek⟩:=e;have:k=0:=by
   rcases Int.lt_trichotomy k 0 with h | h | h
   ·have:=uU (show k≤-1 by lia) (show 0≤q by lia)
    lia
   ·exact h
   ·have:=uU (show 1≤k by lia) (show 0≤q by lia)
    lia
  rw [this,cG] at ek;rw [show x=y by lia]
theorem Nl(hq:az q)(ok:aH q D):Canon q (lZ q T D):=by
 unfold lZ;refine ⟨fun z=>?_,fun z=>?_⟩
 ·rw [ak z]
  exact (zA (a:=T) (show D≠0 by have:=ok.1 z;lia)).1
 ·rw [aj z]
  have q2:0<q:=by rcases hq with h | h <;> lia
  exact ⟨rfl,eE _ z,eW _ q2⟩
theorem WE(hq:az q)(ok:aH q D)(b1:1000≤B)(bt:T.natAbs≤B)(bd:D.natAbs≤B):(lZ q T D).1.natAbs≤B∧(lZ q T D).2.natAbs≤B:=by
 unfold lZ;by_cases z:q=0
 ·rw [ak z]
  have hD:=ok.1 z;obtain ⟨u,d,e1,e2,l,l1,l2⟩:=MP (a:=T) hD;unfold jU jo;dsimp only;rw [e1,e2];exact ⟨av l1 bt,av l2 bd⟩
 ·rw [aj z]
  have q2:0<q∧q≤997:=by rcases hq with h | h <;> lia
  have:=eE T z;have:=eW T q2.1;exact ⟨by dsimp only;lia,by dsimp only;lia⟩
theorem Canon.bot(h:Canon q p):aH q p.2:=⟨fun z=>(h.1 z).pos,fun z=>(h.2 z).1⟩
theorem zP(hq:az q)(h1:Canon q p)(h2:Canon q r):Canon q (mulQ q p r)∧aX q (mulQ q p r) (p.1*r.1,p.2*r.2):=by have e:mulQ q p r=lZ q (p.1*r.1) (p.2*r.2):=rfl;rw [e];exact ⟨Nl hq (h1.bot.mul h2.bot),GU (h1.bot.mul h2.bot)⟩
theorem aH.nz{b:Int}(hq:az q)(h:aH q b):¬q∣b:=fun hd=>by
 by_cases z:q=0
 ·subst z
  have:=h.1 rfl;have:=kY.mp hd;lia
 ·rw [h.2 z] at hd
  have q2:2≤q:=by rcases hq with h | h <;> lia
  have:=yW (by decide) hd
  lia
theorem lcm_dvd{b:Int}(hb:1≤b)(hm:1≤m)(h1:b∣D)(h2:m∣D):b / (Int.gcd b m:Int)*m∣D:=by
 have gp:=oi (a:=b) (b:=m) (by lia)
 obtain ⟨b',eb⟩:=qz (a:=b) (b:=m)
 have g0:(Int.gcd b m:Int)≠0:=by lia
 have gb:b / (Int.gcd b m:Int)=b':=by
  conv=>lhs;lhs;rw [eb]
  exact kX _ g0
 have z:((Int.lcm b m:Nat):Int)∣D:=Int.coe_lcm_dvd h1 h2
 have e:((Int.lcm b m:Nat):Int)=b'*m:=by
  have h:=Int.gcd_mul_lcm b m
  have h2:((Int.gcd b m:Nat):Int)*((Int.lcm b m:Nat):Int)=((b*m).natAbs:Int):=by
   rw [←nH,h,bT]
  have bm:0<b*m:=fP (by lia) (by lia)
  have h3:((b*m).natAbs:Int)=b*m:=by lia
  rw [h3] at h2
  refine o9 g0 ?_
  rw [h2,←kn,←eb]
 rw [gb,←e]
 exact z
structure CJ (q:Int) (ps:a_) (ts:List Int) (b D:Int) (B:Nat):Prop where
 len:ts.length=ps.length
 ok:aH q b
 dvd:b∣D
 each:∀i,i<ps.length→ts.getD i 0*(ps.getD i o1).2=(ps.getD i o1).1*b∧(ts.getD i 0).natAbs≤B*D.natAbs
theorem GW{b:Int}(h:b∣D)(hD:D≠0):b.natAbs≤D.natAbs:=Nat.le_of_dvd (jF.mpr hD) (FA.mpr h)
theorem WG(ok:aH q D):(lZ q T D).2∣D:=by
 unfold lZ;by_cases z:q=0
 ·rw [ak z]
  have hD:=ok.1 z;have e:lowG T D=(Int.gcd T D:Int):=by unfold lowG;rw [aj (by lia)]
  have gp:=oi (a:=T) (b:=D) (by lia)
  unfold jo;dsimp only;rw [e,yO _ (by lia)]
  exact Int.ediv_dvd_of_dvd (nE ..)
 ·rw [aj z]
  exact Int.one_dvd D
end My
namespace L2
open PySem PySem.Spec PyProof.Rows
section
variable {X:Cx} {tg:Expr}
end
theorem WH{X:Cx}{K:aL}{e:Expr}{f:Str}{pos:Pos}{ta:TE}(he:PE X e ta)(hb:attributeBase e f X.env (eval e X.env)=eval e X.env)(hK:X.K=K:=by rfl):PE X (.Attribute e f pos) (LR K ta f):=by subst hK;exact nY he hb
end L2
namespace My
open PySem L2
def Cg(q a b:Int):Prop:=q∣a-b
variable {q:Int}
theorem Cg.refl(a:Int):Cg q a a:=⟨0,by lia⟩
variable {a:Int}
theorem Cg.of_eq{b:Int}(h:a=b):Cg q a b:=h▸Cg.refl a
theorem Cg.symm{b:Int}(h:Cg q a b):Cg q b a:=by obtain ⟨k,e⟩:=h;exact ⟨-k,by rw [i7];lia⟩
theorem Cg.trans{b c:Int}(h1:Cg q a b)(h2:Cg q b c):Cg q a c:=by obtain ⟨k,e⟩:=h1;obtain ⟨l,e'⟩:=h2;exact ⟨k+l,by rw [Int.mul_add];lia⟩
variable {d:Int}
theorem Cg.add{b c:Int}(h1:Cg q a b)(h2:Cg q c d):Cg q (a+c) (b+d):=by obtain ⟨k,e⟩:=h1;obtain ⟨l,e'⟩:=h2;exact ⟨k+l,by rw [Int.mul_add];lia⟩
theorem Cg.sub{b c:Int}(h1:Cg q a b)(h2:Cg q c d):Cg q (a-c) (b-d):=by obtain ⟨k,e⟩:=h1;obtain ⟨l,e'⟩:=h2;exact ⟨k-l,by rw [Int.mul_sub];lia⟩
theorem Cg.mulL{b:Int}(c:Int)(h:Cg q a b):Cg q (c*a) (c*b):=by obtain ⟨k,e⟩:=h;exact ⟨c*k,by rw [←Int.mul_sub,e];grind⟩
theorem Cg.mulR{b:Int}(c:Int)(h:Cg q a b):Cg q (a*c) (b*c):=by rw [fi a,fi b];exact h.mulL c
theorem zQ(q a:Int):Cg q (a % q) a:=⟨-(a / q),by have:=Int.mul_ediv_add_emod a q;rw [i7];lia⟩
theorem Cg.nz{b:Int}(h:Cg q a b)(n:¬q∣b):¬q∣a:=fun d=>n (by
 have:b=a-(a-b):=by lia
 rw [this];exact Int.dvd_sub d h)
theorem dB{q:Int}:∀{n:Nat} {f g:Nat→Int},(∀i,i<n→Cg q (f i) (g i))→Cg q (ai n f) (ai n g)
 | 0,_,_,_=>Cg.refl _
 | n+1,f,g,h=>by unfold ai;exact (h 0 (by lia)).add (dB fun i hi=>h (i+1) (by lia))
theorem l5{α:Type}{xs:List α}{k:Nat}{d:α}(h:xs.length≤k):xs.getD k d=d:=by rw [dg,y3 h];rfl
theorem WI{wi:TI}{ρ:St→St}{te:TE}{σ:St}{H:Hp}{Q:VK}{ts:List Int}(g:Int→Int)(hn:ts.length≤500)
  (gM:∀R:It→Hp→Prop,(∀J H1,ag H H1→lK J (ts.map V.int) H1→R J H1)→wi σ H R)
  (step:∀t∈ts,∀(Hc:Hp) (R:VK),ag H Hc→(∀H3,ag Hc H3→R (.int (g t)) H3)→te (some (.int t)::ρ σ) Hc R)
  (fin:∀D Hc,H D=none→ag H Hc→Hc D=some (.lst ((ts.map g).map V.int))→Q (.ref D) Hc):ji wi ρ (fun _ H Q=>Q true H) te σ H Q:=by
 refine eB (xs:=ts.map V.int) gM (by rw [aY];exact cT (by lia)) (fun _ i y _=>∃t,ts[i]?=some t∧y=.int (g t)) (fun _ _ _ _ _ _ h _ _=>h) ?_ ?_
 ·intro D i v hi Hc R sc _ kc
  rw [bj] at hi;cases e:ts[i]? with
  | none=>rw [e] at hi;cases hi
  | some t=>rw [e] at hi;cases hi;exact step t (o4 e) Hc R sc fun H3 s3=>kc _ H3 s3 ⟨t,e,rfl⟩
 ·intro D ys Hc nD sc dM hP eD
  have ey:ys=(ts.map g).map V.int:=ox (by rw [dM,aY,aY]) fun i v e=>by obtain ⟨t,e1,e2⟩:=hP i v e;exact ⟨g t,by rw [bj,e1];rfl,e2⟩
  rw [ey] at eD;exact fin D Hc nD sc eD
def bY(j:Nat)(v:ax):Nat→Nat→Int:=fun i=>if i<j then v i else v (i+1)
def sgn(j:Nat):Int:=if j % 2=0 then 1 else -1
theorem GX(j:Nat):sgn (j+1)=-sgn j:=by
 unfold sgn;by_cases h:j % 2=0;·rw [ak h,aj (by lia)]
 ·rw [aj h,ak (by lia)];rfl
def aJ:List Nat→(Nat→Nat→Int)→Int
 | [],_=>1
 | c::cs,v=>ai (cs.length+1) fun j=>sgn j*v j c*aJ cs (bY j v)
theorem zR(c:Nat)(cs:List Nat)(v:ax):aJ (c::cs) v=ai (cs.length+1) fun j=>sgn j*v j c*aJ cs (bY j v):=rfl
variable {j:Nat}
theorem WJ{l:Nat}(h:l≤j)(v:ax):bY l (bY (j+1) v)=bY j (bY l v):=by
 funext i
 unfold bY;by_cases h1:i<l;·rw [ak h1,ak (by lia),ak (by lia),ak h1]
 ·rw [aj h1]
  by_cases h2:i<j;·rw [ak h2,aj h1,ak (by lia)]
  ·rw [aj h2,aj (by lia),aj (by lia)]
theorem Nm(n:Nat)(f:Nat→Int):ai n (fun i=>-f i)=-ai n f:=by
 have:=cm (-1) n f;rw [show (fun i=>-f i)=fun i=>-1*f i from funext fun i=>by lia,←this]
 lia
theorem WK(n:Nat)(F:ax):(ai (n+1) fun j=>ai n fun l=>F j l)=(ai n fun j=>ai (j+1) fun l=>F (j+1) l)+ai n fun l=>ai (l+1) fun j=>F j l:=by
 induction n with
 | zero=>rfl
 | succ n ih=>
  rw [pR (n+1) fun j=>ai (n+1) fun l=>F j l];have e1:(ai (n+1) fun j=>ai (n+1) fun l=>F j l)=(ai (n+1) fun j=>ai n fun l=>F j l)+ai (n+1) fun j=>F j n:=by rw [←oz];exact cQ fun j _=>pR n _
  rw [e1,ih,pR n fun j=>ai (j+1) fun l=>F (j+1) l,pR n fun l=>ai (l+1) fun j=>F j l];lia
theorem Nn(a b:Nat)(cs:List Nat)(v:ax):aJ (a::b::cs) v=-aJ (b::a::cs) v:=by
 have ex:∀x y:Nat,aJ (x::y::cs) v=(ai (cs.length+1) fun j=>ai (j+1) fun l=>sgn (j+1)*sgn l*(v (j+1) x*v l y)*aJ cs (bY j (bY l v)))-ai (cs.length+1) fun j=>ai (j+1) fun l=>sgn (j+1)*sgn l*(v l x*v (j+1) y)*aJ cs (bY j (bY l v)):=fun x y=>by
  have e0:aJ (x::y::cs) v=ai (cs.length+2) fun j=>ai (cs.length+1) fun l=>sgn j*v j x*(sgn l*bY j v l y*aJ cs (bY l (bY j v))):=by rw [zR,dN];refine cQ fun j _=>?_;rw [zR,cm]
  rw [e0,WK (cs.length+1)];rw [Int.sub_eq_add_neg,←Nm]
  congr 1
  ·refine cQ fun j _=>cQ fun l hl=>?_
   rw [WJ (by lia),show bY (j+1) v l y=v l y by unfold bY;rw [ak (by lia)]]
   grind
  ·refine cQ fun l _=>?_
   rw [←Nm];refine cQ fun j hj=>?_;rw [show bY j v l y=v (l+1) y by unfold bY;rw [aj (by lia)],GX]
   grind
 rw [ex a b,ex b a];have f:∀x y:Nat,(ai (cs.length+1) fun j=>ai (j+1) fun l=>sgn (j+1)*sgn l*(v l x*v (j+1) y)*aJ cs (bY j (bY l v)))=ai (cs.length+1) fun j=>ai (j+1) fun l=>sgn (j+1)*sgn l*(v (j+1) y*v l x)*aJ cs (bY j (bY l v)):=fun x y=>cQ fun j _=>cQ fun l _=>by rw [fi (v l x)]
 rw [f a b,f b a];lia
theorem vB(c:Nat):∀(cs:List Nat) (v:ax),c∈cs→aJ (c::cs) v=0
 | b::cs,v,h=>by
  by_cases e:c=b
  ·subst e
   have:=Nn c c cs v;lia
  ·have h':c∈cs:=by
    rcases fg.mp h with z | z;·exact absurd z e
    ·exact z
   rw [Nn,zR];rw [show (fun j=>sgn j*v j b*aJ (c::cs) (bY j v))=fun _=>0 from funext fun j=>by rw [vB c cs _ h',cG],gg]
   rfl
def aU(e:Nat→Int)(R:ax):Nat→Nat→Int
 | 0=>e
 | i+1=>R i
theorem Np(e:Nat→Int)(R:ax):bY 0 (aU e R)=R:=by
 funext i
 unfold bY;rw [aj (by lia)]
 rfl
theorem Nq(i:Nat)(e:Nat→Int)(R:ax):bY (i+1) (aU e R)=aU e (bY i R):=by
 funext j
 unfold bY;cases j with
 | zero=>rw [ak (by lia)];rfl
 | succ j=>
  by_cases h:j<i
  ·rw [ak (by lia)]
   show R j=if j<i then R j else R (j+1)
   rw [ak h]
  ·rw [aj (by lia)]
   show R (j+1)=if j<i then R j else R (j+1)
   rw [aj h]
theorem pU(k:Nat)(C:List Nat)(e:Nat→Int)(R:ax):aJ (k::C) (aU e R)=aJ C R*e k+ai C.length fun i=>R i k*(-(sgn i)*aJ C (aU e (bY i R))):=by
 rw [zR,ai];have e0:sgn 0*aU e R 0 k*aJ C (bY 0 (aU e R))=aJ C R*e k:=by rw [Np];show 1*e k*aJ C R=_;rw [uV,fi]
 rw [e0]
 congr 1
 refine cQ fun i _=>?_;rw [Nq,GX];show -sgn i*R i k*_=_;grind
def pV(C:List Nat)(R:ax):Prop:=∀x:Nat→Int,(∀c∈C,(ai C.length fun i=>R i c*x i)=0)→∀k,(ai C.length fun i=>R i k*x i)=0
theorem WL(R:ax):pV [] R:=fun _ _ _=>rfl
variable {C:List Nat} {R:ax} {h:Nat→Int} {c:Nat}
theorem WM(sp:pV C R)(d0:aJ C R≠0)(p0:aJ (c::C) (aU h R)≠0):pV (c::C) (aU h R):=by
 intro x hx k;have ex:∀k,(ai (c::C).length fun i=>aU h R i k*x i)=h k*x 0+ai C.length fun i=>R i k*x (i+1):=fun k=>rfl;have hz:∀k,aJ C R*(h k*x 0+ai C.length fun i=>R i k*x (i+1))-x 0*aJ (k::C) (aU h R)=ai C.length fun i=>R i k*(aJ C R*x (i+1)-x 0*(-(sgn i)*aJ C (aU h (bY i R)))):=fun k=>by
  rw [pU,show (fun i=>R i k*(aJ C R*x (i+1)-x 0*(-(sgn i)*aJ C (aU h (bY i R)))))=fun i=>aJ C R*(R i k*x (i+1)) + -(x 0)*(R i k*(-(sgn i)*aJ C (aU h (bY i R)))) from funext fun i=>by grind,oz,←cm,←cm]
  grind
 have z:=sp _ fun c' e_=>by rw [←hz c',←ex c',hx c' (ia _ e_),vB c' C _ e_];simp
 have z1:∀k,aJ C R*(h k*x 0+ai C.length fun i=>R i k*x (i+1))=x 0*aJ (k::C) (aU h R):=fun k=>by have:=hz k;rw [z k] at this;omega
 have x0:x 0=0:=by
  have e:=z1 c;rw [←ex c,hx c i6,cG] at e;rcases BF.mp e.symm with h | h;·exact h
  ·exact absurd h p0
 have e:=z1 k;rw [x0,iT] at e;rw [ex k,x0];rcases BF.mp e with h | h;·exact absurd h d0
 ·exact h
theorem GY(sp:pV C R)(e h:Nat→Int)(c k:Nat) :
  aJ C R*aJ (k::c::C) (aU e (aU h R))=aJ (c::C) (aU h R)*aJ (k::C) (aU e R)-aJ (c::C) (aU e R)*aJ (k::C) (aU h R):=by
 have two:∀k,aJ (k::c::C) (aU e (aU h R))=aJ (c::C) (aU h R)*e k-aJ (c::C) (aU e R)*h k+ai C.length fun i=>R i k*(sgn i*aJ (c::C) (aU e (aU h (bY i R)))):=fun k=>by
  rw [pU,dN,ai];have e0:aU h R 0 k*(-(sgn 0)*aJ (c::C) (aU e (bY 0 (aU h R))))=-(aJ (c::C) (aU e R)*h k):=by rw [Np];show h k*(-1*_)=_;grind
  rw [e0,show (fun i=>aU h R (i+1) k*(-(sgn (i+1))*aJ (c::C) (aU e (bY (i+1) (aU h R)))))=fun i=>R i k*(sgn i*aJ (c::C) (aU e (aU h (bY i R)))) from funext fun i=>by rw [Nq,GX,Int.neg_neg];rfl]
  lia
 have hz:∀k,aJ C R*aJ (k::c::C) (aU e (aU h R))-(aJ (c::C) (aU h R)*aJ (k::C) (aU e R)-aJ (c::C) (aU e R)*aJ (k::C) (aU h R))=ai C.length fun i=>R i k*(aJ C R*(sgn i*aJ (c::C) (aU e (aU h (bY i R))))-aJ (c::C) (aU h R)*(-(sgn i)*aJ C (aU e (bY i R)))+aJ (c::C) (aU e R)*(-(sgn i)*aJ C (aU h (bY i R)))):=fun k=>by
  rw [two k,pU k C e R,pU k C h R];rw [show (fun i=>R i k*(aJ C R*(sgn i*aJ (c::C) (aU e (aU h (bY i R))))-aJ (c::C) (aU h R)*(-(sgn i)*aJ C (aU e (bY i R)))+aJ (c::C) (aU e R)*(-(sgn i)*aJ C (aU h (bY i R)))))=fun i=>(aJ C R*(R i k*(sgn i*aJ (c::C) (aU e (aU h (bY i R))))) + -(aJ (c::C) (aU h R))*(R i k*(-(sgn i)*aJ C (aU e (bY i R)))))+aJ (c::C) (aU e R)*(R i k*(-(sgn i)*aJ C (aU h (bY i R)))) from funext fun i=>by grind,oz,oz,←cm,←cm,←cm]
  grind
 have z:=sp _ fun c' e_=>by rw [←hz c',vB c' (c::C) _ (ia _ e_),vB c' C _ e_,vB c' C _ e_];simp
 have:=hz k;rw [z k] at this;omega
def g8(c:Nat):Nat→Int:=fun k=>if k=c then -1 else 0
def iM(C:List Nat)(R:ax)(f:Nat→Int):Nat→Int:=fun k=>aJ (k::C) (aU f R)
def jX(C:List Nat)(R:ax)(c:Nat):Nat→Int:=fun k=>aJ (k::C) (aU (g8 c) R)-aJ C R*g8 c k
theorem WN(R:ax)(f:Nat→Int)(k:Nat):iM [] R f k=f k:=by show aJ [k] (aU f R)=f k;rw [pU];show 1*f k+0=f k;lia
theorem WO(R:ax)(c':Nat)(h:c∈C):jX C R c' c=if c=c' then aJ C R else 0:=by
 unfold jX;rw [vB c C _ h];unfold g8
 split <;> lia
theorem Nr{e:Nat→Int}:∀{C:List Nat} (S:ax),C≠[]→(∀x∈C,e x=0)→aJ C (aU e S)=0
 | x::C,S,_,h=>by
  rw [pU,h x i6,cG,mj];cases C with
  | nil=>rfl
  | cons y C=>rw [show (fun i=>S i x*(-(sgn i)*aJ (y::C) (aU e (bY i S))))=fun _=>0 from funext fun i=>by rw [Nr (bY i S) (by simp) fun z hz=>h z (ia _ hz)];simp,gg]
theorem WQ(R:ax)(h:c∉C)(k:Nat):iM C R (g8 c) k=aJ C R*g8 c k:=by
 unfold iM;rw [pU];have z:(ai C.length fun i=>R i k*(-(sgn i)*aJ C (aU (g8 c) (bY i R))))=0:=by
  cases C with
  | nil=>rfl
  | cons y C=>
   rw [show (fun i=>R i k*(-(sgn i)*aJ (y::C) (aU (g8 c) (bY i R))))=fun _=>0 from funext fun i=>by
    rw [Nr (e:=g8 c) (C:=y::C) (bY i R) (by simp) fun z hz=>aj fun(e:z=c)=>h (by rw [←e];exact hz)]
    simp,gg]
 rw [z,y4]
theorem Nt(sp:pV C R)(f h:Nat→Int)(c k:Nat):iM C R h c*iM C R f k-iM C R f c*iM C R h k=aJ C R*iM (c::C) (aU h R) f k:=(GY sp f h c k).symm
theorem Nu(sp:pV C R)(h:Nat→Int){c':Nat}(ne:c≠c')(k:Nat):iM C R h c*jX C R c' k-jX C R c' c*iM C R h k=aJ C R*jX (c::C) (aU h R) c' k:=by have e:=GY sp (g8 c') h c k;have z:g8 c' c=0:=aj ne;unfold jX iM;rw [z,cG,Int.sub_zero,Int.mul_sub (aJ C R),e];grind
theorem WR(sp:pV C R)(d0:aJ C R≠0)(h:Nat→Int)(nc:c∉C)(k:Nat):jX (c::C) (aU h R) c k=iM C R h k:=by
 have e:=GY sp (g8 c) h c k;have u:=WQ R nc;unfold iM at u;rw [u k,u c,show g8 c c=-1 from ak rfl] at e;unfold jX iM;have:aJ C R*(aJ (k::c::C) (aU (g8 c) (aU h R))-aJ (c::C) (aU h R)*g8 c k)=aJ C R*aJ (k::C) (aU h R):=by rw [Int.mul_sub,e];grind
 exact o9 d0 this
def cp:Nat→Nat
 | 0=>1
 | n+1=>(n+1)*cp n
theorem GZ{M:Nat}:∀(n:Nat) (f:Nat→Int),(∀i,i<n→(f i).natAbs≤M)→(ai n f).natAbs≤n*M
 | 0,_,_=>by show (0:Int).natAbs≤_;simp
 | n+1,f,h=>by rw [pR,ib];exact av (Int.natAbs_add_le ..) (Nat.add_le_add (GZ n f fun i hi=>h i (by lia)) (h n (by lia)))
def cq:Nat→(Nat→Nat)→Nat
 | 0,_=>1
 | n+1,g=>cq n g*g n
def kJ(j:Nat)(g:Nat→Nat):Nat→Nat:=fun i=>if i<j then g i else g (i+1)
def zS(x:Nat)(g:Nat→Nat):Nat→Nat
 | 0=>x
 | i+1=>g i
theorem vC:∀{n:Nat} {f g:Nat→Nat},(∀i,i<n→f i=g i)→cq n f=cq n g
 | 0,_,_,_=>rfl
 | n+1,f,g,h=>by show cq n f*f n=cq n g*g n;rw [vC fun i hi=>h i (by lia),h n (by lia)]
theorem G0:∀(n j:Nat) (g:Nat→Nat),j≤n→cq n (kJ j g)*g j=cq (n+1) g
 | 0,j,g,h=>by
  have:j=0:=by lia
  subst this;rfl
 | n+1,j,g,h=>by
  by_cases e:j=n+1
  ·subst e
   show cq (n+1) (kJ (n+1) g)*g (n+1)=cq (n+1) g*g (n+1);rw [vC fun i hi=>by unfold kJ;rw [ak hi]]
  ·have ih:=G0 n j g (by lia)
   show cq n (kJ j g)*kJ j g n*g j=cq (n+1) g*g (n+1);have:kJ j g n=g (n+1):=by unfold kJ;rw [aj (by lia)]
   rw [this,Nat.mul_right_comm,ih]
theorem zT:∀(n x:Nat) (g:Nat→Nat),cq (n+1) (zS x g)=x*cq n g
 | 0,x,g=>by show 1*x=x*1;lia
 | n+1,x,g=>by show cq (n+1) (zS x g)*g n=x*(cq n g*g n);rw [zT n x g,kZ]
theorem Nv(j:Nat):(sgn j).natAbs=1:=by unfold sgn;split <;> rfl
theorem CK:∀(C:List Nat) (v:ax) (g:Nat→Nat),(∀i c,(v i c).natAbs≤g i)→(aJ C v).natAbs≤cp C.length*cq C.length g
 | [],_,_,_=>by show (1:Int).natAbs≤1*1;decide
 | c::C,v,g,h=>by
  rw [zR];refine av (GZ (M:=cp C.length*cq (C.length+1) g) _ _ fun j hj=>?_) (jy ?_)
  ·rw [bT,bT,Nv,Nat.one_mul]
   have d:=CK C (bY j v) (kJ j g) fun i c'=>by
    unfold bY kJ
    split
    ·exact h _ _
    ·exact h _ _
   refine av (bI (h j c) d) (jy ?_);rw [←G0 C.length j g (by lia),qE,jD (g j)]
  ·rw [dN,cp,kZ]
variable {g:Nat→Nat}
theorem WS(h:∀i c,(R i c).natAbs≤g i)(c k:Nat):(jX C R c k).natAbs≤C.length*(cp C.length*cq C.length g):=by
 have e:jX C R c k=ai C.length fun i=>R i k*(-(sgn i)*aJ C (aU (g8 c) (bY i R))):=by unfold jX;rw [pU];lia
 rw [e];refine GZ _ _ fun i hi=>?_;rw [bT,bT,yX,Nv,Nat.one_mul];have d:=CK C (aU (g8 c) (bY i R)) (zS 1 (kJ i g)) fun j c'=>by
  cases j with
  | zero=>
   show (g8 c c').natAbs≤1;unfold g8
   split <;> decide
  | succ j=>
   show (bY i R j c').natAbs≤kJ i g j;unfold bY kJ
   split
   ·exact h _ _
   ·exact h _ _
 refine av (bI (h i k) d) (jy ?_);obtain ⟨m,em⟩:∃m,C.length=m+1:=⟨C.length-1,by lia⟩
 rw [em,zT,Nat.one_mul,←G0 m i g (by lia),qE,jD (g i)]
theorem G3:∀{n:Nat} {g:Nat→Nat},(∀i,1≤g i)→1≤cq n g
 | 0,_,_=>aI _
 | n+1,g,h=>bI (G3 h) (h n)
theorem Nw:∀n,1≤cp n
 | 0=>aI _
 | n+1=>bI (by lia:1≤n+1) (Nw n)
theorem CL:∀{m n:Nat},m≤n→cp m≤cp n
 | m,n,h=>by
  by_cases e:m=n;·rw [e];exact aI _
  ·obtain ⟨n',rfl⟩:∃n',n=n'+1:=⟨n-1,by lia⟩
   exact av (CL (by lia)) (gC _ (by lia))
def setG(g:Nat→Nat)(r x:Nat):Nat→Nat:=fun i=>if i=r then x else g i
theorem vD:∀(n r:Nat) (g:Nat→Nat),r<n→cq n (setG g r 1)*g r=cq n g
 | 0,_,_,h=>by lia
 | n+1,r,g,h=>by
  show cq n (setG g r 1)*setG g r 1 n*g r=cq n g*g n;by_cases e:r=n
  ·subst e
   rw [show setG g r 1 r=1 from ak rfl,Nat.mul_one,show cq r (setG g r 1)=cq r g from vC fun i hi=>aj (by lia)]
  ·rw [show setG g r 1 n=g n from aj (fun z=>e z.symm),Nat.mul_right_comm,vD n r g (by lia)]
def jY(r n:Nat)(g:Nat→Nat):Nat:=cq (n-r) fun i=>g (r+i)
variable {r n:Nat}
theorem WT(h:r<n)(g:Nat→Nat):jY r n g=g r*jY (r+1) n g:=by
 unfold jY;obtain ⟨m,e⟩:∃m,n-r=m+1:=⟨n-r-1,by lia⟩
 rw [e,show n-(r+1)=m by lia,←zT]
 refine vC fun i _=>?_;cases i with
 | zero=>rfl
 | succ i=>show g (r+(i+1))=g (r+1+i);congr 1;lia
def jt(g:Nat→Nat)(r s:Nat):Nat→Nat:=fun i=>if i=s then g r else if i=r then g s else g i
variable {s:Nat}
theorem WU(hr:r<n)(hs:r≤s)(sn:s<n)(g:Nat→Nat):jY r n (jt g r s)=jY r n g:=by
 by_cases e:s=r
 ·subst e
  have:jt g s s=g:=funext fun i=>by unfold jt;split <;> simp_all
  rw [this]
 ·unfold jY
  have h1:=vD (n-r) 0 (fun i=>g (r+i)) (by lia)
  have h2:=vD (n-r) (s-r) (setG (fun i=>g (r+i)) 0 1) (by lia)
  have k1:=vD (n-r) 0 (fun i=>jt g r s (r+i)) (by lia)
  have k2:=vD (n-r) (s-r) (setG (fun i=>jt g r s (r+i)) 0 1) (by lia)
  have a1:setG (fun i=>g (r+i)) 0 1 (s-r)=g s:=by
   show (if s-r=0 then 1 else g (r+(s-r)))=g s
   rw [aj (by lia),show r+(s-r)=s by lia]
  have b1:setG (fun i=>jt g r s (r+i)) 0 1 (s-r)=g r:=by
   show (if s-r=0 then 1 else jt g r s (r+(s-r)))=g r
   rw [aj (by lia),show r+(s-r)=s by lia]
   exact ak rfl
  have b2:jt g r s (r+0)=g s:=by unfold jt;rw [aj (by lia),ak (by lia)]
  have c:setG (setG (fun i=>jt g r s (r+i)) 0 1) (s-r) 1=setG (setG (fun i=>g (r+i)) 0 1) (s-r) 1:=funext fun i=>by
   unfold setG jt;by_cases z1:i=s-r;·rw [ak z1,ak z1]
   ·rw [aj z1,aj z1]
    by_cases z2:i=0;·rw [ak z2,ak z2]
    ·rw [aj z2,aj z2]
     dsimp only;rw [aj (by lia),aj (by lia)]
  rw [←h1,←k1,←h2,←k2,c,a1,b1];rw [b2,show r+0=r from rfl,Nat.mul_right_comm]
def Made(q:Int)(n:Nat)(A:ax)(f:Nat→Int):Prop:=∃(e:Int) (x:Nat→Int),¬q∣e∧∀k,Cg q (e*f k) (ai n fun t=>x t*A t k)
theorem vE(hq:az q):¬q∣1:=fun h=>by
 rcases hq with rfl | ⟨h2,_⟩
 ·have:=kY.mp h
  lia
 ·have:=yW (by decide) h
  lia
variable {t:Nat}
theorem WV(ht:t<n)(f:Nat→Int):(ai n fun i=>(if i=t then 1 else 0)*f i)=f t:=by
 have e:(fun i=>(if i=t then (1:Int) else 0)*f i)=fun i=>if i=t then f i else 0:=funext fun i=>by
  by_cases h:i=t;·rw [ak h,ak h,uV]
  ·rw [aj h,aj h,iT]
 rw [e,jW n t f ht]
theorem vF(hq:az q)(ht:t<n)(A:ax):Made q n A (A t):=
 ⟨1,fun i=>if i=t then 1 else 0,vE hq,fun k=>Cg.of_eq (by rw [WV ht fun i=>A i k];lia)⟩
variable {A:ax} {f:Nat→Int} {u:Int}
theorem CM(hq:az q){g:Nat→Int}{b:Int}(nu:¬q∣u)(hf:Made q n A f)(hg:Made q n A g)(e:∀k,Cg q (u*h k) (a*f k-b*g k)):Made q n A h:=by
 obtain ⟨e1,x,n1,h1⟩:=hf;obtain ⟨e2,y,n2,h2⟩:=hg;refine ⟨e1*e2*u,fun t=>a*e2*x t-b*e1*y t,iL hq (iL hq n1 n2) nu,fun k=>?_⟩;have z1:=(e k).mulL (e1*e2);have z2:=(h1 k).mulL (a*e2);have z3:=(h2 k).mulL (b*e1);have z4:=z2.sub z3;rw [show (fun t=>(a*e2*x t-b*e1*y t)*A t k)=fun t=>a*e2*(x t*A t k) + -(b*e1)*(y t*A t k) from funext fun t=>by grind,oz,←cm,←cm]
 refine (Cg.of_eq (by grind)).trans (z1.trans ((Cg.of_eq ?_).trans (z4.trans (Cg.of_eq ?_))))
 ·grind
 ·grind
structure d6 (q:Int) (n:Nat) (A M:ax) (L:List Nat) (cur:Nat):Prop where
 len:L.length≤n
 lt:∀c∈L,c<cur
 up:L.Pairwise (· < ·)
 lead:∀j,j<L.length→¬q∣M j (L.getD j 0)
 off:∀i j,i<n→j<L.length→i≠j→Cg q (M i (L.getD j 0)) 0
 low:∀i k,i<n→L.length≤i→k<cur→Cg q (M i k) 0
 vG:∀j k,j<L.length→k<L.getD j 0→Cg q (M j k) 0
 q8:∀i,i<n→Made q n A (M i)
 ofM:∀t,t<n→Made q n M (A t)
theorem d6.start(hq:az q)(n:Nat)(A:ax):d6 q n A A [] 0:=
 ⟨fh _,fun _ h=>by simp at h,.nil,fun _ h=>by simp at h,fun _ _ _ h=>by simp at h,fun _ _ _ _ h=>by lia,fun _ _ h=>by simp at h,fun i hi=>vF hq hi A,fun i hi=>vF hq hi A⟩
variable {M:ax} {L:List Nat} {cur:Nat}
theorem d6.skip(h:d6 q n A M L cur)(z:∀i,i<n→L.length≤i→Cg q (M i cur) 0):d6 q n A M L (cur+1):=
 ⟨h.len,fun c hc=>yZ (h.lt c hc),h.up,h.lead,h.off,fun i k hi hl hk=>by
  by_cases e:k=cur;·rw [e];exact z i hi hl
  ·exact h.low i k hi hl (by lia),h.vG,h.q8,h.ofM⟩
theorem Nx(hq:az q)(n:Nat)(A:ax):Made q n A fun _=>0:=
 ⟨1,fun _=>0,vE hq,fun k=>Cg.of_eq (by rw [show (fun t=>(0:Int)*A t k)=fun _=>0 from funext fun t=>iT _,gg];rfl)⟩
theorem Ny{q:Int}(hq:az q){n:Nat}{A:ax}(y:Nat→Int)(g:ax):∀m,(∀i,i<m→Made q n A (g i))→Made q n A fun k=>ai m fun i=>y i*g i k
 | 0,_=>Nx hq n A
 | m+1,h=>CM hq (u:=1) (a:=1) (b:=-(y m)) (vE hq) (Ny hq y g m fun i hi=>h i (by lia)) (h m (by lia)) fun k=>Cg.of_eq (by rw [pR];grind)
theorem Nz(hq:az q){m:Nat}{B:ax}(h:∀i,i<m→Made q n A (B i))(hf:Made q m B f):Made q n A f:=by obtain ⟨e,y,ne,hy⟩:=hf;exact CM hq (u:=e) (a:=1) (b:=0) ne (Ny hq y B m h) (Nx hq n A) fun k=>(hy k).trans (Cg.of_eq (by grind))
theorem fT{x:Int}(hq:az q)(nu:¬q∣u)(h:Cg q (u*x) 0):Cg q x 0:=by unfold Cg at h ⊢;rw [Int.sub_zero] at h ⊢;exact o_ fun nx=>iL hq nu nx h
variable {M':ax}
theorem d6.swap(hq:az q)(h:d6 q n A M L cur)(hs:L.length≤s)(sn:s<n)(e1:M' L.length=M s)(e2:M' s=M L.length)(e3:∀i,i≠L.length→i≠s→M' i=M i):d6 q n A M' L cur:=by
 have rn:L.length<n:=by lia
 have up:∀i,i<n→∃i',i'<n∧M' i=M i'∧(i<L.length→i'=i)∧(L.length≤i→L.length≤i'):=fun i hi=>by
  by_cases z1:i=L.length;·exact ⟨s,sn,by rw [z1,e1],fun _=>by lia,fun _=>hs⟩
  ·by_cases z2:i=s
   ·exact ⟨L.length,rn,by rw [z2,e2],fun _=>by lia,fun _=>aI _⟩
   ·exact ⟨i,hi,e3 i z1 z2,fun _=>rfl,fun z=>z⟩
 have dn:∀i,i<n→∃i',i'<n∧M i=M' i':=fun i hi=>by
  by_cases z1:i=L.length;·exact ⟨s,sn,by rw [z1,e2]⟩
  ·by_cases z2:i=s
   ·exact ⟨L.length,rn,by rw [z2,e1]⟩
   ·exact ⟨i,hi,(e3 i z1 z2).symm⟩
 refine ⟨h.len,h.lt,h.up,fun j hj=>?_,fun i j hi hj ne=>?_,fun i k hi hl hk=>?_,fun j k hj hk=>?_,fun i hi=>?_,fun t ht=>?_⟩
 ·rw [e3 j (by lia) (by lia)]
  exact h.lead j hj
 ·obtain ⟨i',h1,h2,h3,h4⟩:=up i hi
  rw [h2];refine h.off i' j h1 hj fun z=>?_;by_cases y:i<L.length;·have:=h3 y;lia
  ·have:=h4 (by lia);lia
 ·obtain ⟨i',h1,h2,h3,h4⟩:=up i hi
  rw [h2];exact h.low i' k h1 (h4 hl) hk
 ·rw [e3 j (by lia) (by lia)]
  exact h.vG j k hj hk
 ·obtain ⟨i',h1,h2,_⟩:=up i hi
  rw [h2];exact h.q8 i' h1
 ·refine Nz hq (fun i hi=>?_) (h.ofM t ht)
  obtain ⟨i',h1,h2⟩:=dn i hi;rw [h2];exact vF hq h1 M'
theorem d6.step(hq:az q)(h:d6 q n A M L c)(rn:L.length<n)(nu:¬q∣u)(np:¬q∣M L.length c)(eh:M' L.length=M L.length)
  (e:∀i k,i<n→i≠L.length→Cg q (u*M' i k) (M L.length c*M i k-M i c*M L.length k)):d6 q n A M' (L++[c]) (c+1):=by
 have g1:∀j,j<L.length→(L++[c]).getD j 0=L.getD j 0:=fun j hj=>by rw [dg,iS hj,←dg]
 have g2:(L++[c]).getD L.length 0=c:=by rw [dg,iQ (aI _),qC];rfl
 have CN:∀i,i<n→i≠L.length→Cg q (M' i c) 0:=fun i hi ne=>fT hq nu ((e i c hi ne).trans (Cg.of_eq (by grind)))
 have WW:(L++[c]).length=L.length+1:=by simp
 refine ⟨by lia,fun c' e_=>?_,?_,fun j hj=>?_,fun i j hi hj ne=>?_,fun i k hi hl hk=>?_,fun j k hj hk=>?_,fun i hi=>?_,fun t ht=>?_⟩
 ·rcases uJ.mp e_ with z | z
  ·exact yZ (h.lt c' z)
  ·rw [qy.mp z];lia
 ·rw [List.pairwise_append]
  exact ⟨h.up,List.pairwise_singleton ..,fun a ha b hb=>by rw [qy.mp hb];exact h.lt a ha⟩
 ·by_cases z:j=L.length
  ·rw [z,g2,eh];exact np
  ·rw [g1 j (by lia)]
   intro d;have w:=e j (L.getD j 0) (by lia) z
   have o:=(h.off L.length j rn (by lia) (Ne.symm z)).mulL (M j c)
   have w2:=w.trans ((Cg.refl (M L.length c*M j (L.getD j 0))).sub o);rw [cG,Int.sub_zero] at w2;exact w2.nz (iL hq np (h.lead j (by lia))) (o6 d (BE ..))
 ·by_cases z:j=L.length
  ·rw [z,g2]
   exact CN i hi (by lia)
  ·rw [g1 j (by lia)]
   by_cases y:i=L.length
   ·rw [y,eh]
    exact h.off L.length j rn (by lia) (Ne.symm z)
   ·have w:=e i (L.getD j 0) hi y
    have l6:=(h.off i j hi (by lia) ne).mulL (M L.length c)
    have o2:=(h.off L.length j rn (by lia) (Ne.symm z)).mulL (M i c)
    exact fT hq nu (w.trans ((l6.sub o2).trans (Cg.of_eq (by simp))))
 ·rw [WW] at hl
  by_cases z:k=c;·rw [z];exact CN i hi (by lia)
  ·have w:=e i k hi (by lia)
   have l6:=(h.low i k hi (by lia) (by lia)).mulL (M L.length c)
   have o2:=(h.low L.length k rn (aI _) (by lia)).mulL (M i c)
   exact fT hq nu (w.trans ((l6.sub o2).trans (Cg.of_eq (by simp))))
 ·by_cases z:j=L.length
  ·rw [z,g2] at hk
   rw [z,eh];exact h.low L.length k rn (aI _) hk
  ·rw [g1 j (by lia)] at hk
   have cK:j<L.length:=by lia
   have hc:L.getD j 0<c:=h.lt _ (by rw [getD_at cK];exact aE _)
   have w:=e j k (by lia) z
   have l6:=(h.vG j k cK hk).mulL (M L.length c);have o2:=(h.low L.length k rn (aI _) (by lia)).mulL (M j c)
   exact fT hq nu (w.trans ((l6.sub o2).trans (Cg.of_eq (by simp))))
 ·by_cases z:i=L.length
  ·rw [z,eh];exact h.q8 _ rn
  ·exact CM hq nu (h.q8 i hi) (h.q8 _ rn) fun k=>e i k hi z
 ·refine Nz hq (fun i hi=>?_) (h.ofM t ht)
  by_cases z:i=L.length;·rw [z,←eh];exact vF hq rn M'
  ·refine CM hq (u:=M L.length c) (a:=u) (b:=-(M i c)) np (vF hq hi M') (vF hq rn M') fun k=>?_
   have w:=e i k hi z;have w2:=(Cg.refl (M i c*M L.length k)).add w.symm;rw [eh];exact (Cg.of_eq (by grind)).trans (w2.trans (Cg.of_eq (by grind)))
theorem G4{q:Int}{f:Nat→Int}{m:Nat}:∀{n:Nat},m≤n→(∀i,m≤i→i<n→Cg q (f i) 0)→Cg q (ai n f) (ai m f)
 | n,h,z=>by
  by_cases e:n=m;·rw [e];exact Cg.refl _
  ·obtain ⟨n',rfl⟩:∃n',n=n'+1:=⟨n-1,by lia⟩
   rw [pR];have a:=(G4 (n:=n') (by lia) fun i h1 h2=>z i h1 (by lia)).add (z n' (by lia) (by lia))
   rw [y4] at a;exact a
theorem d6.done{W:Nat}(h:d6 q n A M L W)(ht:t<n) :
  ∃(e:Int) (y:Nat→Int),¬q∣e∧(∀k,k<W→Cg q (e*A t k) (ai L.length fun j=>y j*M j k))∧∀j,j<L.length→Cg q (e*A t (L.getD j 0)) (y j*M j (L.getD j 0)):=by
 obtain ⟨e,y,ne,hy⟩:=h.ofM t ht;have sm:∀k,k<W→Cg q (e*A t k) (ai L.length fun j=>y j*M j k):=fun k hk=>(hy k).trans (G4 h.len fun i h1 h2=>by have:=(h.low i k h2 h1 hk).mulL (y i);rw [cG] at this;exact this)
 refine ⟨e,y,ne,sm,fun j hj=>?_⟩;have hc:L.getD j 0<W:=h.lt _ (by rw [getD_at hj];exact aE _)
 refine (sm _ hc).trans ?_;have z:Cg q (ai L.length fun i=>y i*M i (L.getD j 0)) (ai L.length fun i=>if i=j then y i*M i (L.getD j 0) else 0):=dB fun i hi=>by
  by_cases e:i=j;·rw [ak e];exact Cg.refl _
  ·rw [aj e]
   have:=(h.off i j (dC hi h.len) hj e).mulL (y i);rw [cG] at this;exact this
 rw [jW L.length j (fun i=>y i*M i (L.getD j 0)) hj] at z;exact z
structure gN (P n:Nat) (M:ax) (C:List Nat) (R:ax) (g G:Nat→Nat):Prop where
 sp:pV C R
 d0:aJ C R≠0
 oA:∀j,j<C.length→M j=jX C R (C.reverse.getD j 0)
 aV:∀i,C.length≤i→i<n→∃f,(∀k,(f k).natAbs≤G i)∧M i=iM C R f
 len:C.length≤n
 bR:∀i k,(R i k).natAbs≤g i
 pos:∀i,1≤G i
 zU:cq C.length g*jY C.length n G≤P
variable {P:Nat} {G:Nat→Nat}
theorem gN.start(A:ax)(hb:∀i k,(A i k).natAbs≤G i)(pos:∀i,1≤G i)(hP:cq n G≤P):gN P n A [] (fun _ _=>0) (fun _=>1) G:=
 ⟨WL _,by show (1:Int)≠0;decide,fun j hj=>by simp at hj,fun i _ _=>⟨A i,hb i,funext fun k=>(WN _ (A i) k).symm⟩,fh _,fun _ _=>by simp,pos,by show 1*jY 0 n G≤P;unfold jY;rw [Nat.one_mul];refine av (jy (vC fun i _=>?_)) hP;rw [y6]⟩
theorem gN.swap(h:gN P n M C R g G)(hs:C.length≤s)(sn:s<n)(e1:M' C.length=M s)(e2:M' s=M C.length)(e3:∀i,i≠C.length→i≠s→M' i=M i):gN P n M' C R g (jt G C.length s):=by
 refine ⟨h.sp,h.d0,fun j hj=>?_,fun i hi hn=>?_,h.len,h.bR,fun i=>?_,?_⟩;·rw [e3 j (by lia) (by lia)];exact h.oA j hj
 ·unfold jt
  by_cases z1:i=s;·rw [ak z1,z1,e2];exact h.aV _ (aI _) (by lia)
  ·rw [aj z1]
   by_cases z2:i=C.length;·rw [ak z2,z2,e1];exact h.aV s hs sn
   ·rw [aj z2,e3 i z2 z1];exact h.aV i hi hn
 ·unfold jt
  split
  ·exact h.pos _
  ·split
   ·exact h.pos _
   ·exact h.pos _
 ·rw [WU (by lia) hs sn]
  exact h.zU
variable {i:Nat}
theorem gN.WX(h:gN P n M C R g G)(rn:C.length<n)(nc:c∉C)(hi:i<n)(ne:i≠C.length) :
  ∃g:Nat→Int,∀k,M C.length c*M i k-M i c*M C.length k=aJ C R*g k:=by
 obtain ⟨f,_,ef⟩:=h.aV _ (aI _) rn;by_cases z:i<C.length
 ·have e:=h.oA i z
  have ne':c≠C.reverse.getD i 0:=fun e=>nc (by
   rw [e];have hl:i<C.reverse.length:=by simpa using z
   rw [getD_at hl];exact BG.mp (aE hl))
  refine ⟨jX (c::C) (aU f R) (C.reverse.getD i 0),fun k=>?_⟩;rw [e,ef];exact Nu h.sp f ne' k
 ·obtain ⟨f',_,G5⟩:=h.aV i (by lia) hi
  refine ⟨iM (c::C) (aU f R) f',fun k=>?_⟩;rw [G5,ef];exact Nt h.sp f' f c k
theorem gN.step(h:gN P n M C R g G)(rn:C.length<n)(nc:c∉C)(np:M C.length c≠0)(eh:M' C.length=M C.length)
  (e:∀i k,i<n→i≠C.length→aJ C R*M' i k=M C.length c*M i k-M i c*M C.length k):∃R' g',gN P n M' (c::C) R' g' G∧aJ (c::C) R'=M C.length c:=by
 obtain ⟨f,bf,ef⟩:=h.aV _ (aI _) rn;have ep:aJ (c::C) (aU f R)=M C.length c:=by rw [ef];rfl
 have hp:aJ (c::C) (aU f R)≠0:=by rw [ep];exact np
 refine ⟨aU f R,zS (G C.length) g,⟨WM h.sp h.d0 hp,hp,fun j hj=>?_,fun i hi hn=>?_,rn,fun i k=>?_,h.pos,?_⟩,ep⟩
 ·rw [List.reverse_cons]
  by_cases z:j=C.length
  ·have g:(C.reverse++[c]).getD j 0=c:=by
    rw [z,dg,iQ (by simp)]
    simp
   rw [g,z,eh,ef];exact funext fun k=>(WR h.sp h.d0 f nc k).symm
  ·have cK:j<C.length:=by simp at hj;lia
   have hl:j<C.reverse.length:=by simpa using cK
   have g:(C.reverse++[c]).getD j 0=C.reverse.getD j 0:=by rw [dg,iS hl,←dg]
   rw [g];have ne':c≠C.reverse.getD j 0:=fun e=>nc (by rw [e,getD_at hl];exact BG.mp (aE hl))
   funext k
   have w:=e j k (by lia) z
   rw [h.oA j cK,ef,Nu h.sp f ne' k] at w;exact o9 h.d0 w
 ·have ne:i≠C.length:=by simp at hi;lia
  obtain ⟨f',WY,G5⟩:=h.aV i (by simp at hi;lia) hn
  refine ⟨f',WY,funext fun k=>?_⟩;have w:=e i k hn ne;rw [G5,ef,Nt h.sp f' f c k] at w;exact o9 h.d0 w
 ·cases i with
  | zero=>exact bf k
  | succ i=>exact h.bR i k
 ·rw [dN,zT,kZ,qE,←WT rn]
  exact h.zU
theorem NA(h:∀i,1≤g i):1≤jY r n g:=G3 fun i=>h (r+i)
theorem NB(h:∀i,1≤g i)(hi:r≤i)(hn:i<n):g i≤jY r n g:=by
 unfold jY;rw [←vD (n-r) (i-r) (fun j=>g (r+j)) (by lia)]
 rw [show r+(i-r)=i by lia]
 exact gC _ (G3 fun j=>by
  unfold setG
  split
  ·exact aI _
  ·exact h _)
theorem gN.bd(h:gN P n M C R g G)(hi:i<n)(k:Nat):(M i k).natAbs≤n*(cp n*P):=by
 by_cases z:i<C.length
 ·rw [h.oA i z]
  refine av (WS h.bR _ k) (bI h.len (bI (CL h.len) ?_));exact av (k6 _ (NA h.pos)) h.zU
 ·obtain ⟨f,bf,ef⟩:=h.aV i (by lia) hi
  rw [ef];have d:=CK (k::C) (aU f R) (zS (G i) g) fun j c=>by
   cases j with
   | zero=>exact bf c
   | succ j=>exact h.bR j c
  rw [dN,zT] at d;refine av d (av (bI (CL (show C.length+1≤n by lia)) ?_) (gC _ (by lia)))
  rw [jD];exact av (gO _ (NB h.pos (by lia) hi)) h.zU
theorem gN.G6(h:gN P n M C R g G)(n0:1≤n):(aJ C R).natAbs≤n*(cp n*P):=by refine av (CK C R g h.bR) (av (bI (CL h.len) ?_) (gC _ n0));exact av (k6 _ (NA h.pos)) h.zU
theorem gN.lead(h:gN P n M C R g G)(hj:j<C.length):M j (C.reverse.getD j 0)=aJ C R:=by
 have hl:j<C.reverse.length:=by simpa using hj
 rw [h.oA j hj,WO _ _ (by rw [getD_at hl];exact BG.mp (aE hl)),ak rfl]
structure pW (q:Int) (n:Nat):Prop where
 pX:n≤40
 l4:q=0→n≤4
def WZ(C:Addr):Sp:=fun vs H Q _=>∃(z:Addr) (q:Int) (n i:Nat),vs=[.ref z,.int (n:Int),.int (i:Int)]∧eJ C H z q∧az q∧n≤40∧i<n∧∀(r:Addr) (H':Hp),ag H H'→H r=none→GP H' q r (gZ n i)→Q (.ref r) H'
def W0(C:Addr):Sp:=fun vs H Q _=>∃(z:Addr) (q:Int) (n:Nat),vs=[.ref z,.int (n:Int)]∧eJ C H z q∧az q∧n≤40∧∀(r:Addr) (H':Hp),ag H H'→H r=none→CF H' q r ((List.range n).map (gZ n))→Q (.ref r) H'
end My
namespace L2
open PySem PySem.Spec PyProof.Rows
def W2(K:aL):R2:=fun x y H Q=>∃(a b:Addr) (xs ys:List Int),x=.ref a∧y=.ref b∧cu K H a (xs.map V.int)∧cu K H b (ys.map V.int)∧Q (.bl (!decide (xs=ys))) H
theorem W3{xs ys:List Int}(h:xs.length=ys.length):((List.range xs.length).all fun j=>zo (.int (xs.getD j 0)) (.int (ys.getD j 0)))=decide (xs=ys):=by
 by_cases e:xs=ys
 ·subst e
  rw [dr rfl,nB];intro j _;exact GG rfl
 ·rw [h_ e]
  cases z:((List.range xs.length).all fun j=>zo (.int (xs.getD j 0)) (.int (ys.getD j 0))) with
  | false=>rfl
  | true=>refine absurd (nI h fun j h1 h2=>?_) e;have:=nB.mp z j (e7.mpr h1);have this:(xs.getD j 0 == ys.getD j 0)=true:=this;rw [oZ,dg,dg] at this;simpa [h1,h2] using this
theorem NC{X:Cx}(hu:X.A.units+64<cLine):dE X (compareOp .NotEq) (W2 X.K):=by
 intro pins s σ H x y v u Q I rx ry h;obtain ⟨a,b,xs,ys,rfl,rfl,h1,h2,q⟩:=h;cases rx;cases ry;obtain ⟨us,r1,t1,_⟩:=I.list h1;obtain ⟨vs,r2,t2,_⟩:=I.list h2;have l1:=r1.length;have l2:=r2.length;rw [aY] at l1 l2;by_cases hl:xs.length=ys.length
 ·refine SeqAt.RcNeAt.lists (e:=fun j=>zo (.int (xs.getD j 0)) (.int (ys.getD j 0))) t1.isList t2.isList (by simp;lia) (by lia) (fun j z1 z2=>?_) _ _ _ _ ?_
  ·have Cw:j<us.length:=by simpa using z1
   have Cy:j<vs.length:=by simpa using z2
   have ex:(xs.map V.int)[j]?=some (.int (xs.getD j 0)):=by rw [bj,dg];simp [show j<xs.length by lia]
   have ey:(ys.map V.int)[j]?=some (.int (ys.getD j 0)):=by rw [bj,dg];simp [show j<ys.length by lia]
   obtain ⟨x',mB,rx⟩:=r1.get ex;obtain ⟨y',oq,ry⟩:=r2.get ey;have e1:us.toArray[j]=x':=by simpa using (aG.mp mB).2
   have e2:vs.toArray[j]=y':=by simpa using (aG.mp oq).2
   rw [e1,e2];exact F_ rx ry rfl rfl
  ·rw [show us.toArray.size=xs.length by simp;lia,W3 hl]
   exact ⟨.bl (!decide (xs=ys)),H,I,rfl,q⟩
 ·rw [h_ (fun e=>hl (by rw [e]))] at q
  refine SeqAt.RcNeAt.lists_lengths t1.isList t2.isList ?_ (by lia) _ _ _ _ ⟨.bl true,H,I,rfl,q⟩
  simp;lia
end L2
namespace My
open PySem L2
def ND(H:Hp)(a:Addr)(n W:Nat)(M:ax):Prop:=∃vs:List V,H a=some (.lst vs)∧vs.length=n∧∀(i:Nat) (v:V),vs[i]?=some v→∃x:Addr,v=.ref x∧H x=some (.lst (((List.range W).map (M i)).map V.int))
def jZ(H:Hp)(a l:Addr)(n W:Nat)(M:ax):Prop:=∃vs:List V,H a=some (.lst vs)∧vs.length=n∧a≠l∧∀(i:Nat) (v:V),vs[i]?=some v→∃x:Addr,v=.ref x∧x≠a∧x≠l∧H x=some (.lst (((List.range W).map (M i)).map V.int))
variable {H H':Hp} {a l:Addr} {n W:Nat} {M:ax}
theorem jZ.mono(h:jZ H a l n W M)(s:ag H H'):jZ H' a l n W M:=by obtain ⟨vs,e,l,ne,k⟩:=h;exact ⟨vs,s _ _ e,l,ne,fun i v hv=>by obtain ⟨x,e1,n1,n2,e2⟩:=k i v hv;exact ⟨x,e1,n1,n2,s _ _ e2⟩⟩
theorem jZ.rows(h:jZ H a l n W M):ND H a n W M:=by obtain ⟨vs,e,l,ne,k⟩:=h;exact ⟨vs,e,l,fun i v hv=>by obtain ⟨x,e1,n1,n2,e2⟩:=k i v hv;exact ⟨x,e1,e2⟩⟩
theorem jZ.off(h:jZ H a l n W M)(o:HO):jZ (upd H l o) a l n W M:=by obtain ⟨vs,e,l,ne,k⟩:=h;exact ⟨vs,by rw [bE ne];exact e,l,ne,fun i v hv=>by obtain ⟨x,e1,n1,n2,e2⟩:=k i v hv;exact ⟨x,e1,n1,n2,by rw [bE n2];exact e2⟩⟩
variable {c:Nat}
theorem pY(hc:c<W)(f:Nat→Int):d_ (((List.range W).map f).map V.int) (c:Int)=some (.int (f c)):=dA (by simp [hc])
def bZ(M:ax)(r s:Nat):Nat→Nat→Int:=fun i=>if i=s then M r else if i=r then M s else M i
def W4:Sp:=fun vs H Q _=>∃(a:Addr) (n W r c:Nat) (M:ax),vs=[.ref a,.int (r:Int),.int (c:Int)]∧ND H a n W M∧r≤n∧n≤100∧c<W∧(∀s,r≤s→s<n→M s c≠0→Q (.int (s:Int)) H)∧((∀s,r≤s→s<n→M s c=0)→Q .aV H)
def W5:Sp:=fun vs H Q _=>∃(a l:Addr) (n W r s:Nat) (M:ax),vs=[.ref a,.int (r:Int),.int (s:Int)]∧jZ H a l n W M∧(∃o,H l=some o)∧r<n∧s<n∧∀(b:Addr) (H':Hp),ag H H'→H b=none→jZ H' b l n W (bZ M r s)→Q (.ref b) H'
def W6(C:Addr):Sp:=fun vs H Q _=>∃(z a b:Addr) (q last:Int) (W c:Nat) (f g e:Nat→Int),vs=[.ref z,.ref a,.ref b,.int (c:Int),.int last]∧eJ C H z q∧az q∧H a=some (.lst (((List.range W).map f).map V.int))∧H b=some (.lst (((List.range W).map g).map V.int))∧c<W∧W≤100∧(∀k,k<W→cO (f k)∧cO (g k))∧cO last∧last≠0 ∧
 (q=0→∀k,k<W→g c*f k-f c*g k=last*e k)∧(q≠0→∀k,k<W→e k=(g c*f k-f c*g k) % q)∧∀(r:Addr) (H':Hp),ag H H'→H r=none→H' r=some (.lst (((List.range W).map e).map V.int))→Q (.ref r) H'
theorem G7(W:Nat)(f g:Nat→Int)(h:Int→Int→Int):((((List.range W).map f).zip ((List.range W).map g)).map fun ab=>h ab.1 ab.2)=(List.range W).map fun k=>h (f k) (g k):=by rw [List.zip_map',y7];rfl
theorem G8{K:aL}{wi:TI}{ρ:St→St}{te:TE}{σ:St}{Q:VK}{xs ys:List Int}(g:Int→Int→Int)(hn:xs.length≤500)
  (gM:∀R:It→Hp→Prop,(∀J H1,ag H H1→Cz J ((xs.map V.int).zip (ys.map V.int)) H1→R J H1)→wi σ H R)
  (step:∀x y,(x,y)∈xs.zip ys→∀(Hc:Hp) (R:VK),ag H Hc→(∀H3,ag Hc H3→R (.int (g x y)) H3)→te (some (.int x)::some (.int y)::ρ σ) Hc R)
  (fin:∀D Hc,H D=none→ag H Hc→Hc D=some (.lst (((xs.zip ys).map fun ab=>g ab.1 ab.2).map V.int))→Q (.ref D) Hc):vv K wi ρ (fun _ H Q=>Q true H) te σ H Q:=by
 have lz:((xs.map V.int).zip (ys.map V.int)).length=(xs.zip ys).length:=by simp [ko]
 have at':∀(i:Nat) (v u:V),((xs.map V.int).zip (ys.map V.int))[i]?=some (v,u)→∃x y,(xs.zip ys)[i]?=some (x,y)∧v=.int x∧u=.int y:=fun i v u e=>by
  obtain ⟨h1,h2⟩:=mh.mp e;rw [bj] at h1 h2;cases e1:xs[i]? with
  | none=>rw [e1] at h1;cases h1
  | some x=>
   cases e2:ys[i]? with
   | none=>rw [e2] at h2;cases h2
   | some y=>rw [e1] at h1;rw [e2] at h2;cases h1;cases h2;exact ⟨x,y,mh.mpr ⟨e1,e2⟩,rfl,rfl⟩
 refine vA (Z:=fun zs _=>zs=(xs.map V.int).zip (ys.map V.int)) (fun R h=>gM R fun J H1 s1 js=>h J H1 _ s1 js (by rw [lz,ko];exact cT (by lia)) rfl) (fun _ i v _=>∃x y,(xs.zip ys)[i]?=some (x,y)∧v=.int (g x y)) (fun _ _ _ _ _ _ h _ _=>h) ?_ ?_
 ·rintro zs H1 rfl s1 D i v u hi Hc R sc _ kc
  obtain ⟨x,y,e,rfl,rfl⟩:=at' i v u hi;exact step x y (o4 e) Hc R (s1.trans sc) fun H3 s3=>kc _ H3 s3 ⟨x,y,e,rfl⟩
 ·rintro zs H1 rfl s1 D vs Hc nD sc W7 hP eD
  have ey:vs=((xs.zip ys).map fun ab=>g ab.1 ab.2).map V.int:=ox (by rw [W7,lz,aY]) fun i v e=>by obtain ⟨x,y,e1,e2⟩:=hP i v e;exact ⟨g x y,by rw [bj,e1];rfl,e2⟩
  rw [ey] at eD;exact fin D Hc nD (s1.trans sc) eD
def W8(C:Addr):Sp:=fun vs H Q _=>∃(z a:Addr) (q:Int) (W c:Nat) (f:Nat→Int) (B:Nat),vs=[.ref z,.ref a,.int (c:Int)]∧eJ C H z q∧az q∧H a=some (.lst (((List.range W).map f).map V.int))∧c<W∧W≤100∧¬q∣f c∧cO (f c)∧(∀k,k<W→(f k).natAbs≤B) ∧
 ∀(r:Addr) (ps:a_) (H':Hp),ag H H'→H r=none→bC B H' q r ps→ps.length=W→(∀i,i<W→aX q (ps.getD i o1) (f i,f c))→Q (.ref r) H'
def aT(B:Nat)(H:Hp)(q:Int)(a:Addr)(aa:aD):Prop:=∃vs:List V,H a=some (.lst vs)∧vs.length=aa.length∧∀(i:Nat) (v:V) (ps:a_),vs[i]?=some v→aa[i]?=some ps→∃r:Addr,v=.ref r∧bC B H q r ps
variable {q:Int} {aa:aD}
theorem CF.b(h:CF H q a aa):aT (10 ^ 60) H q a aa:=h
variable {B:Nat}
theorem aT.mono(h:aT B H q a aa)(s:ag H H'):aT B H' q a aa:=by obtain ⟨vs,e,l,k⟩:=h;exact ⟨vs,s _ _ e,l,fun i v ps h1 h2=>by obtain ⟨r,e1,e2⟩:=k i v ps h1 h2;exact ⟨r,e1,e2.mono s⟩⟩
variable {B':Nat}
theorem aT.weak(h:aT B H q a aa)(hb:B≤B'):aT B' H q a aa:=by obtain ⟨vs,e,l,k⟩:=h;exact ⟨vs,e,l,fun i v ps h1 h2=>by obtain ⟨r,e1,e2⟩:=k i v ps h1 h2;exact ⟨r,e1,e2.weak hb⟩⟩
def W9(N:Addr):Sp:=fun vs H Q E=>∃(a:Addr) (q:Int) (B:Nat) (aa:aD) (m:Nat),vs=[.ref a]∧aT B H q a aa∧1≤aa.length∧aa.length≤40∧(∀ps∈aa,ps.length=m)∧∀H',ag H H'→Q (.int (m:Int)) H'
def W_(N:Addr):Sp:=fun vs H Q E=>∃(a:Addr) (q:Int) (B:Nat) (aa:aD) (m:Nat),vs=[.ref a]∧aT B H q a aa∧1≤aa.length∧aa.length≤40∧(∀ps∈aa,ps.length=m)∧(m≠aa.length→∀H',ag H H'→E (.ref N) none H')∧(m=aa.length→∀H',ag H H'→Q (.int (m:Int)) H')
def Xa:Sp:=fun vs H Q _=>∃(a b:Addr) (q:Int) (B:Nat) (aa af:aD) (m u:Nat),vs=[.ref a,.ref b]∧aT B H q a aa∧aT B H q b af∧aa.length=af.length∧aa.length≤40∧(∀ps∈aa,ps.length=m)∧(∀ps∈af,ps.length=u)∧m≤40∧u≤40∧∀(r:Addr) (H':Hp),ag H H'→H r=none→aT B H' q r (List.zipWith (·++·) aa af)→Q (.ref r) H'
def b5(q:Int)(E:Nat)(ps:a_):Prop:=∃(D:Int) (x:Nat→Int),aH q D∧D.natAbs≤E∧(∀p∈ps,p.2∣D)∧∀i,i<ps.length→(ps.getD i o1).1*D=x i*(ps.getD i o1).2∧(x i).natAbs≤E
variable {D x:Int} {E:Nat}
theorem Xb{t u m b:Int}(e1:t*m=u*b)(e2:u*D=x*m)(hb:b∣D)(m0:m≠0)(b0:b≠0)(D0:D≠0)(hx:x.natAbs≤E):t.natAbs≤E:=by
 obtain ⟨e,rfl⟩:=hb;have e0:e≠0:=fun z=>D0 (by rw [z,cG])
 have h:m*(b*(t*e))=m*(b*x):=by
  have:t*m*(b*e)=u*b*(b*e):=by rw [e1]
  have:b*(u*(b*e))=b*(x*m):=by rw [e2]
  grind
 have h:=o9 b0 (o9 m0 h);refine av ?_ hx;rw [←h,bT];exact k6 _ (jF.mpr e0)
theorem NF:∀(n m:Nat) (f:Nat→Int),ai (n+m) f=ai n f+ai m fun i=>f (n+i)
 | 0,m,f=>by rw [y6,show ai 0 f=0 from rfl,mj];exact cQ fun i _=>by rw [y6]
 | n+1,m,f=>by
  rw [show n+1+m=(n+m)+1 by lia]
  show f 0+ai (n+m) (fun i=>f (i+1))=(f 0+ai n fun i=>f (i+1))+_;rw [NF n m fun i=>f (i+1),Int.add_assoc]
  congr 2
  exact cQ fun i _=>by rw [show n+i+1=n+1+i by lia]
theorem G9(k:Nat):∀(n:Nat) (f:Nat→Int),ai (n*k) f=ai n fun i=>ai k fun j=>f (i*k+j)
 | 0,f=>by rw [Nat.zero_mul];rfl
 | n+1,f=>by
  rw [show (n+1)*k=k+n*k by rw [ib,Nat.add_comm],NF,G9 k n]
  show _=(ai k fun j=>f (0*k+j))+ai n fun i=>ai k fun j=>f ((i+1)*k+j)
  congr 1
  ·exact cQ fun j _=>by rw [Nat.zero_mul,y6]
  ·exact cQ fun i _=>cQ fun j _=>by rw [ib,show k+(i*k+j)=i*k+k+j by lia]
theorem Xc(n k:Nat)(F:ax):ai (n*k) (fun i=>F (i / k) (i % k))=ai n fun i=>ai k fun j=>F i j:=by rw [G9];exact cQ fun i _=>cQ fun j hj=>by rw [lY hj,mS hj]
theorem Xd(n k:Nat)(f g:Nat→Int):ai (n*k) (fun i=>f (i / k)*g (i % k))=ai n f*ai k g:=by rw [Xc n k fun i j=>f i*g j,fi,cm];exact cQ fun i _=>by rw [←cm,fi]
theorem G_(n k:Nat)(a c b d:Nat→Int):ai (n*k) (fun i=>(a (i / k)*b (i % k))*(c (i / k)*d (i % k)))=(ai n fun i=>a i*c i)*ai k fun j=>b j*d j:=by rw [←Xd n k (fun i=>a i*c i) fun j=>b j*d j];exact cQ fun i _=>by rw [kn,kn,←kn (b _),fi (b _) (c _),kn (c _)]
variable {i j k:Nat}
theorem Xe:(i / k=j / k∧i % k=j % k)↔i=j:=by
 refine ⟨fun h=>?_,fun h=>by rw [h];exact ⟨rfl,rfl⟩⟩
 rw [←mq i k,←mq j k,h.1,h.2]
def b6(q:Int)(N M:Nat)(f:Nat→Nat→Int×Int)(A:ax)(D:Int):Prop:=aH q D∧∀i j,i<N→j<M→aX q (f i j) (A i j,D)
def atT(aa:aD)(i j:Nat):Int×Int:=(aa.getD i []).getD j o1
theorem NG{a b D1 D2:Int}{p r:Int×Int}(h1:aX q p (a,D1))(h2:aX q r (b,D2)):aX q (pQ p r) (a*b,D1*D2):=by obtain ⟨k1,e1⟩:=h1;obtain ⟨k2,e2⟩:=h2;dsimp only at e1 e2;refine ⟨k1*(r.1*D2)+a*p.2*k2,?_⟩;show p.1*r.1*(D1*D2)-a*b*(p.2*r.2)=_;grind
theorem Xf{N M:Nat}(hb:∀ps∈aa,∀p∈ps,aH q p.2)(hN:aa.length=N)(hM:∀ps∈aa,ps.length=M):∃(A:ax) (D:Int),b6 q N M (atT aa) A D:=by obtain ⟨D,A,h1,h2⟩:=WA hb hN hM;exact ⟨A,D,h1,h2⟩
def Xg(q:Int)(M:Nat)(g:Nat→Int×Int)(A:Nat→Int)(D:Int):Prop:=aH q D∧∀j,j<M→aX q (g j) (A j,D)
structure g9 (q:Int) (P n W:Nat) (A M:ax) (L:List Nat) (last:Int) (cur:Nat):Prop where
 rd:d6 q n A M L cur
 bar:q=0→∃R g G,gN P n M L.reverse R g G∧last=aJ L.reverse R
 rem:q≠0→∀i k,i<n→k<W→0≤M i k∧M i k<q
 lq:q≠0→0<last∧last<q
 zV:1000≤n*(cp n*P)
 mid:n*(cp n*P)<2 ^ 2048
 n1:1≤n
variable {P cur:Nat} {A:ax} {L:List Nat}
theorem g9.bd{last:Int}(h:g9 q P n W A M L last cur)(hq:az q)(hi:i<n)(hk:k<W):(M i k).natAbs≤n*(cp n*P):=by
 by_cases z:q=0
 ·obtain ⟨R,g,G,b,_⟩:=h.bar z
  exact b.bd hi k
 ·have:=h.rem z i k hi hk
  have:=h.zV;have:q≤997:=by rcases hq with h | h <;> lia
  lia
theorem g9.last{last:Int}(h:g9 q P n W A M L last cur)(hq:az q):cO last∧last≠0:=by
 by_cases z:q=0
 ·obtain ⟨R,g,G,b,e⟩:=h.bar z
  exact ⟨by rw [e];exact dD (b.G6 h.n1) h.mid,by rw [e];exact b.d0⟩
 ·have:=h.lq z
  have:q≤997:=by rcases hq with h | h <;> lia
  exact ⟨cO.of_lt (by lia) (by lia),by lia⟩
theorem g9.start(hq:az q){G:Nat→Nat}(hb:∀i k,(A i k).natAbs≤G i)(pos:∀i,1000≤G i)(hP:cq n G≤P)(hm:n*(cp n*P)<2 ^ 2048)(n1:1≤n)(hr:q≠0→∀i k,i<n→k<W→0≤A i k∧A i k<q):g9 q P n W A A [] 1 0:=
 ⟨d6.start hq n A,fun _=>⟨_,_,_,gN.start A hb (fun i=>av (by decide) (pos i)) hP,rfl⟩,hr,fun z=>by
  rcases hq with h | h;·exact absurd h z
  ·lia,by
  have p1:1000≤cq n G:=by
   have:=NB (r:=0) (n:=n) (i:=0) (g:=G) (fun i=>av (by decide) (pos i)) (aI _) (by lia)
   unfold jY at this;rw [Nat.sub_zero,show (fun i=>G (0+i))=G from funext fun i=>by rw [y6]] at this
   exact av (pos 0) this
  exact av (av p1 hP) (av (gC _ (Nw n)) (gC _ n1)),hm,n1⟩
theorem g9.skip{last:Int}(h:g9 q P n W A M L last cur)(z:∀s,L.length≤s→s<n→M s cur=0):g9 q P n W A M L last (cur+1):=
 ⟨h.rd.skip fun i hi hl=>Cg.of_eq (z i hl hi),h.bar,h.rem,h.lq,h.zV,h.mid,h.n1⟩
theorem NH(hq:az q)(h:q≠0→0≤x∧x<q)(n:x≠0):¬q∣x:=fun d=>by
 rcases hq with rfl | ⟨h2,_⟩;·exact n (kY.mp d)
 ·have:=h (by lia)
  have:=yW (by lia) d
  lia
theorem g9.next(hq:az q){last:Int}{s:Nat}(h:g9 q P n W A M L last c)(cW:c<W)(hs:L.length≤s)(sn:s<n)(ns:M s c≠0) :
  ∃Ef:Nat→Nat→Int,(∀i,i<n→(q=0→∀k,bZ M L.length s L.length c*bZ M L.length s i k-bZ M L.length s i c*bZ M L.length s L.length k=last*Ef i k)∧(q≠0→∀k,Ef i k=(bZ M L.length s L.length c*bZ M L.length s i k-bZ M L.length s i c*bZ M L.length s L.length k) % q)) ∧
   g9 q P n W A (fun i=>if i=L.length then bZ M L.length s L.length else Ef i) (L++[c]) (bZ M L.length s L.length c) (c+1):=by
 have e1:bZ M L.length s L.length=M s:=by
  unfold bZ;by_cases z:L.length=s;·rw [ak z,z]
  ·rw [aj z,ak rfl]
 have e2:bZ M L.length s s=M L.length:=ak rfl;have e3:∀i,i≠L.length→i≠s→bZ M L.length s i=M i:=fun i z1 z2=>by unfold bZ;rw [aj z2,aj z1]
 have rd:=h.rd.swap hq hs sn e1 e2 e3;have CO:q≠0→∀i k,i<n→k<W→0≤bZ M L.length s i k∧bZ M L.length s i k<q:=fun z i k hi hk=>by
  unfold bZ
  split
  ·exact h.rem z _ k (by lia) hk
  ·split
   ·exact h.rem z _ k sn hk
   ·exact h.rem z _ k hi hk
 have rn:L.length<n:=by lia
 have lr:L.reverse.length=L.length:=by simp
 have nc:c∉L.reverse:=fun z=>by have:=h.rd.lt c (BG.mp z);lia
 have Hh:q=0→∃R g G,gN P n (bZ M L.length s) L.reverse R g G∧last=aJ L.reverse R:=fun z=>by obtain ⟨R,g,G,b,e⟩:=h.bar z;exact ⟨R,g,_,b.swap (s:=s) (by rw [lr];exact hs) sn (by rw [lr];exact e1) (by rw [lr];exact e2) (by rw [lr];exact e3),e⟩
 rw [←e1] at ns;generalize bZ M L.length s=M1 at e1 rd CO Hh ns ⊢;have ex:∀i,∃g:Nat→Int,i<n→(q=0→∀k,M1 L.length c*M1 i k-M1 i c*M1 L.length k=last*g k)∧(q≠0→∀k,g k=(M1 L.length c*M1 i k-M1 i c*M1 L.length k) % q):=fun i=>by
  by_cases z:q=0
  ·by_cases hi:i<n
   ·by_cases ne:i=L.length
    ·exact ⟨fun _=>0,fun _=>⟨fun _ k=>by rw [ne,cG];lia,fun y=>absurd z y⟩⟩
    ·obtain ⟨R,g,G,b,e⟩:=Hh z
     obtain ⟨f,hf⟩:=b.WX (by rw [lr];exact rn) nc hi (by rw [lr];exact ne)
     rw [lr] at hf;exact ⟨f,fun _=>⟨fun _ k=>by rw [e];exact hf k,fun y=>absurd z y⟩⟩
   ·exact ⟨fun _=>0,fun y=>absurd y hi⟩
  ·exact ⟨fun k=>(M1 L.length c*M1 i k-M1 i c*M1 L.length k) % q,fun _=>⟨fun y=>absurd y z,fun _ _=>rfl⟩⟩
 obtain ⟨Ef,sp⟩:∃Ef:Nat→Nat→Int,∀i,i<n→(q=0→∀k,M1 L.length c*M1 i k-M1 i c*M1 L.length k=last*Ef i k)∧(q≠0→∀k,Ef i k=(M1 L.length c*M1 i k-M1 i c*M1 L.length k) % q):=⟨fun i=>Classical.choose (ex i),fun i hi=>Fz (ex i) hi⟩;refine ⟨Ef,sp,?_⟩;have np:¬q∣M1 L.length c:=NH hq (fun z=>CO z _ c rn cW) ns;have eh:(fun i=>if i=L.length then M1 L.length else Ef i) L.length=M1 L.length:=ak rfl
 have en:∀i,i≠L.length→(fun i=>if i=L.length then M1 L.length else Ef i) i=Ef i:=fun i z=>aj z
 generalize (fun i=>if i=L.length then M1 L.length else Ef i)=M2 at eh en ⊢
 have ll:=h.last hq;refine ⟨?_,fun z=>?_,fun z i k hi hk=>?_,fun z=>?_,h.zV,h.mid,h.n1⟩
 ·by_cases z:q=0
  ·refine rd.step hq (u:=last) rn (by rw [z];exact fun d=>ll.2 (kY.mp d)) np eh fun i k hi ne=>?_
   rw [en i ne];exact Cg.of_eq ((sp i hi).1 z k).symm
  ·refine rd.step hq (u:=1) rn (vE hq) np eh fun i k hi ne=>?_
   rw [en i ne,uV,(sp i hi).2 z k];exact zQ q _
 ·obtain ⟨R,g,G,b,e⟩:=Hh z
  obtain ⟨R',g',b',e'⟩:=b.step (M':=M2) (c:=c) (by rw [lr];exact rn) nc (by rw [lr];exact ns) (by rw [lr];exact eh) (fun i k hi ne=>by rw [lr] at ne ⊢;rw [en i ne,←e];exact ((sp i hi).1 z k).symm)
  rw [lr] at e';refine ⟨R',g',G,?_,?_⟩
  ·rw [List.reverse_append]
   exact b'
  ·rw [List.reverse_append]
   exact e'.symm
 ·by_cases ne:i=L.length
  ·rw [ne,eh]
   exact CO z _ k rn hk
  ·rw [en i ne,(sp i hi).2 z k]
   have q2:0<q:=by rcases hq with h | h <;> lia
   exact ⟨eE _ z,eW _ q2⟩
 ·have:=CO z _ c rn cW
  lia
theorem g9.NI{last:Int}(h:g9 q P n W A M L last cur)(z:q=0)(hj:j<L.length):M j (L.getD j 0)=last:=by
 obtain ⟨R,g,G,b,e⟩:=h.bar z;have:=b.lead (j:=j) (by simpa using hj)
 rw [List.reverse_reverse] at this;rw [this,e]
structure dm (q:Int) (P W:Nat) (aa:aD) (A M:ax) (c:Nat→Int) (L:List Nat) (last:Int) (af:aD):Prop where
 red:g9 q P aa.length W A M L last W
 bot:∀i,i<aa.length→aH q (c i)
 row:∀i k,i<aa.length→k<W→A i k*(atT aa i k).2=(atT aa i k).1*c i
 len:af.length=L.length
 g_:∀ps∈af,ps.length=W
 val:∀j k,j<L.length→k<W→aX q (atT af j k) (M j k,M j (L.getD j 0))
def aZ(L:List Nat):List V:=(L.map fun j:Nat=>(j:Int)).map V.int
theorem NJ(ts:List Int)(h:ts.length=W):(List.range W).map (fun k=>ts.getD k 0)=ts:=by
 subst h;refine nI (by simp) fun j h1 h2=>?_
 simp [dg,h2]
theorem oB{α:Type}[Inhabited α]{R:Nat→α→Prop}(h:∀i,i<n→∃x,R i x):∃f:Nat→α,∀i,i<n→R i (f i):=by
 refine ⟨fun i=>if hi:i<n then Classical.choose (h i hi) else default,fun i hi=>?_⟩
 dsimp only;rw [dif_pos hi];exact Fz (h i hi)
theorem Hi{b:Int}(h:aH q b):b≠0:=by
 by_cases z:q=0;·have:=h.1 z;lia
 ·have:=h.2 z;lia
structure zW (q:Int) (E W:Nat) (ps:a_) (ts:List Int) (b:Int):Prop where
 len:ts.length=W
 ok:aH q b
 eq:∀k,k<W→ts.getD k 0*(ps.getD k o1).2=(ps.getD k o1).1*b
 bd:∀k,(ts.getD k 0).natAbs≤E
 rem:q≠0→∀k,k<W→0≤ts.getD k 0∧ts.getD k 0<q
theorem NK{b:Int}{ps:a_}{ts:List Int}{x:Nat→Int}{r:Addr}(hq:az q)(wd:CJ q ps ts b D B')(hW:ps.length=W)(hr:bC B H q r ps)(hJ:aH q D)(hx:∀i,i<ps.length→(ps.getD i o1).1*D=x i*(ps.getD i o1).2∧(x i).natAbs≤E):zW q E W ps ts b:=by
 have iz:∀k,k<W→Canon q (ps.getD k o1)∧aH q (ps.getD k o1).2:=fun k hk=>by
  obtain ⟨vs,e,l,f⟩:=hr;have k1:k<vs.length:=by lia
  have k2:k<ps.length:=by lia
  have z:=f k vs[k] ps[k] (by simp [k1]) (by simp [k2])
  rw [getD_at k2];exact ⟨z.canon,z.bot hq⟩
 refine ⟨by rw [wd.len,hW],wd.ok,fun k hk=>(wd.each k (by lia)).1,fun k=>?_,fun z k hk=>?_⟩
 ·by_cases hk:k<W
  ·obtain ⟨h1,h2⟩:=hx k (by lia)
   exact Xb (wd.each k (by lia)).1 h1 wd.dvd (Hi (iz k hk).2) (Hi wd.ok) (Hi hJ) h2
  ·rw [l5 (by rw [wd.len];lia)]
   exact fh _
 ·obtain ⟨c1,c2⟩:=iz k hk
  obtain ⟨m1,m2,m3⟩:=c1.2 z;have e:=(wd.each k (by lia)).1
  rw [m1,wd.ok.2 z,iC,iC] at e;rw [e];exact ⟨m2,m3⟩
end My
namespace L2
open PySem PySem.Spec PyProof.Rows
theorem NL{X:Cx}{K:aL}(hK:X.K=K:=by rfl):F6 X (Me K):=by subst hK;exact F9
end L2
namespace My
open PySem L2
variable {q u x:Int}
theorem oC{y:Int}(hq:az q)(nu:¬q∣u)(h:Cg q (u*x) (u*y)):Cg q x y:=by
 have z:Cg q (u*(x-y)) 0:=by have:=h.sub (Cg.refl (u*y));rw [Int.sub_self] at this;exact (Cg.of_eq (by rw [Int.mul_sub])).trans this
 have z:=fT hq nu z;have:=z.add (Cg.refl y);exact (Cg.of_eq (by lia)).trans (this.trans (Cg.of_eq (by lia)))
theorem NM(n:Nat)(f g:Nat→Int):ai n (fun i=>f i-g i)=ai n f-ai n g:=by
 rw [show (fun i=>f i-g i)=fun i=>f i + -1*g i from funext fun i=>by lia,oz,←cm]
 lia
theorem Xh:∀{L:List Nat},L.Pairwise (· < ·)→∀j,j<L.length→j≤L.getD j 0:=fun{L} h j=>by
 induction j with
 | zero=>intro _;exact fh _
 | succ j ih=>
  intro hj;have h1:=ih (by lia)
  have h2:=BH.mp h j (j+1) (by lia) hj (by lia)
  rw [getD_at (by lia)] at h1
  rw [getD_at hj];lia
variable {L:List Nat} {i j:Nat}
theorem pZ(h:L.Pairwise (· < ·))(FQ:i<j)(hj:j<L.length):L.getD i 0<L.getD j 0:=by
 rw [getD_at (by lia),getD_at hj]
 exact BH.mp h i j (by lia) hj FQ
variable {n:Nat}
theorem Xi(h:L.Pairwise (· < ·))(hl:L.length≤n)(all:∀c,c<n→c∈L):L=List.range n:=by
 have at':∀j,j<n→j<L.length∧L.getD j 0=j:=fun j=>by
  induction j using Nat.strongRecOn with
  | _ j ih=>
   intro hj;obtain ⟨t,ht,e⟩:=gQ.mp (all j hj);have tj:j≤t:=by
    refine o_ fun z=>?_;have:=(ih t (by lia) (by lia)).2
    rw [getD_at ht] at this;lia
   have jl:j<L.length:=by lia
   refine ⟨jl,?_⟩;have h1:=Xh h j jl;by_cases z:t=j;·subst z;rw [getD_at ht];exact e
   ·have:=pZ h (show j<t by lia) ht
    rw [getD_at (show t<L.length from ht)] at this;lia
 have ln:L.length=n:=by
  refine o_ fun z=>?_;have:=(at' L.length (by lia)).1
  lia
 refine nI (by simp [ln]) fun j h1 h2=>?_
 have:=(at' j (by lia)).2
 rw [getD_at h1] at this;rw [List.getElem_range];exact this
theorem NN(n m:Nat)(hm:m<n)(f x:Nat→Int)(p v:Int)(x0:x m=0):(ai n fun k=>f k*(if k=m then v else p*x k))=p*(ai n fun k=>f k*x k)+f m*v:=by
 have e:(fun k=>f k*(if k=m then v else p*x k))=fun k=>p*(f k*x k)+(if k=m then f k*v else 0):=funext fun k=>by
  by_cases z:k=m;·rw [ak z,ak z,z,x0];grind
  ·rw [aj z,aj z];grind
 rw [e,oz,←cm,jW n m (fun k=>f k*v) hm]
variable {W:Nat} {A M:ax}
theorem d6.q_(hq:az q)(h:d6 q n A M L W)(nW:n≤W)(ne:L≠List.range n):∃(x:Nat→Int) (c:Nat),c<n∧¬q∣x c∧∀t,t<n→Cg q (ai n fun k=>A t k*x k) 0:=by
 obtain ⟨c,cn,cL⟩:∃c,c<n∧c∉L:=o_ fun z=>ne (Xi h.up h.len fun c hc=>o_ fun y=>z ⟨c,hc,y⟩);have mem:∀j,j<L.length→L.getD j 0∈L:=fun j hj=>by rw [getD_at hj];exact aE _
 have main:∀m,m≤L.length→∃x:Nat→Int,¬q∣x c∧(∀k,k≠c→(∀j,j<m→k≠L.getD j 0)→x k=0)∧∀j,j<m→Cg q (ai n fun k=>M j k*x k) 0:=fun m=>by
  induction m with
  | zero=>exact fun _=>⟨fun k=>if k=c then 1 else 0,by dsimp only;rw [ak rfl];exact vE hq,fun k hk _=>aj hk,fun j hj=>by lia⟩
  | succ m ih=>
   intro hm;obtain ⟨x,h1,h2,h3⟩:=ih (by lia)
   by_cases lm:L.getD m 0<n
   ·have lc:L.getD m 0≠c:=fun e=>cL (e▸mem m (by lia))
    have x0:x (L.getD m 0)=0:=h2 _ lc fun j hj e=>by
     have:=pZ h.up hj (by lia)
     lia
    refine ⟨fun k=>if k=L.getD m 0 then -(ai n fun k=>M m k*x k) else M m (L.getD m 0)*x k,?_,fun k hk hj=>?_,fun j hj=>?_⟩
    ·dsimp only
     rw [aj (Ne.symm lc)];exact iL hq (h.lead m (by lia)) h1
    ·dsimp only
     rw [aj (hj m (by lia)),h2 k hk fun j cK=>hj j (by lia),cG]
    ·rw [NN n _ lm (M j) x _ _ x0]
     by_cases e:j=m
     ·subst e
      exact Cg.of_eq (by grind)
     ·have a:=(h3 j (by lia)).mulL (M m (L.getD m 0))
      have b:=(h.off j m (by have:=h.len;lia) (by lia) e).mulR (-(ai n fun k=>M m k*x k))
      exact (a.add b).trans (Cg.of_eq (by simp))
   ·refine ⟨x,h1,fun k hk hj=>h2 k hk fun j cK=>hj j (by lia),fun j hj=>?_⟩
    by_cases e:j=m
    ·subst e
     have:=dB (q:=q) (n:=n) (f:=fun k=>M j k*x k) (g:=fun _=>0) fun k hk=>by
      have:=(h.vG j k (by lia) (by lia)).mulR (x k)
      rw [iT] at this;exact this
     rw [gg] at this;exact this
    ·exact h3 j (by lia)
 obtain ⟨x,h1,_,h3⟩:=main L.length (aI _);have all:∀i,i<n→Cg q (ai n fun k=>M i k*x k) 0:=fun i hi=>by
  by_cases z:i<L.length;·exact h3 i z
  ·have:=dB (q:=q) (n:=n) (f:=fun k=>M i k*x k) (g:=fun _=>0) fun k hk=>by
    have:=(h.low i k hi (by lia) (by lia)).mulR (x k)
    rw [iT] at this;exact this
   rw [gg] at this;exact this
 refine ⟨x,c,cn,h1,fun t ht=>?_⟩;obtain ⟨e,y,ne',hy⟩:=h.ofM t ht;refine fT hq ne' ?_;have s1:Cg q (e*ai n fun k=>A t k*x k) (ai n fun k=>(ai n fun i=>y i*M i k)*x k):=by rw [cm];exact dB fun k _=>(Cg.of_eq (by grind)).trans ((hy k).mulR (x k))
 refine s1.trans ?_;rw [CI n n (fun i=>y i) (fun i k=>M i k) x];have:=dB (q:=q) (n:=n) (f:=fun l=>y l*ai n fun j=>M l j*x j) (g:=fun _=>0) fun l hl=>by have:=(all l hl).mulL (y l);rw [cG] at this;exact this
 rw [gg] at this;exact this
variable {a D:Int} {p:Int×Int}
theorem Hj{c t:Int}(hq:az q)(e:a*p.2=p.1*c)(w:aX q p (t,D))(ok:aH q p.2):Cg q (t*c) (a*D):=by
 refine oC hq (ok.nz hq) ?_;obtain ⟨k,ek⟩:=w;dsimp only at ek;refine ⟨-(c*k),?_⟩;have:p.2*(a*D)=p.1*c*D:=by rw [←e];grind
 grind
variable {m E:Int}
theorem Hk{f:Int}(hq:az q)(v:aX q p (m,u))(w:aX q p (f,E))(ok:aH q p.2):Cg q (f*u) (m*E):=by refine oC hq (ok.nz hq) ?_;obtain ⟨k,ek⟩:=w;obtain ⟨k2,GS⟩:=v;dsimp only at ek GS;exact ⟨E*k2-u*k,by grind⟩
def NO(q:Int)(n:Nat)(A:ax)(D:Int)(F:ax)(E:Int):Prop:=∀j k,j<n→k<n→Cg q (ai n fun i=>F j i*A i k) (if j=k then D*E else 0)∧Cg q (ai n fun i=>A j i*F i k) (if j=k then D*E else 0)
variable {T:ax} {c:Nat→Int}
theorem d6.inv(hq:az q){F:ax}(h:d6 q n A M (List.range n) W)(hW:n+n≤W)(hc:∀i,i<n→¬q∣c i)
  (hT:∀i k,i<n→k<n→Cg q (T i k*c i) (A i k*D)) (hU:∀i k,i<n→k<n→A i (n+k)=if k=i then c i else 0) (hF:∀j k,j<n→k<n→Cg q (F j k*M j j) (M j (n+k)*E)):NO q n T D F E:=by
 have gr:∀j,j<n→(List.range n).getD j 0=j:=fun j hj=>by
  rw [getD_at (by simpa using hj)]
  simp
 have ld:∀j,j<n→¬q∣M j j:=fun j hj=>by
  have:=h.lead j (by simpa using hj)
  rw [gr j hj] at this;exact this
 have Xj:∀i j,i<n→j<n→i≠j→Cg q (M i j) 0:=fun i j hi hj ne=>by
  have:=h.off i j hi (by simpa using hj) ne
  rw [gr j hj] at this;exact this
 intro j k hj hk;constructor
 ·obtain ⟨e,x,ne,hx⟩:=h.q8 j hj
  have Xk:∀i,i<n→Cg q (e*M j (n+i)) (x i*c i):=fun i hi=>(hx (n+i)).trans (Cg.of_eq (by
   rw [cQ (g:=fun t=>if t=i then x t*c t else 0) fun t ht=>by
    rw [hU t i ht hi];by_cases z:t=i;·rw [ak z,ak z.symm]
    ·rw [aj z,aj (Ne.symm z),cG]]
   rw [jW n i (fun t=>x t*c t) hi]))
  refine oC hq (iL hq ne (ld j hj)) ?_;have s1:Cg q (e*M j j*ai n fun i=>F j i*T i k) (ai n fun i=>x i*A i k*(D*E)):=by rw [cm];refine dB fun i hi=>?_;have a:=(hF j i hj hi).mulR (e*T i k);have b:=(Xk i hi).mulR (E*T i k);have d:=(hT i k hi hk).mulR (E*x i);refine (Cg.of_eq (by grind)).trans (a.trans ((Cg.of_eq (by grind)).trans (b.trans ((Cg.of_eq (by grind)).trans (d.trans (Cg.of_eq (by grind)))))))
  refine s1.trans ?_;have s2:(ai n fun i=>x i*A i k*(D*E))=D*E*ai n fun i=>x i*A i k:=by rw [cm];exact cQ fun i _=>by grind
  rw [s2];refine ((hx k).symm.mulL (D*E)).trans ?_;by_cases z:j=k
  ·subst z
   rw [ak rfl];exact Cg.of_eq (by grind)
  ·rw [aj z,cG]
   have:=((Xj j k hj hk z).mulL (D*E*e));rw [cG] at this;exact (Cg.of_eq (by grind)).trans this
 ·obtain ⟨e,y,ne,h1,h2⟩:=h.done hj
  rw [fH] at h1 h2;refine oC hq (iL hq ne (hc j hj)) ?_;have s1:Cg q (e*c j*ai n fun i=>T j i*F i k) (ai n fun i=>D*E*(y i*M i (n+k))):=by rw [cm];refine dB fun i hi=>?_;have a:=(hT j i hj hi).mulR (e*F i k);have b:=(h2 i hi).mulR (D*F i k);rw [gr i hi] at b;have d:=(hF i k hi hk).mulR (D*y i);refine (Cg.of_eq (by grind)).trans (a.trans ((Cg.of_eq (by grind)).trans (b.trans ((Cg.of_eq (by grind)).trans (d.trans (Cg.of_eq (by grind)))))))
  refine s1.trans ?_;rw [←cm];refine ((h1 (n+k) (by lia)).symm.mulL (D*E)).trans ?_
  rw [hU j k hj hk];by_cases z:k=j
  ·rw [ak z,ak z.symm]
   exact Cg.of_eq (by grind)
  ·rw [aj z,aj (Ne.symm z)]
   exact Cg.of_eq (by grind)
def rf(B:Nat)(H0 H:Hp)(q:Int)(r:Addr)(af:aD):Prop:=∃vs:List V,H r=some (.lst vs)∧vs.length=af.length∧H0 r=none∧∀(i:Nat) (v:V) (ps:a_),vs[i]?=some v→af[i]?=some ps→∃x:Addr,v=.ref x∧x≠r∧H0 x=none∧bC B H q x ps
variable {B:Nat} {H:Hp} {r:Addr} {af:aD}
theorem rf.b{H0:Hp}(h:rf B H0 H q r af):aT B H q r af:=by obtain ⟨vs,e,l,_,f⟩:=h;exact ⟨vs,e,l,fun i v ps h1 h2=>by obtain ⟨x,e1,_,_,e2⟩:=f i v ps h1 h2;exact ⟨x,e1,e2⟩⟩
theorem aT.each(h:aT B H q r af):∀ps∈af,∃x,bC B H q x ps:=fun ps hp=>by
 obtain ⟨vs,e,l,f⟩:=h;obtain ⟨i,hi,e2⟩:=gQ.mp hp;have h1:i<vs.length:=by lia
 obtain ⟨x,_,e3⟩:=f i vs[i] ps (by simp [h1]) (by simp [hi,e2])
 exact ⟨x,e3⟩
variable {ps:a_}
theorem bC.nums{a:Addr}(h:bC B H q a ps)(hq:az q):∀p∈ps,Canon q p∧aH q p.2∧∃v,cD B H q v p.1 p.2:=fun p hp=>by
 obtain ⟨vs,e,l,f⟩:=h;obtain ⟨i,hi,e2⟩:=gQ.mp hp;have h1:i<vs.length:=by lia
 have z:=f i vs[i] p (by simp [h1]) (by simp [hi,e2])
 exact ⟨z.canon,z.bot hq,_,z⟩
theorem aT.nums(h:aT B H q r af)(hq:az q):∀ps∈af,∀p∈ps,Canon q p∧aH q p.2∧∃v,cD B H q v p.1 p.2:=fun ps hp=>by obtain ⟨x,hx⟩:=h.each ps hp;exact hx.nums hq
theorem Xl{E:Nat}(h:b5 q E ps):b5 q E (ps++gZ n i):=by
 obtain ⟨D,x,ok,bD,dv,hx⟩:=h;refine ⟨D,fun k=>if k<ps.length then x k else if k-ps.length=i then D else 0,ok,bD,fun p hp=>?_,fun k hk=>?_⟩
 ·rcases uJ.mp hp with z | z
  ·exact dv p z
  ·have e:p.2=1:=by
    obtain ⟨j,hj,e⟩:=gQ.mp z;have:=CH (n:=n) (i:=i) (j:=j) (by rw [←vz (n:=n) (i:=i)];exact hj)
    rw [getD_at hj,e] at this;rw [this]
   rw [e];exact Int.one_dvd _
 ·dsimp only
  by_cases z:k<ps.length
  ·rw [ak z]
   have:(ps++gZ n i).getD k o1=ps.getD k o1:=by rw [dg,iS z,←dg]
   rw [this];exact hx k z
  ·rw [aj z]
   have fJ:k-ps.length<n:=by rw [ni,vz] at hk;lia
   have:(ps++gZ n i).getD k o1=(gZ n i).getD (k-ps.length) o1:=by rw [dg,iQ (by lia),←dg]
   rw [this,CH fJ];by_cases y:k-ps.length=i
   ·rw [ak y,ak y]
    exact ⟨by dsimp only;lia,bD⟩
   ·rw [aj y,aj y]
    exact ⟨by dsimp only;lia,fh _⟩
def zX(n:Nat):List (List (Int×Int)):=(List.range n).map (gZ n)
def j6(n:Nat)(aa:aD):List (List (Int×Int)):=List.zipWith (·++·) aa (zX n)
variable {aa:aD}
theorem oE(h:aa.length=n):(j6 n aa).length=n:=by unfold j6 zX;rw [y8,aY,fH];lia
theorem CP(h:aa.length=n)(hi:i<n):(j6 n aa).getD i []=aa.getD i []++gZ n i:=by
 unfold j6 zX;rw [dg,BI];have h1:i<aa.length:=by lia
 rw [getD_at h1];simp [h1,hi]
variable {k:Nat}
theorem Xm(h:aa.length=n)(hm:∀ps∈aa,ps.length=n)(hi:i<n)(hk:k<n):atT (j6 n aa) i k=atT aa i k:=by
 unfold atT;rw [CP h hi];have l:(aa.getD i []).length=n:=by
  rw [getD_at (by lia)]
  exact hm _ (aE _)
 rw [dg,iS (by lia),←dg]
theorem Xn(h:aa.length=n)(hm:∀ps∈aa,ps.length=n)(hi:i<n)(hk:k<n):atT (j6 n aa) i (n+k)=((if k=i then 1 else 0:Int),(1:Int)):=by
 unfold atT;rw [CP h hi];have l:(aa.getD i []).length=n:=by
  rw [getD_at (by lia)]
  exact hm _ (aE _)
 rw [dg,iQ (by lia),←dg,l,Nat.add_sub_cancel_left,CH hk]
theorem Xo(h:aa.length=n)(hm:∀ps∈aa,ps.length=n):∀ps∈j6 n aa,ps.length=n+n:=fun ps hp=>by
 obtain ⟨i,hi,e⟩:=gQ.mp hp;have aR:i<n:=by rw [←oE h];exact hi
 have z:=CP h aR;rw [getD_at hi,e] at z;rw [z,ni,vz,getD_at (by lia),hm _ (aE _)]
def Hl(q:Int)(n:Nat)(aa:aD):Prop:=∃(x:Nat→Int) (c:Nat),c<n∧¬q∣x c∧∀T D,b6 q n n (atT aa) T D→∀i,i<n→Cg q (ai n fun k=>T i k*x k) 0
def p3(q:Int)(n:Nat)(aa cZ:aD):Prop:=∀T D F E,b6 q n n (atT aa) T D→b6 q n n (atT cZ) F E→NO q n T D F E
theorem rg{m:Nat}(h:aa.length=n)(hm:∀ps∈aa,ps.length=m)(hi:i<n)(hk:k<m):∃ps∈aa,atT aa i k∈ps:=by
 have h1:i<aa.length:=by lia
 have l:=hm _ (aE h1);refine ⟨aa[i],aE h1,?_⟩;unfold atT;rw [getD_at h1,getD_at (by lia)]
 exact aE _
variable {P:Nat}
theorem dm.NP(hq:az q){last:Int}(h:dm q P (n+n) (j6 n aa) A M c L last af)(hn:aa.length=n)(hm:∀ps∈aa,ps.length=n)(hb:∀ps∈aa,∀p∈ps,aH q p.2)(r:b6 q n n (atT aa) T D)(hi:i<n)(hk:k<n):Cg q (T i k*c i) (A i k*D):=by
 have e:=h.row i k (by rw [oE hn];exact hi) (by lia)
 rw [Xm hn hm hi hk] at e;obtain ⟨ps,h1,h2⟩:=rg hn hm hi hk;exact Hj hq e (r.2 i k hi hk) (hb ps h1 _ h2)
theorem dm.none(hq:az q){last:Int}(h:dm q P (n+n) (j6 n aa) A M c L last af)(hn:aa.length=n)(hm:∀ps∈aa,ps.length=n)(hb:∀ps∈aa,∀p∈ps,aH q p.2)(ne:L≠List.range n):Hl q n aa:=by
 have rd:=h.red.rd;rw [oE hn] at rd;obtain ⟨x,k,hk,nx,hx⟩:=rd.q_ hq (by lia) ne
 refine ⟨x,k,hk,nx,fun T D r i hi=>?_⟩;have ci:=h.bot i (by rw [oE hn];exact hi)
 refine fT hq (ci.nz hq) ?_;have s1:Cg q (c i*ai n fun k=>T i k*x k) (ai n fun k=>D*(A i k*x k)):=by rw [cm];refine dB fun k hk=>?_;have:=(h.NP hq hn hm hb r hi hk).mulR (x k);exact (Cg.of_eq (by grind)).trans (this.trans (Cg.of_eq (by grind)))
 refine s1.trans ?_;rw [←cm];have:=(hx i hi).mulL D;rw [cG] at this;exact this
theorem Xp(hj:j<af.length):atT (af.map fun ps=>ps.drop n) j k=atT af j (n+k):=by
 have e:(af.map fun ps=>ps.drop n).getD j []=af[j].drop n:=by rw [getD_at (by rw [aY];exact hj),i9]
 unfold atT;rw [e,getD_at hj,dg,dg,uW]
theorem dm.inv(hq:az q){last:Int}(h:dm q P (n+n) (j6 n aa) A M c (List.range n) last af)(hn:aa.length=n)(hm:∀ps∈aa,ps.length=n)(hb:∀ps∈aa,∀p∈ps,aH q p.2)(jV:∀ps∈af,∀p∈ps,aH q p.2):p3 q n aa (af.map fun ps=>ps.drop n):=fun T D F E r1 r2=>by
 have rd:=h.red.rd;have lr:af.length=n:=by rw [h.len,fH]
 rw [oE hn] at rd;refine rd.inv hq (c:=c) (aI _) (fun i hi=>(h.bot i (by rw [oE hn];exact hi)).nz hq) (fun i k hi hk=>h.NP hq hn hm hb r1 hi hk) (fun i k hi hk=>?_) (fun j k hj hk=>?_)
 ·have e:=h.row i (n+k) (by rw [oE hn];exact hi) (by lia)
  rw [Xn hn hm hi hk] at e;dsimp only at e;rw [iC] at e;rw [e];by_cases z:k=i;·rw [ak z,ak z,uV]
  ·rw [aj z,aj z,iT]
 ·have v:=h.val j (n+k) (by simpa using hj) (by lia)
  have w:=r2.2 j k hj hk;rw [Xp (by lia)] at w
  have gj:(List.range n).getD j 0=j:=by
   rw [getD_at (by simpa using hj)]
   simp
  rw [gj] at v;obtain ⟨ps,h1,h2⟩:=rg lr h.g_ hj (show n+k<n+n by lia)
  exact Hk hq v w (jV ps h1 _ h2)
theorem Hm{b:Int}(l:gf x m)(e:x*b=a*m):m∣b:=by
 have h:m∣x*b:=⟨a,by rw [e,fi]⟩
 have g:Int.gcd m x=1:=by rw [Int.gcd_comm];exact l.zy
 have h2:m.natAbs∣x.natAbs*b.natAbs:=by rw [←bT];exact FA.mpr h
 exact FA.mp (Nat.Coprime.dvd_of_dvd_mul_left g h2)
theorem dm.NQ(hq:az q){dG:aD}{last:Int}(h:dm q P W dG A M c L last af)(hc:∀ps∈af,∀p∈ps,Canon q p)(hj:j<L.length):b5 q (dG.length*(cp dG.length*P)) ((af.map fun ps=>ps.drop n).getD j []):=by
 have jr:j<af.length:=by rw [h.len];exact hj
 have jn:j<dG.length:=dC hj h.red.rd.len;rw [getD_at (by rw [aY];exact jr),i9]
 have lj:=h.g_ _ (aE jr);have cn:∀p∈af[j],Canon q p:=hc _ (aE jr);have vl:∀k,k<W→aX q (af[j].getD k o1) (M j k,M j (L.getD j 0)):=fun k hk=>by have:=h.val j k hj hk;unfold atT at this;rw [getD_at jr] at this;exact this
 have bM:∀k,k<W→(M j k).natAbs≤dG.length*(cp dG.length*P):=fun k hk=>h.red.bd hq jn hk;generalize af[j]=ps at lj cn vl;by_cases z:q=0
 ·subst z
  have e0:=h.red.NI rfl hj;rw [e0] at vl;have l0:=(h.red.last hq).2;obtain ⟨R,g,G,b,el⟩:=h.red.bar rfl;have bl:last.natAbs≤dG.length*(cp dG.length*P):=by rw [el];exact b.G6 h.red.n1
  have dv:∀k,k<W→(ps.getD k o1).1*last=M j k*(ps.getD k o1).2∧(ps.getD k o1).2∣last:=fun k hk=>by
   have e:=kY.mp (vl k hk);dsimp only at e;have e:(ps.getD k o1).1*last=M j k*(ps.getD k o1).2:=by lia
   have fJ:k<ps.length:=by lia
   exact ⟨e,Hm ((cn _ (by rw [getD_at fJ];exact aE _)).1 rfl) e⟩
  refine ⟨(last.natAbs:Int),fun k=>if 0<last then M j (n+k) else -(M j (n+k)),⟨fun _=>by lia,fun y=>absurd rfl y⟩,by rw [uT];exact bl,fun p hp=>?_,fun k hk=>?_⟩
  ·have hp:=List.drop_subset _ _ hp
   obtain ⟨k,hk,e⟩:=gQ.mp hp;have:=(dv k (by lia)).2
   rw [getD_at hk,e] at this;exact Int.dvd_natAbs.mpr this
  ·rw [nj] at hk
   have ek:(ps.drop n).getD k o1=ps.getD (n+k) o1:=by rw [dg,dg,uW]
   rw [ek];have e:=(dv (n+k) (by lia)).1
   have bm:=bM (n+k) (by lia)
   dsimp only;by_cases y:0<last
   ·rw [ak y,show (last.natAbs:Int)=last by lia]
    exact ⟨e,bm⟩
   ·rw [aj y,show (last.natAbs:Int)=-last by lia,i7,e,Int.neg_mul,yX]
    exact ⟨rfl,bm⟩
 ·have q9:q≤997:=by rcases hq with h | h <;> lia
  have bb:=h.red.zV;refine ⟨1,fun k=>(ps.getD (n+k) o1).1,⟨fun y=>absurd y z,fun _=>rfl⟩,by lia,fun p hp=>?_,fun k hk=>?_⟩
  ·have:=((cn p (List.drop_subset _ _ hp)).2 z).1
   rw [this];exact jG 1
  ·rw [nj] at hk
   have ek:(ps.drop n).getD k o1=ps.getD (n+k) o1:=by rw [dg,dg,uW]
   rw [ek];have fJ:n+k<ps.length:=by lia
   obtain ⟨c1,c2,c3⟩:=(cn _ (by rw [getD_at fJ];exact aE _:ps.getD (n+k) o1∈ps)).2 z
   rw [c1];exact ⟨rfl,by dsimp only;lia⟩
theorem NR(xs:List V)(k:Nat)(h:k≤xs.length):jQ xs (some (k:Int)) none=xs.drop k:=by
 have e1:HT.gJ xs.length 0 (some (k:Int))=k:=by rw [HT.L_];lia
 have e2:HT.gJ xs.length xs.length none=xs.length:=rfl;unfold jQ;rw [e1,e2,List.take_of_length_le (by rw [nj];lia)]
theorem bC.drop{vs:List V}(e:H r=some (.lst (vs.drop k)))(l:vs.length=ps.length)(f:∀(i:Nat) (v:V) (p:Int×Int),vs[i]?=some v→ps[i]?=some p→cD B H q v p.1 p.2):bC B H q r (ps.drop k):=by
 refine ⟨_,e,by rw [nj,nj,l],fun i v p h1 h2=>?_⟩
 rw [uW] at h1 h2;exact f _ v p h1 h2
theorem NS(n:Nat):iY n=((List.range n).map fun j:Nat=>(j:Int)).map V.int:=by unfold iY;rw [y7];rfl
theorem Xq{L':List Nat}(h:(L.map fun j:Nat=>(j:Int))=L'.map fun j:Nat=>(j:Int)):L=L':=by
 refine nI (by simpa using fK List.length h) fun j h1 h2=>?_
 have:=fK (fun l=>l[j]?) h;have:((L[j]:Nat):Int)=((L'[j]:Nat):Int):=by simpa [h1,h2] using this
 lia
end My
namespace L2
open PySem PySem.Spec PyProof.Rows
def Wide(i:Int):Prop:=i.natAbs<2 ^ 8192
variable {i:Int}
theorem Wide.log(h:Wide i):i.natAbs.log2<8192:=by
 by_cases z:i.natAbs=0;·rw [z];decide
 ·exact (Nat.log2_lt z).mpr h
theorem cO.wide(h:cO i):Wide i:=dC h (fL (by decide) (by decide))
def CQ(i j:Int):Prop:=j≠0∧Wide j
def Hn(i j:Int):Prop:=Wide i∧Wide j
theorem Hn.ok{j:Int}(h:Hn i j):IntMulOk i j:=by
 have b:∀{k:Int},Wide k→Builtin.Int.intBits k≤8192:=fun{k} hk=>by
  have z:=hk.log;unfold Builtin.Int.intBits
  split <;> lia
 unfold IntMulOk;have e:Builtin.Int.intTooBig ((Builtin.Int.intBits i:Int)+(Builtin.Int.intBits j:Int))=false:=by
  unfold Builtin.Int.intTooBig;have h1:=b h.1;have h2:=b h.2;have h3:(16384:Int)≤bitsLine:=by decide +kernel
  exact h_ (by lia)
 intro z;rw [Bool.and_eq_true] at z;have z2:=z.2;rw [show Builtin.Int.intTooBig ((Builtin.Int.intBits i:Int)+(Builtin.Int.intBits j:Int))=false from e] at z2;cases z2
section
variable {X:Cx}
theorem Ho:dE X (binaryOp .FloorDiv) (rI CQ fun i j=>.int (i.fdiv j)):=nX fun _ _ _ _ _ _ _ hc q=>floordiv_int hc.1 q (.inl (Fu (dC hc.2.log (by decide))))
theorem mT:dE X (binaryOp .Mult) (rI Hn fun i j=>.int (i*j)):=nX fun _ _ _ _ _ _ _ hc q=>mul_int q hc.ok
end
end L2
namespace My
open PySem L2
theorem Xr{a b:Int}(h:b≠0)(m:Wide b):CQ 0 (lowG a b):=by
 have h1:=oi (a:=a) h;have h2:Int.gcd a b<2 ^ 8192:=dD (Nat.gcd_le_right _ (jF.mpr h)) m;unfold lowG;refine ⟨by split <;> lia,?_⟩
 unfold Wide
 split
 ·rw [show (0-(Int.gcd a b:Int)).natAbs=Int.gcd a b by lia];exact h2
 ·rw [uT];exact h2
def NT:Sp:=fun vs H Q _=>∃a b:Int,vs=[.int a,.int b]∧b≠0∧Wide b∧∀(q:Addr) (H':Hp),ag H H'→H' q=some (.tup [.int (a.fdiv (lowG a b)),.int (b.fdiv (lowG a b))])→Q (.ref q) H'
def Xs:Sp:=fun vs H Q _=>∃q c:Int,vs=[.int q,.int c]∧az q∧0≤c∧∀(v:V) (x m:Int) (H':Hp),ag H H'→cD (10 ^ 6) H' q v x m→m.natAbs≤1000→Q v H'
def Xt:Sp:=fun vs H Q _=>∃(q:Int) (a b:Addr) (ps rs:a_),vs=[.int q,.ref a,.ref b]∧az q∧bC (10 ^ 150) H q a ps∧bC (10 ^ 150) H q b rs∧pW q ps.length∧pW q rs.length∧∀(v:V) (H':Hp),ag H H'→cU H' q v (aW ps rs (0,1)).1 (aW ps rs (0,1)).2→Q v H'
theorem Xu{c:TT}{t u:TE}{σ:St}{H:Hp}{Q:VK}(P:V→Hp→Prop)(h:∀Q':VK,(∀v H',P v H'→Q' v H')→FG c t u σ H Q')(k:∀v H',P v H'→Q v H'):FG c t u σ H Q:=h Q k
end My
namespace L2
open PySem PySem.Spec PyProof.Rows
theorem NU{X:Cx}{K:aL}{a:Expr}{ta:TE}(ha:PE X a ta)(he:∀whole,isTrue a X.env whole=(do let v ←whole;standAt a.pos;holding [v] (truthy v)))(hK:X.K=K:=by rfl) :
  PT X a (fun σ H Q=>ta σ H fun x H'=>∃k,F0 K x H' k∧Q k H'):=by
 subst hK
 exact qO ha he
end L2
namespace My
open PySem L2
variable {wi:TI} {ρ:St→St} {te:TE} {σ:St} {H:Hp} {Q:VK} {xs:List V}
theorem Xv{tt:TT}(f:Nat→Bool)(gM:∀R:It→Hp→Prop,(∀J H1,ag H H1→lK J xs H1→R J H1)→wi σ H R)(hn:xs.length<sizeLine)
  (test:∀(i:Nat) (x:V),xs[i]?=some x→∀(Hc:Hp) (R:Bool→Hp→Prop),ag H Hc→R (f i) Hc→tt (some x::ρ σ) Hc R)
  (step:∀(i:Nat) (x:V),xs[i]?=some x→∀(Hc:Hp) (R:VK),R x Hc→te (some x::ρ σ) Hc R)
  (fin:∀D ys Hc,H D=none→ag H Hc→(∀v∈ys,∃i:Nat,f i=true∧xs[i]?=some v)→(∀i,i<xs.length→f i=true→ys≠[])→Hc D=some (.lst ys)→Q (.ref D) Hc):ji wi ρ tt te σ H Q:=by
 refine gM _ fun J H1 s1 js=>?_;intro D nD;have hD:H D=none:=by
  cases e:H D with
  | none=>rfl
  | some o=>rw [s1 _ _ e] at nD;cases nD
 refine ⟨fun i m ys Hc=>m=xs.length-i∧i≤xs.length∧Hc D=some (.lst ys)∧ag H1 Hc∧ys.length≤i∧(∀v∈ys,∃i:Nat,f i=true∧xs[i]?=some v)∧(∀i',i'<i→f i'=true→ys≠[]),⟨_,rfl,fh _,aM,ft (ag.refl H1) nD,aI _,(fun v hv=>by simp at hv),fun i' h=>by lia⟩,?_⟩
 rintro i m ys Hc ⟨rfl,hi,eD,sH,el,h1,h2⟩;refine ⟨eD,?_⟩;by_cases d3:i<xs.length
 ·refine .inr ⟨js.go i Hc sH d3,fun x H' hy=>?_⟩
  obtain ⟨rfl,hx⟩:=js.f9 i Hc x H' sH hy;refine test i x (hx d3) _ _ (s1.trans sH) ?_;cases ef:f i with
  | true=>
   rw [ak rfl];refine step i x (hx d3) _ _ ⟨eD,by lia,xs.length-(i+1),by lia,rfl,d3,aM,ft sH nD,by simp;exact el,fun v hv=>?_,fun i' h3 h4=>by simp⟩
   rcases uJ.mp hv with z | z;·exact h1 v z
   ·rw [qy.mp z]
    exact ⟨i,ef,hx d3⟩
  | false=>
   rw [aj dW];refine ⟨xs.length-(i+1),by lia,rfl,d3,eD,sH,by lia,h1,fun i' h3 h4=>?_⟩
   by_cases z:i'=i;·rw [z,ef] at h4;cases h4
   ·exact h2 i' (by lia) h4
 ·have e:i=xs.length:=by lia
  subst e;exact .inl ⟨js.stop _ Hc sH (aI _),fin D ys Hc hD (s1.trans sH) h1 h2 eD⟩
def oF(H:Hp)(a:Addr)(n W:Nat)(M:ax):Prop:=∃vs:List V,H a=some (.lst vs)∧vs.length=n∧∀(i:Nat) (v:V),vs[i]?=some v→∃x:Addr,v=.ref x∧x≠a∧H x=some (.lst (((List.range W).map (M i)).map V.int))
variable {H':Hp} {a:Addr} {n W:Nat} {M:ax}
theorem oF.mono(h:oF H a n W M)(s:ag H H'):oF H' a n W M:=by obtain ⟨vs,e,l,k⟩:=h;exact ⟨vs,s _ _ e,l,fun i v hv=>by obtain ⟨x,e1,n1,e2⟩:=k i v hv;exact ⟨x,e1,n1,s _ _ e2⟩⟩
variable {i:Nat}
theorem oF.put{y:Addr}{f:Nat→Int}{vs:List V}(h:oF H a n W M)(ea:H a=some (.lst vs))(ne:y≠a)(hy:H y=some (.lst (((List.range W).map f).map V.int)))(hi:i<n):oF (upd H a (.lst (vs.set i (.ref y)))) a n W (fun j=>if j=i then f else M j):=by
 obtain ⟨Hq,e,l,k⟩:=h;rw [ea] at e;cases e;refine ⟨_,aM,by rw [kj];exact l,fun j v hv=>?_⟩
 by_cases z:j=i
 ·subst z
  rw [ng (by lia)] at hv
  cases hv;refine ⟨y,rfl,ne,?_⟩;dsimp only;rw [ak rfl,bE ne];exact hy
 ·rw [nh (fun e=>z e.symm)] at hv
  obtain ⟨x,e1,n1,e2⟩:=k j v hv;refine ⟨x,e1,n1,?_⟩;dsimp only;rw [aj z,bE n1];exact e2
def iA(q:Int)(M:ax)(c j m:Nat):Nat→Nat→Int:=fun i=>if c<i∧i<c+1+m then fun k=>if q=0 then M i k*M c j-M c k*M i j else (M i k*M c j-M c k*M i j) % q else M i
theorem vH(hl:xs.length=n)(gM:∀R:It→Hp→Prop,(∀J H1,ag H H1→lK J xs H1→R J H1)→wi σ H R)(hn:n<sizeLine)
  (P:Addr→Nat→Addr→Hp→Prop) (mono:∀D i y H H' ys,P D i y H→y≠D→H D=some (.lst ys)→(∀b o,b≠D→H b=some o→H' b=some o)→P D i y H')
  (step:∀D (i:Nat) (x:V),xs[i]?=some x→∀(Hc:Hp) (R:VK),ag H Hc→(∃ys,Hc D=some (.lst ys))→(∀y H3,ag Hc H3→Hc y=none→(∃o,H3 y=some o)→P D i y H3→R (.ref y) H3)→te (some x::ρ σ) Hc R)
  (fin:∀D (A:Nat→Addr) Hc,H D=none→ag H Hc→(∀i j,i<n→j<n→A i=A j→i=j)→(∀i,i<n→P D i (A i) Hc∧A i≠D)→Hc D=some (.lst ((List.range n).map fun i=>V.ref (A i)))→Q (.ref D) Hc):ji wi ρ (fun _ H Q=>Q true H) te σ H Q:=by
 refine gM _ fun J H1 s1 js=>?_;intro D nD;have hD:H D=none:=by
  cases e:H D with
  | none=>rfl
  | some o=>rw [s1 _ _ e] at nD;cases nD
 refine ⟨fun i m ys Hc=>m=n-i∧i≤n∧Hc D=some (.lst ys)∧ag H1 Hc∧∃A:Nat→Addr,ys=(List.range i).map (fun j=>V.ref (A j))∧(∀a b,a<i→b<i→A a=A b→a=b)∧∀j,j<i→P D j (A j) Hc∧A j≠D∧∃o,Hc (A j)=some o,⟨_,rfl,fh _,aM,ft (ag.refl H1) nD,fun _=>D,rfl,(fun a b h=>by lia),fun j h=>by lia⟩,?_⟩
 rintro i m ys Hc ⟨rfl,hi,eD,sH,A,rfl,inj,hA⟩;refine ⟨eD,?_⟩;by_cases d3:i<n
 ·refine .inr ⟨js.go i Hc sH (by lia),fun x H' hy=>?_⟩
  obtain ⟨rfl,hx⟩:=js.f9 i Hc x H' sH hy;rw [ak rfl];refine step D i x (hx (by lia)) _ _ (s1.trans sH) ⟨_,eD⟩ fun y H3 s3 ny ⟨o,ho⟩ hp=>?_
  have e3:=s3 _ _ eD;have yD:y≠D:=fun e=>by rw [e,eD] at ny;cases ny
  have bu:∀b o,b≠D→H3 b=some o→upd H3 D (.lst ((List.range i).map (fun j=>V.ref (A j))++[.ref y])) b=some o:=fun b o nb e=>by rw [bE nb];exact e
  have nA:∀j,j<i→A j≠y:=fun j hj e=>by obtain ⟨_,_,o',h'⟩:=hA j hj;rw [e,ny] at h';cases h'
  refine ⟨e3,by simp;lia,n-(i+1),by lia,rfl,d3,aM,ft (sH.trans s3) nD,fun j=>if j=i then y else A j,?_,fun a b ha hb e=>?_,fun j hj=>?_⟩
  ·rw [List.range_succ,yV]
   congr 1
   ·refine uX fun j hj=>?_
    dsimp only;rw [aj (by have:=e7.mp hj;lia)]
   ·simp
  ·dsimp only at e
   by_cases z1:a=i
   ·by_cases z2:b=i
    ·lia
    ·rw [ak z1,aj z2] at e
     exact absurd e.symm (nA b (by lia))
   ·by_cases z2:b=i
    ·rw [aj z1,ak z2] at e
     exact absurd e (nA a (by lia))
    ·rw [aj z1,aj z2] at e
     exact inj a b (by lia) (by lia) e
  ·dsimp only
   by_cases z:j=i
   ·rw [ak z,z]
    exact ⟨mono D i y H3 _ _ hp yD e3 bu,yD,o,bu _ _ yD ho⟩
   ·rw [aj z]
    obtain ⟨h1,h2,o',h3⟩:=hA j (by lia)
    exact ⟨mono D j (A j) H' _ _ h1 h2 eD (fun b o nb e=>bu b o nb (s3 _ _ e)),h2,o',bu _ _ h2 (s3 _ _ h3)⟩
 ·have e:i=n:=by lia
  subst e;exact .inl ⟨js.stop _ Hc sH (by lia),fin D A Hc hD (s1.trans sH) inj (fun j hj=>⟨(hA j hj).1,(hA j hj).2.1⟩) eD⟩
def da(Dl V:Nat)(ps:a_):Prop:=∃(D:Int) (x:Nat→Int),1≤D∧D.natAbs≤Dl∧∀j,j<ps.length→(ps.getD j o1).1*D=x j*(ps.getD j o1).2∧(x j).natAbs≤V*D.natAbs
variable {Dl:Nat} {ps:a_}
theorem da.weak{Hr V V':Nat}(h:da Dl V ps)(h1:Dl≤Hr)(h2:V≤V'):da Hr V' ps:=by obtain ⟨D,x,d1,d2,hx⟩:=h;exact ⟨D,x,d1,av d2 h1,fun j hj=>⟨(hx j hj).1,av (hx j hj).2 (gs _ h2)⟩⟩
variable {E:Nat}
theorem da.e{V:Nat}(h:da Dl V ps)(hc:∀p∈ps,Canon 0 p)(h1:V*Dl≤E)(h2:1≤V):b5 0 E ps:=by obtain ⟨D,x,d1,d2,hx⟩:=h;have dl:D.natAbs≤E:=av (av d2 (gC _ h2)) h1;refine ⟨D,x,⟨fun _=>d1,fun z=>absurd rfl z⟩,dl,fun p hp=>?_,fun j hj=>⟨(hx j hj).1,av (hx j hj).2 (av (gO _ d2) h1)⟩⟩;obtain ⟨j,hj,e⟩:=gQ.mp hp;have z:=(hx j hj).1;rw [getD_at hj,e] at z;exact Hm ((hc p hp).1 rfl) z
theorem NV:∀(ps:a_),(∀p∈ps,p.1.natAbs≤10 ^ 6∧1≤p.2∧p.2.natAbs≤1000)→da (1000 ^ ps.length) (10 ^ 6) ps
 | [],_=>⟨1,fun _=>0,by decide,by decide,fun j hj=>by simp at hj⟩
 | p::ps,h=>by
  obtain ⟨D,x,d1,d2,hx⟩:=NV ps fun p hp=>h p (ia _ hp);obtain ⟨b1,b2,b3⟩:=h p i6;have m1:(p.2*D).natAbs=p.2.natAbs*D.natAbs:=bT ..;have pd:=fP (show 0<p.2 by lia) (show 0<D by lia)
  refine ⟨p.2*D,fun j=>if j=0 then p.1*D else p.2*x (j-1),by lia,?_,fun j hj=>?_⟩
  ·rw [m1,dN,mr,jD]
   exact bI d2 b3
  ·cases j with
   | zero=>
    dsimp only;rw [ak rfl,List.getD_cons_zero];refine ⟨by grind,?_⟩
    rw [m1,bT];refine bI b1 (gC _ (by lia))
   | succ j=>
    dsimp only;rw [aj (by lia),List.getD_cons_succ,Nat.add_sub_cancel]
    obtain ⟨e1,e2⟩:=hx j (by simpa using hj)
    refine ⟨by grind,?_⟩
    rw [m1,bT,qE];exact gO _ e2
variable {n0 d0 n1 d1:Int}
theorem Xw:∀i,i<2→aX 0 ([(n0,d0),(n1,d1)].getD i o1) ((if i=0 then n0*d1 else n1*d0),d0*d1):=fun i hi=>by
 match i,hi with
 | 0,_=>exact ⟨0,by show n0*(d0*d1)-n0*d1*d0=_;grind⟩
 | 1,_=>exact ⟨0,by show n1*(d0*d1)-n1*d0*d1=_;grind⟩
variable {xa Da xb Db:Int} {pa pb:Int×Int}
theorem CS(ha:pa.1*Da=xa*pa.2)(hb:pb.1*Db=xb*pb.2):aX 0 (aW [(n0,d0),(n1,d1)] [pa,pb] (0,1)) (n0*d1*(xa*Db)+n1*d0*(xb*Da),d0*d1*(Da*Db)):=by
 have z:=Ni (q:=0) (n:=2) (ps:=[(n0,d0),(n1,d1)]) (rs:=[pa,pb]) (D1:=d0*d1) (D2:=Da*Db) (f:=fun i=>if i=0 then n0*d1 else n1*d0) (g:=fun i=>if i=0 then xa*Db else xb*Da) rfl rfl Xw (fun i hi=>by
  match i,hi with
  | 0,_=>exact ⟨0,by show pa.1*(Da*Db)-xa*Db*pa.2=_;grind⟩
  | 1,_=>exact ⟨0,by show pb.1*(Da*Db)-xb*Da*pb.2=_;grind⟩)
 have e:(ai 2 fun i=>(if i=0 then n0*d1 else n1*d0)*(if i=0 then xa*Db else xb*Da))=n0*d1*(xa*Db)+n1*d0*(xb*Da):=by show n0*d1*(xa*Db)+(n1*d0*(xb*Da)+0)=_;lia
 rw [e] at z;exact z
theorem CT{V:Nat}(b0:n0.natAbs≤10 ^ 6)(b1:n1.natAbs≤10 ^ 6)(p0:1≤d0)(p1:1≤d1)(ha:xa.natAbs≤V*Da.natAbs)(hb:xb.natAbs≤V*Db.natAbs):(n0*d1*(xa*Db)+n1*d0*(xb*Da)).natAbs≤2*10 ^ 6*V*(d0*d1*(Da*Db)).natAbs:=by
 refine av (Int.natAbs_add_le ..) ?_;simp only [bT];have q0:1≤d0.natAbs:=by lia
 have q1:1≤d1.natAbs:=by lia
 generalize n0.natAbs=N0 at *;generalize n1.natAbs=N1 at *;generalize d0.natAbs=E0 at *;generalize d1.natAbs=E1 at *;generalize xa.natAbs=X0 at *;generalize xb.natAbs=X1 at *;generalize Da.natAbs=A at *;generalize Db.natAbs=B at *;have t1:N0*E1*(X0*B)≤10 ^ 6*(E0*E1)*(V*A*B):=bI (bI b0 (gC _ q0)) (gs _ ha);have t2:N1*E0*(X1*A)≤10 ^ 6*(E0*E1)*(V*B*A):=bI (bI b1 (k6 _ q1)) (gs _ hb);have e1:10 ^ 6*(E0*E1)*(V*A*B)=10 ^ 6*V*(E0*E1*(A*B)):=by grind
 have e2:10 ^ 6*(E0*E1)*(V*B*A)=10 ^ 6*V*(E0*E1*(A*B)):=by grind
 rw [e1] at t1;rw [e2] at t2;have e3:2*10 ^ 6*V*(E0*E1*(A*B))=10 ^ 6*V*(E0*E1*(A*B))+10 ^ 6*V*(E0*E1*(A*B)):=by grind
 rw [e3];exact Nat.add_le_add t1 t2
variable {q:Int} {v:V}
theorem Hs{rs:a_}(hq:az q)(h:cU H q v (aW ps rs (0,1)).1 (aW ps rs (0,1)).2)(hf:q=0→∃X D:Int,aX 0 (aW ps rs (0,1)) (X,D)∧1≤D∧X.natAbs≤10 ^ 60∧D.natAbs≤10 ^ 60) :
  ∃p:Int×Int,cD (10 ^ 60) H q v p.1 p.2∧(q=0→∀X D:Int,aX 0 (aW ps rs (0,1)) (X,D)→1≤D→p.1*D=X*p.2):=by
 by_cases z:q=0
 ·subst z
  obtain ⟨X,D,w,d1,bX,bD⟩:=hf rfl;obtain ⟨p,hp,wp⟩:=Wy (h.CG w ⟨fun _=>d1,fun y=>absurd rfl y⟩) hq bX bD;obtain ⟨x,m⟩:=p;refine ⟨(x,m),hp,fun _ X' D' w' Xx=>?_⟩;have h':=h.CG w' ⟨fun _=>Xx,fun y=>absurd rfl y⟩;cases hp with
  | rem h0 h1 h2=>lia
  | bV e l bx bm=>
   cases h' with
   | bV e' l' jV h'=>rw [e] at e';cases e';exact h'
 ·cases h with
  | bV e l hb h=>exact absurd rfl z
  | rem q2 h0 h1 g h=>
   rename_i r
   have q3:q≤997:=by rcases hq with y | ⟨_,y,_⟩ <;> lia
   exact ⟨(r,1),.rem h0 h1 q3,fun y=>absurd y z⟩
variable {k:Nat}
theorem Xy(g:Nat→V)(v:V)(hk:k<n):((List.range n).map g).set k v=(List.range n).map fun i=>if i=k then v else g i:=by
 refine nI (by simp) fun j h1 h2=>?_
 rw [List.getElem_set];by_cases z:k=j;·subst z;simp
 ·rw [aj z]
  simp [Ne.symm z]
structure iZ (H0 H:Hp) (q:Int) (r:Addr) (n m:Nat) (A:Nat→Addr) (f:Nat→List (Int×Int)):Prop where
 at':H r=some (.lst ((List.range n).map fun i=>V.ref (A i)))
 new:H0 r=none
 inj:∀i j,i<n→j<n→A i=A j→i=j
 rows:∀i,i<n→A i≠r∧H0 (A i)=none∧bC (10 ^ 60) H q (A i) (f i)∧(f i).length=m
variable {H0:Hp} {r:Addr} {m:Nat} {A:Nat→Addr} {f:Nat→List (Int×Int)}
theorem iZ.mono(h:iZ H0 H q r n m A f)(s:ag H H'):iZ H0 H' q r n m A f:=
 ⟨s _ _ h.at',h.new,h.inj,fun i hi=>by obtain ⟨a,b,c,d⟩:=h.rows i hi;exact ⟨a,b,c.mono s,d⟩⟩
theorem iZ.CU(h:iZ H0 H q r n m A f):rf (10 ^ 60) H0 H q r ((List.range n).map f):=by
 refine ⟨_,h.at',by simp,h.new,fun i v ps h1 h2=>?_⟩
 have hi:i<n:=by have:=(aG.mp h1).1;simpa using this
 rw [bj] at h1 h2;simp [hi] at h1 h2;obtain ⟨a,b,c,d⟩:=h.rows i hi;subst h1 h2;exact ⟨A i,rfl,a,b,c⟩
variable {B:Nat} {D:Addr}
theorem oG{ys:List V}(h:bC B H q a ps)(n:a≠D)(eD:H D=some (.lst ys))(k:∀b o,b≠D→H b=some o→H' b=some o):bC B H' q a ps:=by obtain ⟨vs,e,l,f⟩:=h;exact ⟨vs,k _ _ n e,l,fun i v p h1 h2=>(f i v p h1 h2).bu eD k⟩
theorem rh{o:HO}:∀b o',b≠D→H b=some o'→upd H D o b=some o':=fun b o' nb e=>by rw [bE nb];exact e
theorem iZ.put(h:iZ H0 H q r n m A f)(hk:k<n)(hD:bC (10 ^ 60) H q D ps)(lp:ps.length=m)(nD:H0 D=none)(Dr:D≠r)(nA:∀i,i<n→A i≠D):iZ H0 (upd H r (.lst (((List.range n).map fun i=>V.ref (A i)).set k (.ref D)))) q r n m (fun i=>if i=k then D else A i) (fun i=>if i=k then ps else f i):=by
 refine ⟨?_,h.new,fun i j hi hj e=>?_,fun i hi=>?_⟩
 ·rw [aM,Xy _ _ hk]
  congr 2
  refine uX fun i _=>?_;by_cases z:i=k;·rw [ak z,ak z]
  ·rw [aj z,aj z]
 ·by_cases z1:i=k
  ·by_cases z2:j=k
   ·lia
   ·rw [ak z1,aj z2] at e
    exact absurd e.symm (nA j hj)
  ·by_cases z2:j=k
   ·rw [aj z1,ak z2] at e
    exact absurd e (nA i hi)
   ·rw [aj z1,aj z2] at e
    exact h.inj i j hi hj e
 ·by_cases z:i=k
  ·rw [ak z,ak z]
   exact ⟨Dr,nD,oG hD Dr h.at' rh,lp⟩
  ·rw [aj z,aj z]
   obtain ⟨a,b,c,d⟩:=h.rows i hi;exact ⟨a,b,oG c a h.at' rh,d⟩
variable {c:Nat} {p:Int×Int}
theorem iZ.cell{vs:List V}(h:iZ H0 H q r n m A f)(hk:k<n)(ev:H (A k)=some (.lst vs))(hv:cD (10 ^ 60) H q v p.1 p.2)(hc:c<m):iZ H0 (upd H (A k) (.lst (vs.set c v))) q r n m A (fun i=>if i=k then (f i).set c p else f i):=by
 refine ⟨?_,h.new,h.inj,fun i hi=>?_⟩
 ·rw [bE (Ne.symm (h.rows k hk).1)]
  exact h.at'
 ·obtain ⟨a,b,c',d⟩:=h.rows i hi
  refine ⟨a,b,?_⟩;by_cases z:i=k
  ·rw [ak z]
   subst z;obtain ⟨Hq,e',l',f'⟩:=c';rw [ev] at e';cases e';refine ⟨⟨_,aM,by rw [kj,kj];exact l',fun j w p' h1 h2=>?_⟩,by rw [kj];exact d⟩
   by_cases y:j=c
   ·subst y
    rw [ng (by lia)] at h1 h2
    cases h1;cases h2;exact hv.bu ev rh
   ·rw [nh (fun e=>y e.symm)] at h1 h2
    exact (f' j w p' h1 h2).bu ev rh
  ·rw [aj z]
   exact ⟨oG c' (fun e=>z (h.inj i k hi hk e)) ev rh,d⟩
structure rj (n0 d0 n1 d1:Int):Prop where
 b0:n0.natAbs≤10 ^ 6
 b1:n1.natAbs≤10 ^ 6
 p0:1≤d0
 p1:1≤d1
 l0:d0.natAbs≤1000
 l1:d1.natAbs≤1000
theorem rj.bot(h:rj n0 d0 n1 d1):1≤d0*d1∧(d0*d1).natAbs≤10 ^ 6:=by
 have:=fP (show 0<d0 by have:=h.p0;lia) (show 0<d1 by have:=h.p1;lia)
 refine ⟨by lia,?_⟩
 rw [bT];exact av (bI h.l0 h.l1) (by decide)
variable {as:a_}
theorem Xz(hb:rj n0 d0 n1 d1){V:Nat}{bs:a_}(ha:da Dl V as)(Ht:da Dl V bs)(la:as.length=m)(lb:bs.length=m)(lp:ps.length=m)
  (h:∀j,j<m→∀X D:Int,aX 0 (aW [(n0,d0),(n1,d1)] [as.getD j o1,bs.getD j o1] (0,1)) (X,D)→1≤D→(ps.getD j o1).1*D=X*(ps.getD j o1).2):da (10 ^ 6*(Dl*Dl)) (2*10 ^ 6*V) ps:=by
 obtain ⟨Da,xa,a1,a2,rp⟩:=ha;obtain ⟨Db,xb,c1,c2,p4⟩:=Ht;obtain ⟨q1,q2⟩:=hb.bot;have pd:=fP (show 0<Da by lia) (show 0<Db by lia)
 have pq:=fP (show 0<d0*d1 by lia) pd
 refine ⟨d0*d1*(Da*Db),fun j=>n0*d1*(xa j*Db)+n1*d0*(xb j*Da),by lia,?_,fun j hj=>?_⟩
 ·rw [bT,bT Da]
  exact bI q2 (bI a2 c2)
 ·obtain ⟨e1,e2⟩:=rp j (by lia)
  obtain ⟨e3,e4⟩:=p4 j (by lia)
  exact ⟨h j (by lia) _ _ (CS e1 e3) (by lia),CT hb.b0 hb.b1 hb.p0 hb.p1 e2 e4⟩
variable {j:Nat}
theorem XA(hb:rj n0 d0 n1 d1){V:Nat}{bs:a_}(ha:da Dl V as)(Ht:da Dl V bs)(hj:j<as.length)(hi:i<bs.length)(fit:2*10 ^ 6*V*(10 ^ 6*(Dl*Dl))≤10 ^ 60)(v1:1≤V):∃X D:Int,aX 0 (aW [(n0,d0),(n1,d1)] [as.getD j o1,bs.getD i o1] (0,1)) (X,D)∧1≤D∧X.natAbs≤10 ^ 60∧D.natAbs≤10 ^ 60:=by
 obtain ⟨Da,xa,a1,a2,rp⟩:=ha;obtain ⟨Db,xb,c1,c2,p4⟩:=Ht;obtain ⟨q1,q2⟩:=hb.bot;have pd:=fP (show 0<Da by lia) (show 0<Db by lia)
 have pq:=fP (show 0<d0*d1 by lia) pd
 obtain ⟨e1,e2⟩:=rp j hj;obtain ⟨e3,e4⟩:=p4 i hi;have bD:(d0*d1*(Da*Db)).natAbs≤10 ^ 6*(Dl*Dl):=by rw [bT,bT Da];exact bI q2 (bI a2 c2)
 refine ⟨_,_,CS e1 e3,by lia,?_,?_⟩
 ·exact av (CT hb.b0 hb.b1 hb.p0 hb.p1 e2 e4) (av (gO _ bD) fit)
 ·exact av bD (av (gC _ (uY (by decide) v1)) fit)
variable {d:Nat}
theorem XB(hb:rj n0 d0 n1 d1){V e:Nat}(h:da Dl V ps)(hd:d<ps.length)(he:e<ps.length)
  (hp:∀X D:Int,aX 0 (aW [(n0,d0),(n1,d1)] [ps.getD d o1,ps.getD e o1] (0,1)) (X,D)→1≤D→p.1*D=X*p.2):da (10 ^ 6*Dl) (2*10 ^ 6*V) (ps.set c p):=by
 obtain ⟨D,x,a1,a2,hx⟩:=h;obtain ⟨q1,q2⟩:=hb.bot;have pq:=fP (show 0<d0*d1 by lia) (show 0<D by lia)
 obtain ⟨e1,e2⟩:=hx d hd;obtain ⟨e3,e4⟩:=hx e he;have pd:=fP pq (show 0<D by lia)
 refine ⟨d0*d1*D,fun j=>if j=c then n0*d1*x d+n1*d0*x e else d0*d1*x j,by lia,?_,fun j hj=>?_⟩
 ·rw [bT]
  exact bI q2 a2
 ·rw [kj] at hj
  dsimp only;by_cases z:j=c
  ·rw [ak z,show (ps.set c p).getD j o1=p by rw [z,dg,ng (by lia)];rfl]
   have w:=hp _ _ (CS e1 e3) (by rw [show d0*d1*(D*D)=d0*d1*D*D by grind];lia)
   have b:=CT (Da:=D) (Db:=D) (V:=V) hb.b0 hb.b1 hb.p0 hb.p1 e2 e4;have D0:D≠0:=by lia
   constructor
   ·refine o9 D0 ?_
    grind
   ·have f1:(n0*d1*(x d*D)+n1*d0*(x e*D))=D*(n0*d1*x d+n1*d0*x e):=by grind
    have f2:d0*d1*(D*D)=D*(d0*d1*D):=by grind
    rw [f1,f2,bT,bT D,qE] at b;exact Nat.le_of_mul_le_mul_left b (jF.mpr D0)
  ·rw [aj z,show (ps.set c p).getD j o1=ps.getD j o1 by rw [dg,nh (fun e=>z e.symm),←dg]]
   obtain ⟨f1,f2⟩:=hx j hj;refine ⟨by grind,?_⟩
   rw [bT,bT (d0*d1),qE];exact gO _ (av f2 (gs _ (gC _ (by decide))))
theorem NW(ha:pa.1*Da=xa*pa.2)(hb:pb.1*Db=xb*pb.2):aX 0 (aW [pa] [pb] (0,1)) (xa*xb,Da*Db):=by
 have z:=Ni (q:=0) (n:=1) (ps:=[pa]) (rs:=[pb]) (D1:=Da) (D2:=Db) (f:=fun _=>xa) (g:=fun _=>xb) rfl rfl (fun i hi=>by
  match i,hi with
  | 0,_=>exact ⟨0,by show pa.1*Da-xa*pa.2=_;lia⟩) (fun i hi=>by
  match i,hi with
  | 0,_=>exact ⟨0,by show pb.1*Db-xb*pb.2=_;lia⟩)
 have e:(ai 1 fun _=>xa*xb)=xa*xb:=by show xa*xb+0=_;lia
 rw [e] at z;exact z
theorem XC{V:Nat}{bs:a_}(ha:da Dl V as)(hb:da Dl V bs)(hi:i<as.length)(lb:bs.length=m)(lp:ps.length=m)
  (h:∀j,j<m→∀X D:Int,aX 0 (aW [as.getD i o1] [bs.getD j o1] (0,1)) (X,D)→1≤D→(ps.getD j o1).1*D=X*(ps.getD j o1).2):da (Dl*Dl) (V*V) ps:=by
 obtain ⟨Da,xa,a1,a2,rp⟩:=ha;obtain ⟨Db,xb,c1,c2,p4⟩:=hb;have pd:=fP (show 0<Da by lia) (show 0<Db by lia)
 obtain ⟨e1,e2⟩:=rp i hi;refine ⟨Da*Db,fun j=>xa i*xb j,by lia,?_,fun j hj=>?_⟩
 ·rw [bT]
  exact bI a2 c2
 ·obtain ⟨e3,e4⟩:=p4 j (by lia)
  refine ⟨h j (by lia) _ _ (NW e1 e3) (by lia),?_⟩
  rw [bT,bT Da];refine av (bI e2 e4) (jy ?_);grind
theorem XD{V:Nat}{bs:a_}(ha:da Dl V as)(hb:da Dl V bs)(hi:i<as.length)(hj:j<bs.length)(fit:V*V*(Dl*Dl)≤10 ^ 60)(v1:1≤V):∃X D:Int,aX 0 (aW [as.getD i o1] [bs.getD j o1] (0,1)) (X,D)∧1≤D∧X.natAbs≤10 ^ 60∧D.natAbs≤10 ^ 60:=by
 obtain ⟨Da,xa,a1,a2,rp⟩:=ha;obtain ⟨Db,xb,c1,c2,p4⟩:=hb;have pd:=fP (show 0<Da by lia) (show 0<Db by lia)
 obtain ⟨e1,e2⟩:=rp i hi;obtain ⟨e3,e4⟩:=p4 j hj;have bD:(Da*Db).natAbs≤Dl*Dl:=by rw [bT];exact bI a2 c2
 refine ⟨_,_,NW e1 e3,by lia,?_,?_⟩
 ·rw [bT]
  refine av (bI e2 e4) (av (jy (show V*Da.natAbs*(V*Db.natAbs)=V*V*(Da.natAbs*Db.natAbs) by grind)) (av (gO _ (bI a2 c2)) fit))
 ·exact av bD (av (gC _ (uY v1 v1)) fit)
theorem XE(hb:rj n0 d0 n1 d1){V e:Nat}(h:da Dl V ps)(hd:d<ps.length)(he:e<ps.length)(fit:2*10 ^ 6*V*(10 ^ 6*Dl)≤10 ^ 60)(v1:1≤V):∃X D:Int,aX 0 (aW [(n0,d0),(n1,d1)] [ps.getD d o1,ps.getD e o1] (0,1)) (X,D)∧1≤D∧X.natAbs≤10 ^ 60∧D.natAbs≤10 ^ 60:=by
 obtain ⟨D,x,a1,a2,hx⟩:=h;obtain ⟨q1,q2⟩:=hb.bot;have pq:=fP (show 0<d0*d1 by lia) (show 0<D by lia)
 obtain ⟨e1,e2⟩:=hx d hd;obtain ⟨e3,e4⟩:=hx e he;have w:=CS (n0:=n0) (d0:=d0) (n1:=n1) (d1:=d1) e1 e3;have b:=CT (Da:=D) (Db:=D) (V:=V) hb.b0 hb.b1 hb.p0 hb.p1 e2 e4;have D0:D≠0:=by lia
 have f1:(n0*d1*(x d*D)+n1*d0*(x e*D))=D*(n0*d1*x d+n1*d0*x e):=by grind
 have f2:d0*d1*(D*D)=D*(d0*d1*D):=by grind
 rw [f1,f2] at w b;rw [bT,bT D,qE] at b;have b:=Nat.le_of_mul_le_mul_left b (jF.mpr D0);have bD:(d0*d1*D).natAbs≤10 ^ 6*Dl:=by rw [bT];exact bI q2 a2
 refine ⟨n0*d1*x d+n1*d0*x e,d0*d1*D,?_,by lia,av b (av (gO _ bD) fit),av bD (av (gC _ (uY (by decide) v1)) fit)⟩
 have w:=kY.mp w;dsimp only at w;refine ⟨0,?_⟩;dsimp only;rw [cG];refine o9 D0 ?_;rw [cG];grind
theorem vI(b:Nat):∀n,cq n (fun _=>b)=b ^ n
 | 0=>rfl
 | n+1=>by show cq n (fun _=>b)*b=b ^ (n+1);rw [vI b n,mr]
theorem Hu{a b:Nat}(Hv:b≤a)(k:Nat):∀n,cq (n+1) (fun i=>if i=k then a else b)≤a*b ^ n
 | 0=>by
  show 1*(if 0=k then a else b)≤a*1
  split <;> lia
 | n+1=>by
  show cq (n+1) (fun i=>if i=k then a else b)*(if n+1=k then a else b)≤a*b ^ (n+1)
  by_cases z:n+1=k
  ·rw [ak z,vC (g:=fun _=>b) fun i hi=>aj (by lia),vI,jD]
   exact aI _
  ·rw [aj z,mr,←kZ]
   exact gs _ (Hu Hv k n)
theorem NX(n1:1≤n)(n4:n≤4):cq n (fun i=>if i=k then 4*10 ^ 54 else 2*10 ^ 30)≤10 ^ 146:=by
 obtain ⟨n',rfl⟩:∃n',n=n'+1:=⟨n-1,by lia⟩
 refine av (Hu (by decide) k n') (av (gO _ (fL (by decide) (show n'≤3 by lia))) (by decide +kernel))
theorem XF(n4:n≤4):cq n (fun _=>10 ^ 36)≤10 ^ 146:=by rw [vI];exact av (fL (by decide) n4) (by decide +kernel)
variable {aa:aD}
theorem NY{K:aL}{B':Nat}(hq:az q){b:Addr}{R:VK}{r:Bool}(h1:aT B H q a aa)(h2:aT B' H q b aa)(k:R (.bl r) H):GH K 2 r (.ref a) (.ref b) H R:=by
 obtain ⟨vs,e1,l1,f1⟩:=h1;obtain ⟨us,e2,l2,f2⟩:=h2;refine ⟨a,b,vs,us,rfl,rfl,.of e1,.of e2,by lia,fun j x y hx hy=>?_,k⟩
 have hj:j<aa.length:=by rw [←l1];exact (aG.mp hx).1
 obtain ⟨r1,rfl,g1⟩:=f1 j x aa[j] hx (by simp [hj])
 obtain ⟨r2,rfl,g2⟩:=f2 j y aa[j] hy (by simp [hj])
 exact WB hq g1 g2 0
theorem Hw{x:Int}(h:Cg q x 0):q∣x:=by unfold Cg at h;rw [Int.sub_zero] at h;exact h
theorem vJ{E':Nat}(h:b5 q E ps)(h1:E≤E'):b5 q E' ps:=by obtain ⟨D,x,a,b,c,d⟩:=h;exact ⟨D,x,a,av b h1,c,fun i hi=>⟨(d i hi).1,av (d i hi).2 h1⟩⟩
theorem aT.rep(hq:az q)(h:aT B H q r aa)(hN:aa.length=n)(hM:∀ps∈aa,ps.length=m):∃T D,b6 q n m (atT aa) T D:=Xf (fun ps h1 p h2=>(h.nums hq ps h1 p h2).2.1) hN hM
end My
namespace L2
open PySem PySem.Spec PyProof.Rows
end L2
namespace My
open PySem L2
section
variable {q:Int} {P n W:Nat} {aa dG af:aD} {A M:ax} {c:Nat→Int} {L:List Nat} {last:Int}
theorem dm.common(h:dm 0 P W dG A M c L last af):∃D:Int,1≤D∧D.natAbs≤dG.length*(cp dG.length*P)∧∀j k,j<L.length→k<W→∃x:Int,(atT af j k).1*D=x*(atT af j k).2∧x.natAbs≤dG.length*(cp dG.length*P):=by
 have l0:=(h.red.last (.inl rfl)).2;obtain ⟨R,g,G,b,el⟩:=h.red.bar rfl;have bl:last.natAbs≤dG.length*(cp dG.length*P):=by rw [el];exact b.G6 h.red.n1
 refine ⟨(last.natAbs:Int),by lia,by rw [uT];exact bl,fun j k hj hk=>?_⟩
 have jn:j<dG.length:=dC hj h.red.rd.len;have v:=h.val j k hj hk;rw [h.red.NI rfl hj] at v;have e:=kY.mp v;dsimp only at e;have bm:=h.red.bd (.inl rfl) jn hk;by_cases y:0<last;·exact ⟨M j k,by rw [show (last.natAbs:Int)=last by lia];lia,bm⟩
 ·refine ⟨-(M j k),?_,by rw [yX];exact bm⟩
  rw [show (last.natAbs:Int)=-last by lia,i7,Int.neg_mul]
  lia
end
def XG:Sp:=fun vs H Q _=>∃(a:Addr) (q:Int) (B j:Nat) (aa:aD) (m:Nat),vs=[.ref a,.int (j:Int)]∧aT B H q a aa∧aa.length≤40∧(∀ps∈aa,ps.length=m)∧j<m∧∀(b:Addr) (H':Hp),ag H H'→H b=none→bC B H' q b (aa.map fun ps=>ps.getD j (0,1))→Q (.ref b) H'
def bK(m:Nat)(aa:aD):List (List (Int×Int)):=(List.range m).map fun j=>aa.map fun ps=>ps.getD j (0,1)
def XH(N:Addr):Sp:=fun vs H Q E=>∃(a:Addr) (q:Int) (B:Nat) (aa:aD) (m:Nat),vs=[.ref a]∧aT B H q a aa∧1≤aa.length∧aa.length≤40∧(∀ps∈aa,ps.length=m)∧m≤40∧∀(b:Addr) (H':Hp),ag H H'→H b=none→aT B H' q b (bK m aa)→Q (.ref b) H'
def XI(C:Addr):Sp:=fun vs H Q _=>∃(z a b:Addr) (q:Int) (B:Nat) (ps rs:a_),vs=[.ref z,.ref a,.ref b]∧eJ C H z q∧az q∧bC B H q a ps∧bC B H q b rs∧1000≤B∧B≤10 ^ 300∧ps.length≤40∧rs.length≤40∧1≤rs.length ∧
 ∀(r:Addr) (H':Hp),ag H H'→H r=none→fR H' q r (ps.length*rs.length) (fun j=>pQ (ps.getD (j / rs.length) o1) (rs.getD (j % rs.length) o1))→Q (.ref r) H'
variable {q:Int} {ps:a_}
theorem XJ(hq:az q)(z:q≠0)(hc:∀p∈ps,Canon q p):b5 q 1000 ps:=by
 have q9:q≤997:=by rcases hq with h | h <;> lia
 refine ⟨1,fun j=>(ps.getD j o1).1,⟨fun y=>absurd y z,fun _=>rfl⟩,by decide,fun p hp=>?_,fun j hj=>?_⟩
 ·rw [((hc p hp).2 z).1];exact jG 1
 ·obtain ⟨c1,c2,c3⟩:=(hc _ (by rw [getD_at hj];exact aE _:ps.getD j o1∈ps)).2 z
  rw [c1];exact ⟨rfl,by dsimp only;lia⟩
theorem j7(m:Nat)(aa:aD):(bK m aa).length=m:=by unfold bK;simp
variable {n W m c t:Nat} {A M:ax} {L:List Nat}
theorem d6.sol(hq:az q){X:Nat→Int}{E:Int}(h:d6 q n A M L W)(mW:m≤W)(cW:c<W)(hL:∀l∈L,l<m)(hX:∀j,j<L.length→Cg q (X (L.getD j 0)*M j (L.getD j 0)) (M j c*E))(h0:∀k,k<m→k∉L→Cg q (X k) 0)(ht:t<n):Cg q (ai m fun k=>A t k*X k) (A t c*E):=by
 obtain ⟨e,y,ne,h1,_⟩:=h.done ht;refine oC hq ne ?_;have row:∀j,j<L.length→Cg q (ai m fun k=>M j k*X k) (M j c*E):=fun j hj=>by
  have lm:L.getD j 0<m:=hL _ (by rw [getD_at hj];exact aE _)
  have s:Cg q (ai m fun k=>M j k*X k) (ai m fun k=>if k=L.getD j 0 then M j k*X k else 0):=dB fun k hk=>by
   by_cases z:k=L.getD j 0;·rw [ak z];exact Cg.refl _
   ·rw [aj z]
    by_cases w:k∈L
    ·obtain ⟨i,hi,ei⟩:=gQ.mp w
     have ij:j≠i:=fun e=>z (by subst e;rw [getD_at hi];exact ei.symm)
     have o:=h.off j i (dC hj h.len) hi ij;rw [getD_at hi,ei] at o;have:=o.mulR (X k);rw [iT] at this;exact this
    ·have:=(h0 k hk w).mulL (M j k)
     rw [cG] at this;exact this
  rw [jW m _ (fun k=>M j k*X k) lm] at s;exact s.trans ((Cg.of_eq (fi ..)).trans (hX j hj))
 have s1:Cg q (e*ai m fun k=>A t k*X k) (ai m fun k=>(ai L.length fun j=>y j*M j k)*X k):=by rw [cm];exact dB fun k hk=>(Cg.of_eq (by grind)).trans ((h1 k (by lia)).mulR (X k))
 refine s1.trans ?_;rw [CI m L.length (fun j=>y j) (fun j k=>M j k) X];have s2:Cg q (ai L.length fun l=>y l*ai m fun j=>M l j*X j) (ai L.length fun l=>y l*M l c*E):=dB fun l hl=>((row l hl).mulL (y l)).trans (Cg.of_eq (by grind))
 refine s2.trans ?_;have s3:(ai L.length fun l=>y l*M l c*E)=E*ai L.length fun l=>y l*M l c:=by rw [cm];exact cQ fun i _=>by grind
 rw [s3];exact ((h1 c cW).symm.mulL E).trans (Cg.of_eq (by grind))
variable {x:Nat→Int} {i:Nat}
theorem d6.vK(hq:az q)(h:d6 q n A M L W)(hx:∀t,t<n→Cg q (ai m fun k=>A t k*x k) 0)(hi:i<n):Cg q (ai m fun k=>M i k*x k) 0:=by
 obtain ⟨e,y,ne,hy⟩:=h.q8 i hi;refine fT hq ne ?_;have s1:Cg q (e*ai m fun k=>M i k*x k) (ai m fun k=>(ai n fun t=>y t*A t k)*x k):=by rw [cm];exact dB fun k _=>(Cg.of_eq (by grind)).trans ((hy k).mulR (x k))
 refine s1.trans ?_;rw [CI m n (fun i=>y i) (fun i k=>A i k) x];have:=dB (q:=q) (n:=n) (f:=fun l=>y l*ai m fun j=>A l j*x j) (g:=fun _=>0) fun l hl=>by have:=(hx l hl).mulL (y l);rw [cG] at this;exact this
 rw [gg] at this;exact this
theorem d6.Hy(hq:az q)(h:d6 q n A M L W)(hc:c<W):c∈L↔∀x:Nat→Int,(∀k,c<k→x k=0)→(∀t,t<n→Cg q (ai W fun k=>A t k*x k) 0)→Cg q (x c) 0:=by
 constructor
 ·intro hL x x0 hx
  obtain ⟨j,hj,e⟩:=gQ.mp hL;have gj:L.getD j 0=c:=by rw [getD_at hj];exact e
  have l:=h.lead j hj;rw [gj] at l;refine fT hq l ?_;have k0:=h.vK hq hx (dC hj h.len);have s:Cg q (ai W fun k=>M j k*x k) (ai W fun k=>if k=c then M j k*x k else 0):=dB fun k hk=>by
   by_cases z:k=c;·rw [ak z];exact Cg.refl _
   ·rw [aj z]
    by_cases y:k<c
    ·have:=(h.vG j k hj (by lia)).mulR (x k)
     rw [iT] at this;exact this
    ·rw [x0 k (by lia),cG]
     exact Cg.refl _
  rw [jW W c (fun k=>M j k*x k) hc] at s;exact s.symm.trans k0
 ·intro hx
  refine o_ fun nL=>?_;have main:∀m,m≤L.length→∃x:Nat→Int,¬q∣x c∧(∀k,c<k→x k=0)∧(∀k,k≠c→(∀j,j<m→k≠L.getD j 0)→x k=0)∧∀j,j<m→Cg q (ai W fun k=>M j k*x k) 0:=fun m=>by
   induction m with
   | zero=>exact fun _=>⟨fun k=>if k=c then 1 else 0,by dsimp only;rw [ak rfl];exact vE hq,fun k hk=>aj (by lia),fun k hk _=>aj hk,fun j hj=>by lia⟩
   | succ m ih=>
    intro hm;obtain ⟨x,h1,h2,h3,h4⟩:=ih (by lia)
    have XM:L.getD m 0∈L:=by rw [getD_at (by lia)];exact aE _
    by_cases lm:L.getD m 0<c
    ·have x0:x (L.getD m 0)=0:=h3 _ (by lia) fun j hj e=>by
      have:=pZ h.up hj (by lia)
      lia
     refine ⟨fun k=>if k=L.getD m 0 then -(ai W fun k=>M m k*x k) else M m (L.getD m 0)*x k,?_,fun k hk=>?_,fun k hk hj=>?_,fun j hj=>?_⟩
     ·dsimp only
      rw [aj (by lia)]
      exact iL hq (h.lead m (by lia)) h1
     ·dsimp only
      rw [aj (by lia),h2 k hk,cG]
     ·dsimp only
      rw [aj (hj m (by lia)),h3 k hk fun j cK=>hj j (by lia),cG]
     ·rw [NN W _ (by lia) (M j) x _ _ x0]
      by_cases e:j=m
      ·subst e
       exact Cg.of_eq (by grind)
      ·have a:=(h4 j (by lia)).mulL (M m (L.getD m 0))
       have b:=(h.off j m (by have:=h.len;lia) (by lia) e).mulR (-(ai W fun k=>M m k*x k))
       exact (a.add b).trans (Cg.of_eq (by simp))
    ·have ne:L.getD m 0≠c:=fun e=>nL (e▸XM)
     refine ⟨x,h1,h2,fun k hk hj=>h3 k hk fun j cK=>hj j (by lia),fun j hj=>?_⟩
     by_cases e:j=m
     ·subst e
      have:=dB (q:=q) (n:=W) (f:=fun k=>M j k*x k) (g:=fun _=>0) fun k hk=>by
       by_cases y:k<L.getD j 0
       ·have:=(h.vG j k (by lia) y).mulR (x k)
        rw [iT] at this;exact this
       ·rw [h2 k (by lia),cG]
        exact Cg.refl _
      rw [gg] at this;exact this
     ·exact h4 j (by lia)
  obtain ⟨x,h1,h2,_,h4⟩:=main L.length (aI _);have all:∀i,i<n→Cg q (ai W fun k=>M i k*x k) 0:=fun i hi=>by
   by_cases z:i<L.length;·exact h4 i z
   ·have:=dB (q:=q) (n:=W) (f:=fun k=>M i k*x k) (g:=fun _=>0) fun k hk=>by
     have:=(h.low i k hi (by lia) hk).mulR (x k)
     rw [iT] at this;exact this
    rw [gg] at this;exact this
  refine h1 (Hw (hx x h2 fun t ht=>?_));obtain ⟨e,y,ne',hy⟩:=h.ofM t ht;refine fT hq ne' ?_;have s1:Cg q (e*ai W fun k=>A t k*x k) (ai W fun k=>(ai n fun i=>y i*M i k)*x k):=by rw [cm];exact dB fun k _=>(Cg.of_eq (by grind)).trans ((hy k).mulR (x k))
  refine s1.trans ?_;rw [CI W n (fun i=>y i) (fun i k=>M i k) x];have:=dB (q:=q) (n:=n) (f:=fun l=>y l*ai W fun j=>M l j*x j) (g:=fun _=>0) fun l hl=>by have:=(all l hl).mulL (y l);rw [cG] at this;exact this
  rw [gg] at this;exact this
theorem HA:∀{L L':List Nat},L.Pairwise (· < ·)→L'.Pairwise (· < ·)→(∀c,c∈L↔c∈L')→L=L'
 | [],[],_,_,_=>rfl
 | [],b::L',_,_,h=>by have:=(h b).mpr i6;simp at this
 | a::L,[],_,_,h=>by have:=(h a).mp i6;simp at this
 | a::L,b::L',h1,h2,h=>by
  obtain ⟨p1,q1⟩:=List.pairwise_cons.mp h1;obtain ⟨p2,q2⟩:=List.pairwise_cons.mp h2;have ab:a=b:=by
   rcases fg.mp ((h a).mp i6) with e | e;·exact e
   ·rcases fg.mp ((h b).mpr i6) with e' | e'
    ·exact e'.symm
    ·have:=p2 a e
     have:=p1 b e';lia
  subst ab;rw [HA q1 q2 fun c=>?_];constructor
  ·intro hc
   rcases fg.mp ((h c).mp (ia _ hc)) with e | e
   ·subst e
    have:=p1 c hc;lia
   ·exact e
  ·intro hc
   rcases fg.mp ((h c).mpr (ia _ hc)) with e | e
   ·subst e
    have:=p2 c hc;lia
   ·exact e
variable {j:Nat}
theorem XN(h:L.Pairwise (· < ·))(hi:i<L.length)(hj:j<L.length)(e:L.getD i 0=L.getD j 0):i=j:=by
 rcases Nat.lt_trichotomy i j with z | z | z
 ·have:=pZ h z hj
  lia
 ·exact z
 ·have:=pZ h z hi
  lia
variable {P k:Nat} {dG af:aD}
theorem dm.NZ(hq:az q){c:Nat→Int}{last:Int}(h:dm q P W dG A M c L last af)(hc:∀ps∈af,∀p∈ps,Canon q p)(hk:k<W):b5 q (dG.length*(cp dG.length*P)) (af.map fun ps=>ps.getD k (0,1)):=by
 have mem:∀p∈af.map (fun ps=>ps.getD k (0,1)),Canon q p:=fun p hp=>by
  obtain ⟨ps,h1,e⟩:=du.mp hp;have kl:k<ps.length:=by rw [h.g_ ps h1];exact hk
  rw [←e];refine hc ps h1 _ ?_;rw [getD_at kl];exact aE _
 by_cases z:q=0
 ·subst z
  obtain ⟨D,d1,dX,hD⟩:=h.common;obtain ⟨y,hy⟩:=oB (n:=L.length) (α:=Int) (R:=fun j x=>(atT af j k).1*D=x*(atT af j k).2∧x.natAbs≤dG.length*(cp dG.length*P)) fun j hj=>hD j k hj hk;have at':∀j,j<af.length→(af.map fun ps=>ps.getD k ((0:Int),(1:Int))).getD j o1=atT af j k:=fun j hj=>by
   unfold atT;rw [getD_at (by simpa using hj),i9,getD_at hj]
   rfl
  refine ⟨D,y,⟨fun _=>d1,fun z=>absurd rfl z⟩,dX,fun p hp=>?_,fun j hj=>?_⟩
  ·obtain ⟨j,hj,e⟩:=gQ.mp hp
   have cK:j<af.length:=by simpa using hj
   have w:=(hy j (by rw [←h.len];exact cK)).1
   rw [←at' j cK,getD_at hj,e] at w;exact Hm ((mem p hp).1 rfl) w
  ·have cK:j<af.length:=by simpa using hj
   rw [at' j cK];exact hy j (by rw [←h.len];exact cK)
 ·exact vJ (XJ hq z mem) h.red.zV
def XO:Sp:=fun vs H Q _=>∃(a:Addr) (ps:a_) (B:Nat) (D:Int),vs=[.ref a]∧bC B H 0 a ps∧ps.length≤100∧aH 0 D∧(∀p∈ps,p.2∣D)∧B<2 ^ 2048∧D.natAbs<2 ^ 2048∧∀(v:V) (H':Hp) (ts:List Int) (b:Int),ag H H'→vy H H' v ts b→CJ 0 ps ts b D B→Q v H'
def XQ(C:Addr):Sp:=fun vs H Q _=>∃(z a:Addr) (q:Int) (ps:a_) (B:Nat) (D:Int),vs=[.ref z,.ref a]∧eJ C H z q∧az q∧bC B H q a ps∧ps.length≤100∧aH q D∧(∀p∈ps,p.2∣D)∧B<2 ^ 2048∧1000≤B∧D.natAbs<2 ^ 2048∧∀(v:V) (H':Hp) (ts:List Int) (b:Int),ag H H'→vy H H' v ts b→CJ q ps ts b D B→Q v H'
def XR(C N:Addr):Sp:=fun vs H Q E=>∃(z a:Addr) (q:Int) (B P W:Nat) (aa:aD) (G:Nat→Nat),vs=[.ref z,.ref a]∧eJ C H z q∧az q∧aT B H q a aa∧1000≤B∧B<2 ^ 2048∧1≤aa.length∧aa.length≤40∧(∀ps∈aa,ps.length=W)∧W≤100∧(∀i,i<aa.length→b5 q (G i) (aa.getD i []))∧(∀i,1000≤G i∧G i<2 ^ 2048)∧cq aa.length G≤P∧aa.length*(cp aa.length*P)<2 ^ 2048 ∧
 ∀(p r l:Addr) (H':Hp) (A M:ax) (c:Nat→Int) (L:List Nat) (last:Int) (af:aD),ag H H'→H' p=some (.tup [.ref r,.ref l])→H' l=some (.lst (aZ L))→aT (aa.length*(cp aa.length*P)) H' q r af→dm q P W aa A M c L last af→Q (.ref p) H'
def XS(C N:Addr):Sp:=fun vs H Q E=>∃(z a b:Addr) (q:Int) (B P u:Nat) (aa l7:aD) (G:Nat→Nat),vs=[.ref z,.ref a,.ref b]∧eJ C H z q∧az q∧aT B H q a aa∧aT B H q b l7∧1000≤B∧B<2 ^ 2048∧1≤aa.length∧aa.length≤40∧l7.length=aa.length∧(∀ps∈aa,ps.length=aa.length)∧(∀ps∈l7,ps.length=u)∧u≤40∧(∀ps∈List.zipWith (·++·) aa l7,ps.length=aa.length+u)∧(∀i,i<aa.length→b5 q (G i) ((List.zipWith (·++·) aa l7).getD i []))∧(∀i,1000≤G i∧G i<2 ^ 2048)∧cq aa.length G≤P∧aa.length*(cp aa.length*P)<2 ^ 2048 ∧
 (∀(H':Hp) (A M:ax) (c:Nat→Int) (L:List Nat) (last:Int) (af:aD),ag H H'→dm q P (aa.length+u) (List.zipWith (·++·) aa l7) A M c L last af→L≠List.range aa.length→Q .aV H') ∧
 (∀(H':Hp) (A M:ax) (c:Nat→Int) (last:Int) (af:aD) (r:Addr),ag H H'→dm q P (aa.length+u) (List.zipWith (·++·) aa l7) A M c (List.range aa.length) last af→(∃H1 x,aT (aa.length*(cp aa.length*P)) H1 q x af)→rf (aa.length*(cp aa.length*P)) H H' q r (af.map fun ps=>ps.drop aa.length)→Q (.ref r) H')
def XT(C N:Addr):Sp:=fun vs H Q E=>∃(z a:Addr) (q:Int) (B m:Nat) (aa:aD),vs=[.ref z,.ref a]∧eJ C H z q∧az q∧aT B H q a aa∧10 ^ 60≤B∧B<2 ^ 2048∧1≤aa.length∧aa.length≤40∧(∀ps∈aa,ps.length=m) ∧
 (m≠aa.length→∀H',ag H H'→E (.ref N) none H')∧(m=aa.length→∃(P:Nat) (G:Nat→Nat),(∀i,i<aa.length→b5 q (G i) (aa.getD i []))∧(∀i,1000≤G i∧G i<2 ^ 2048)∧cq aa.length G≤P∧aa.length*(cp aa.length*P)<2 ^ 2048 ∧
 (Hl q m aa→∀H',ag H H'→Q .aV H') ∧
 (∀(r:Addr) (H':Hp) (cZ:aD),ag H H'→rf (m*(cp m*P)) H H' q r cZ→cZ.length=m→(∀ps∈cZ,ps.length=m)→p3 q m aa cZ→(∀j,j<m→b5 q (m*(cp m*P)) (cZ.getD j []))→(∀j,j<m→b5 q (m*(cp m*P)) (cZ.map fun ps=>ps.getD j (0,1)))→Q (.ref r) H'))
def XU(q:Int)(n m:Nat)(aa:aD)(vs:a_):Prop:=∀T D V E,b6 q n m (atT aa) T D→Xg q m (fun j=>vs.getD j o1) V E→∀t,t<n→Cg q (ai m fun k=>T t k*V k) 0
def j8(q:Int)(n m:Nat)(aa:aD)(L:List Nat):Prop:=L.Pairwise (· < ·)∧(∀l∈L,l<m)∧∀T D,b6 q n m (atT aa) T D→∀c,c<m→(c∈L↔∀x:Nat→Int,(∀k,c<k→x k=0)→(∀t,t<n→Cg q (ai m fun k=>T t k*x k) 0)→Cg q (x c) 0)
variable {aa:aD}
theorem j8.uniq{L':List Nat}(h:j8 q n m aa L)(h':j8 q n m aa L')(r:∃T D,b6 q n m (atT aa) T D):L=L':=by
 obtain ⟨T,D,r⟩:=r;refine HA h.1 h'.1 fun c=>?_;by_cases hc:c<m;·exact (h.2.2 T D r c hc).trans (h'.2.2 T D r c hc).symm
 ·exact ⟨fun y=>absurd (h.2.1 c y) hc,fun y=>absurd (h'.2.1 c y) hc⟩
section
variable {q:Int} {n m:Nat} {aa:aD} {as:a_}
variable {P W:Nat} {af dG:aD} {A M:ax} {c:Nat→Int} {L:List Nat} {last:Int}
variable {T:ax} {D:Int}
theorem dm.zY(hq:az q)(h:dm q P W dG A M c L last af)(hn:aa.length=n)(ph:dG.length=n)(hm:∀ps∈aa,ps.length=m)(hl:∀i k,i<n→k<m→atT dG i k=atT aa i k)(mW:m≤W)(hb:∀ps∈aa,∀p∈ps,aH q p.2)(r:b6 q n m (atT aa) T D)(hi:i<n)(hk:k<m):Cg q (T i k*c i) (A i k*D):=by
 have e:=h.row i k (by lia) (by lia)
 rw [hl i k hi hk] at e;obtain ⟨ps,h1,h2⟩:=rg hn hm hi hk;exact Hj hq e (r.2 i k hi hk) (hb ps h1 _ h2)
theorem N2(hq:az q)(h:∀k,k<m→Cg q (T t k*c t) (A t k*D)):Cg q (c t*ai m fun k=>T t k*x k) (D*ai m fun k=>A t k*x k):=by rw [cm,cm];exact dB fun k hk=>(Cg.of_eq (by grind)).trans (((h k hk).mulR (x k)).trans (Cg.of_eq (by grind)))
theorem dm.mov(hq:az q)(h:dm q P W dG A M c L last af)(hn:aa.length=n)(ph:dG.length=n)(hm:∀ps∈aa,ps.length=m)(hl:∀i k,i<n→k<m→atT dG i k=atT aa i k)(mW:m≤W)(hb:∀ps∈aa,∀p∈ps,aH q p.2)(rq:∀ps∈af,∀p∈ps,aH q p.2)(hL:∀l∈L,l<m){f:Nat}(fm:f<m)(nf:f∉L){vs:a_}(bv:∀k,k<m→aH q (vs.getD k o1).2)(hf:vs.getD f o1=(1,1))(h1:∀j,j<L.length→aX q (vs.getD (L.getD j 0) o1) (-(atT af j f).1,(atT af j f).2))(h0:∀k,k<m→k∉L→k≠f→vs.getD k o1=(0,1)):XU q n m aa vs:=fun T D V E rT rV t ht=>by
 have rd:=h.red.rd;rw [ph] at rd;have ct:=h.bot t (by lia)
 have cg:=fun k hk=>h.zY hq hn ph hm hl mW hb rT (i:=t) (k:=k) ht hk;have vf:Cg q (V f) E:=by have w:aX q (vs.getD f o1) (V f,E):=rV.2 f fm;rw [hf] at w;obtain ⟨k',e⟩:=w;dsimp only at e;exact ⟨-k',by rw [i7];lia⟩
 have s:=rd.sol hq (m:=m) (c:=f) (X:=fun k=>if k=f then 0 else -(V k)) (E:=E) mW (by lia) hL (fun j hj=>by
  have lm:L.getD j 0<m:=hL _ (by rw [getD_at hj];exact aE _)
  have ne:L.getD j 0≠f:=fun e=>nf (by rw [←e,getD_at hj];exact aE _)
  rw [aj ne];obtain ⟨ps,p1,p2⟩:=rg h.len h.g_ hj (show f<W by lia)
  have bp:=rq ps p1 _ p2;have v:=h.val j f hj (by lia)
  have w:=(h1 j hj).symm.trans (rV.2 _ lm) (bv _ lm);have w2:aX q (atT af j f) (-(V (L.getD j 0)),E):=by obtain ⟨k',e⟩:=w;dsimp only at e;exact ⟨-k',by dsimp only;rw [i7];grind⟩
  exact Hk hq v w2 bp) (fun k hk nk=>by
  by_cases y:k=f;·rw [ak y];exact Cg.refl _
  ·rw [aj y]
   have w:aX q (vs.getD k o1) (V k,E):=rV.2 k hk;rw [h0 k hk nk y] at w;obtain ⟨k',e⟩:=w;dsimp only at e;exact ⟨k',by lia⟩) ht
 refine fT hq (ct.nz hq) ?_;refine (N2 hq (x:=V) cg).trans ?_;have e1:(ai m fun k=>A t k*V k)=(ai m fun k=>if k=f then A t k*V k else 0)-ai m fun k=>A t k*(if k=f then 0 else -(V k)):=by
  rw [←NM];exact cQ fun k _=>by
   by_cases y:k=f;·rw [ak y,ak y];lia
   ·rw [aj y,aj y];grind
 rw [e1,jW m f (fun k=>A t k*V k) fm];have z:=(vf.mulL (A t f)).sub s;rw [Int.sub_self] at z;have:=z.mulL D;rw [cG] at this;exact this
theorem dm.N3(hq:az q)(h:dm q P W dG A M c L last af)(hn:aa.length=n)(ph:dG.length=n)(hm:∀ps∈aa,ps.length=m)(hl:∀i k,i<n→k<m→atT dG i k=atT aa i k)(mW:m≤W)(hb:∀ps∈aa,∀p∈ps,aH q p.2)(hL:∀l∈L,l<m):j8 q n m aa L:=by
 have rd:=h.red.rd
 rw [ph] at rd
 refine ⟨rd.up,hL,fun T D rT c0 hc=>(rd.Hy hq (show c0<W by lia)).trans ?_⟩
 have conv:∀x:Nat→Int,(∀k,c0<k→x k=0)→∀t,t<n→(Cg q (ai W fun k=>A t k*x k) 0↔Cg q (ai m fun k=>T t k*x k) 0):=fun x x0 t ht=>by
  have cut:Cg q (ai W fun k=>A t k*x k) (ai m fun k=>A t k*x k):=G4 mW fun i h1 _=>by
   rw [x0 i (by lia),cG]
   exact Cg.refl _
  have ct:=h.bot t (by lia)
  have s:=N2 (m:=m) hq (x:=x) (T:=T) (A:=A) (c:=c) (D:=D) (t:=t) fun k hk=>h.zY hq hn ph hm hl mW hb rT ht hk
  constructor
  ·intro z
   refine fT hq (ct.nz hq) (s.trans ?_)
   have:=(cut.symm.trans z).mulL D
   rw [cG] at this
   exact this
  ·intro z
   refine cut.trans (fT hq (rT.1.nz hq) (s.symm.trans ?_))
   have:=z.mulL (c t)
   rw [cG] at this
   exact this
 exact ⟨fun g x x0 hx=>g x x0 fun t ht=>(conv x x0 t ht).mpr (hx t ht),fun g x x0 hx=>g x x0 fun t ht=>(conv x x0 t ht).mp (hx t ht)⟩
end
section
variable {q:Int} {n m:Nat} {aa:aD} {as:a_}
theorem rz(ht:t<m):(bK m aa).getD t []=aa.map fun ps=>ps.getD t (0,1):=by
 rw [getD_at (by rw [j7];exact ht)]
 unfold bK;simp
theorem N4(hm:∀ps∈aa,ps.length=m)(h:ps∈bK m aa){p:Int×Int}(hp:p∈ps):∃rs∈aa,p∈rs:=by
 unfold bK at h;obtain ⟨j,hj,e⟩:=du.mp h;rw [←e] at hp;obtain ⟨rs,h1,h2⟩:=du.mp hp;have jm:j<rs.length:=by rw [hm rs h1];exact e7.mp hj
 exact ⟨rs,h1,by rw [←h2,getD_at jm];exact aE _⟩
variable {T:ax} {a:Nat→Int} {D F:Int}
end
theorem fF:(aZ L).length=L.length:=by simp [aZ]
def vL(m:Nat)(L:List Nat):List Nat:=(List.range m).filter fun i=>!decide (i∈L)
theorem XW:i∈vL m L↔i<m∧i∉L:=by unfold vL;rw [uI,e7];simp
theorem N5{α:Type}(p:α→Bool):∀l:List α,(l.filter fun i=>!p i).length+(l.filter p).length=l.length
 | []=>rfl
 | a::l=>by have ih:=N5 p l;rw [Bw,Bw,dN];cases p a <;> simp <;> lia
theorem HB(up:L.Pairwise (· < ·))(lt:∀l∈L,l<m):(vL m L).length+L.length=m:=by
 have e:(List.range m).filter (fun i=>decide (i∈L))=L:=by refine HA (List.Pairwise.filter _ List.pairwise_lt_range) up fun c=>?_;rw [uI,e7];simp;exact fun h=>lt c h
 have h:=N5 (fun i=>decide (i∈L)) (List.range m);rw [e,fH] at h;unfold vL;lia
structure CV (q:Int) (E:Nat) (ps:a_) (ts:List Int) (b:Int):Prop where
 len:ts.length=ps.length
 ok:aH q b
 bb:b.natAbs≤E
 eq:∀(i:Nat) (p:Int×Int) (t:Int),ps[i]?=some p→ts[i]?=some t→t*p.2=p.1*b
 bd:∀t∈ts,t.natAbs≤E
theorem aH.ne{b:Int}(h:aH q b):b≠0:=by
 by_cases z:q=0
 ·have:=h.1 z
  lia
 ·have:=h.2 z
  lia
variable {D:Int} {E B:Nat} {H:Hp}
theorem N6{b:Int}{ts:List Int}{B':Nat}{r:Addr}(hq:az q)(wd:CJ q ps ts b D B')(hr:bC B H q r ps)(hJ:aH q D)(bD:D.natAbs≤E)(hx:∀i,i<ps.length→(ps.getD i o1).1*D=x i*(ps.getD i o1).2∧(x i).natAbs≤E):CV q E ps ts b:=by
 have wr:=NK hq wd rfl hr hJ hx;refine ⟨wd.len,wd.ok,av (GW wd.dvd hJ.ne) bD,fun i p t h1 h2=>?_,fun t ht=>?_⟩
 ·have i1:i<ps.length:=(aG.mp h1).1
  have i2:i<ts.length:=(aG.mp h2).1;have e:=(wd.each i i1).1;rw [getD_at i1] at e;rw [gu i1] at h1;rw [gu i2] at h2;cases h1;cases h2;rw [←e];simp [i2]
 ·obtain ⟨i,hi,e⟩:=gQ.mp ht
  have:=wr.bd i;rw [←e];simpa [hi] using this
def XX(C:Addr):Sp:=fun vs H Q _=>∃(z a:Addr) (q:Int) (B E:Nat) (aa:aD),vs=[.ref z,.ref a]∧eJ C H z q∧az q∧aT B H q a aa∧1000≤B∧B<2 ^ 2048∧E<2 ^ 2048∧aa.length≤40∧(∀ps∈aa,ps.length≤40∧b5 q E ps) ∧
 ∀(b:Addr) (H':Hp) (ws:List (List Int×Int)),ag H H'→H b=none→zK H' b ws→ws.length=aa.length→(∀(i:Nat) (ps:a_) (w:List Int×Int),aa[i]?=some ps→ws[i]?=some w→CV q E ps w.1 w.2)→Q (.ref b) H'
def XY(C:Addr):Sp:=fun vs H Q _=>∃(z a:Addr) (q:Int) (u:V) (ws:List (List Int×Int)) (us:List Int) (c:Int) (E F:Nat),vs=[.ref z,.ref a,u]∧eJ C H z q∧az q∧zK H a ws∧ws.length≤40∧(∀w∈ws,w.1.length≤40∧(∀t∈w.1,t.natAbs≤E)∧aH q w.2∧w.2.natAbs≤E)∧ou H u us c∧us.length≤40∧(∀t∈us,t.natAbs≤F)∧aH q c∧c.natAbs≤F∧E<2 ^ 2048∧F<2 ^ 2048∧E*F<2 ^ 2048 ∧
 ∀(b:Addr) (H':Hp),ag H H'→H b=none→zL H' q b (ws.map fun w=>(jq w.1 us,w.2*c))→Q (.ref b) H'
def N7(C:Addr):Sp:=fun vs H Q _=>∃(z a o:Addr) (q:Int) (Ba Bo E F:Nat) (aa af:aD),vs=[.ref z,.ref a,.ref o]∧eJ C H z q∧az q∧aT Ba H q a aa∧aT Bo H q o af∧1000≤Ba∧Ba<2 ^ 2048∧1000≤Bo∧Bo<2 ^ 2048∧E<2 ^ 2048∧F<2 ^ 2048∧F*E<2 ^ 2048∧aa.length≤40∧af.length≤40∧(∀ps∈aa,ps.length≤40∧b5 q E ps)∧(∀ps∈af,ps.length≤40∧b5 q F ps) ∧
 ∀(b:Addr) (H':Hp) (vs:List V),ag H H'→H b=none→H' b=some (.lst vs)→vs.length=aa.length→(∀(i:Nat) (v:V) (ps:a_),vs[i]?=some v→aa[i]?=some ps→∃r:Addr,v=.ref r∧H r=none∧zL H' q r (af.map fun rs=>aW rs ps (0,1)))→Q (.ref b) H'
variable {w:World} {K:aL} {mg:d8} {base:Heap} {CX:iW} {fd:FuncData} {sp zZ:Sp}
theorem aK.or{P:Program}{f:Addr}{ps:List Str}(F:aK P w K mg base CX k f fd ps sp)(G:aK P w K mg base CX k f fd ps zZ):aK P w K mg base CX k f fd ps (fun vs H Q E=>sp vs H Q E∨zZ vs H Q E):=
 ⟨fun vs H Q E q=>q.elim (F.len vs H Q E) (G.len vs H Q E),fun A outer s H args us vs Q E hr he hb hv hs=>hs.elim (F.run A outer s H args us vs Q E hr he hb hv) (G.run A outer s H args us vs Q E hr he hb hv)⟩
section
variable {q:Int} {n m:Nat} {aa:aD} {as xs:a_}
theorem N8{rs:a_}{f g:Nat→Int}{D1 D2:Int}(lp:ps.length=n)(lr:rs.length=n)(h1:∀i,i<n→aX q (ps.getD i o1) (f i,D1))(h2:∀i,i<n→aX q (rs.getD i o1) (g i,D2)):aX q (aW ps rs (0,1)) (ai n fun i=>f i*g i,D1*D2):=by
 have:=GQ n ps rs f g (0,1) 0 lp lr h1 h2 ⟨0,by simp⟩
 rw [mj] at this;exact this
end
theorem HC{q:Int}(hq:az q)(n:Nat)(A:ax):∀cur,∃(M:ax) (L:List Nat),d6 q n A M L cur
 | 0=>⟨A,[],d6.start hq n A⟩
 | cur+1=>by
  obtain ⟨M,L,h⟩:=HC hq n A cur;by_cases z:∀i,i<n→L.length≤i→Cg q (M i cur) 0;·exact ⟨M,L,h.skip z⟩
  ·obtain ⟨s,hs⟩:=Classical.not_forall.mp z
   obtain ⟨sn,hs⟩:=BJ.mp hs;obtain ⟨ls,hs⟩:=BJ.mp hs;have ns:¬q∣M s cur:=fun d=>hs (by obtain ⟨k,e⟩:=d;exact ⟨k,by lia⟩)
   have e1:bZ M L.length s L.length=M s:=by
    unfold bZ;by_cases y:L.length=s;·rw [ak y,y]
    ·rw [aj y,ak rfl]
   have h':=h.swap hq ls sn (M':=bZ M L.length s) e1 (by unfold bZ;rw [ak rfl]) (fun i h1 h2=>by unfold bZ;rw [aj h2,aj h1])
   generalize bZ M L.length s=M1 at e1 h';have np:¬q∣M1 L.length cur:=by rw [e1];exact ns
   refine ⟨fun i k=>if i=L.length then M1 i k else M1 L.length cur*M1 i k-M1 i cur*M1 L.length k,L++[cur],h'.step hq (u:=1) (by lia) (fun d=>?_) np (by funext k;rw [ak rfl]) fun i k _ ne=>?_⟩
   ·exact (aH.one (q:=q)).nz hq d
   ·rw [aj ne,uV]
    exact Cg.refl _
theorem XZ(hq:az q){r:Nat}(rk:r<k)(N:ax):∃(x:Nat→Int) (c:Nat),c<k∧¬q∣x c∧∀j,j<r→Cg q (ai k fun s=>N j s*x s) 0:=by
 obtain ⟨M,L,h⟩:=HC hq r N k;have fl:=HB h.up h.lt;have ll:=h.len;have f0:0<(vL k L).length:=by lia
 obtain ⟨ck,cL⟩:=XW.mp (aE f0);generalize (vL k L)[0]=c at ck cL;have no:=fun y=>cL ((h.Hy hq ck).mpr y);obtain ⟨x,hx⟩:=Classical.not_forall.mp no;obtain ⟨x0,hx⟩:=BJ.mp hx;obtain ⟨xk,nx⟩:=BJ.mp hx;exact ⟨x,c,ck,fun d=>nx (by obtain ⟨k',e⟩:=d;exact ⟨k',by lia⟩),xk⟩
def X2:Sp:=fun vs H Q _=>∃(a:Addr) (n m:Nat) (xs:List V),vs=[.ref a,.int (n:Int),.int (m:Int)]∧H a=some (.lst xs)∧xs.length=n∧n≤40∧(∀v∈xs,∃(r:Addr) (us:List V),v=.ref r∧H r=some (.lst us)∧us.length=m)∧∀H',ag H H'→Q (.bl true) H'
def X3:Sp:=fun vs H Q _=>∃a:Addr,vs=[.ref a]∧H a=some (.lst [])∧Q (.int 0) H
def X4:Sp:=fun vs H Q _=>∃z a:Addr,vs=[.ref z,.ref a]∧H a=some (.lst [])∧∀(p r l:Addr) (H':Hp),ag H H'→H' p=some (.tup [.ref r,.ref l])→H' r=some (.lst [])→H' l=some (.lst [])→Q (.ref p) H'
structure HE (q:Int) (B P W:Nat) (aa:aD) (G:Nat→Nat):Prop where
 b1:1000≤B
 b2:B<2 ^ 2048
 n1:1≤aa.length
 eO:aa.length≤40
 g_:∀ps∈aa,ps.length=W
 N9:W≤40
 row:∀i,i<aa.length→b5 q (G i) (aa.getD i [])
 g:∀i,1000≤G i∧G i<2 ^ 2048
 pr:cq aa.length G≤P
 mid:aa.length*(cp aa.length*P)<2 ^ 2048
def X5(C N:Addr):Sp:=fun vs H Q E=>∃(z a:Addr) (q:Int) (B P W:Nat) (aa:aD) (G:Nat→Nat),vs=[.ref z,.ref a]∧eJ C H z q∧az q∧aT B H q a aa∧HE q B P W aa G ∧
 ∀(L:List Nat) (H':Hp),ag H H'→j8 q aa.length W aa L→L.length≤aa.length→Q (.int (L.length:Int)) H'
def p5(L:List Nat)(x:Nat→Int)(k:Nat):Int:=ai L.length fun j=>if L.getD j 0=k then x j else 0
theorem HF(hL:∀l∈L,l<W)(B:Nat→Int)(x:Nat→Int):(ai W fun k=>B k*p5 L x k)=ai L.length fun j=>B (L.getD j 0)*x j:=by
 unfold p5;rw [cQ (g:=fun k=>ai L.length fun j=>B k*(if L.getD j 0=k then x j else 0)) fun k _=>cm _ _ _,zO]
 refine cQ fun j hj=>?_;have lw:L.getD j 0<W:=hL _ (by rw [getD_at hj];exact aE _)
 rw [←jW W (L.getD j 0) (fun k=>B k*x j) lw];exact cQ fun k _=>by
  by_cases y:k=L.getD j 0;·rw [ak y,ak y.symm]
  ·rw [aj y,aj (fun e=>y e.symm),cG]
theorem X6(up:L.Pairwise (· < ·))(x:Nat→Int)(hj:j<L.length):p5 L x (L.getD j 0)=x j:=by
 unfold p5;rw [←jW L.length j x hj];exact cQ fun i hi=>by
  by_cases y:i=j;·rw [ak y,ak (by rw [y])]
  ·rw [aj y,aj fun e=>y (XN up hi hj e)]
theorem X7(x:Nat→Int)(hk:k∉L):p5 L x k=0:=by unfold p5;rw [cQ (g:=fun _=>0) fun j hj=>aj fun e=>hk (by rw [←e,getD_at hj];exact aE _),gg]
theorem d6.X8(hq:az q)(h:d6 q n A M L W)(hx:∀t,t<n→Cg q (ai L.length fun j=>A t (L.getD j 0)*x j) 0)(hi:i<L.length):Cg q (x i) 0:=by
 have k0:=h.vK hq (m:=W) (x:=p5 L x) (fun t ht=>(Cg.of_eq (HF h.lt _ _)).trans (hx t ht)) (dC hi h.len);rw [HF h.lt] at k0;have s:Cg q (ai L.length fun j=>M i (L.getD j 0)*x j) (ai L.length fun j=>if j=i then M i (L.getD j 0)*x j else 0):=dB fun j hj=>by
  by_cases y:j=i;·rw [ak y];exact Cg.refl _
  ·rw [aj y]
   have:=(h.off i j (dC hi h.len) hj (fun e=>y e.symm)).mulR (x j);rw [iT] at this;exact this
 rw [jW _ _ (fun j=>M i (L.getD j 0)*x j) hi] at s;exact fT hq (h.lead i hi) (s.symm.trans k0)
theorem dm.col(hq:az q){R:ax}{c:Nat→Int}{last E:Int}(h:dm q P W dG A M c L last af)(rq:∀ps∈af,∀p∈ps,aH q p.2)(rR:b6 q L.length W (atT af) R E)(ht:t<dG.length)(hk:k<W):Cg q (ai L.length fun j=>A t (L.getD j 0)*R j k) (A t k*E):=by
 have s:=h.red.rd.sol hq (m:=W) (c:=k) (X:=p5 L fun j=>R j k) (E:=E) (aI _) hk h.red.rd.lt (fun j hj=>by rw [X6 h.red.rd.up _ hj];obtain ⟨ps,p1,p2⟩:=rg h.len h.g_ hj hk;exact Hk hq (h.val j k hj hk) (rR.2 j k hj hk) (rq ps p1 _ p2)) (fun k' _ nk=>by rw [X7 _ nk];exact Cg.refl _) ht
 rw [HF h.red.rd.lt] at s;exact s
theorem d6.N_(hq:az q)(h:d6 q n A M L W)(ind:∀y:Nat→Int,(∀k,k<W→Cg q (ai n fun t=>y t*A t k) 0)→∀t,t<n→Cg q (y t) 0):L.length=n:=by
 refine o_ fun ne=>?_;have ll:=h.len;obtain ⟨f,hf⟩:=oB (n:=n) (α:=Int×(Nat→Int)) (R:=fun t p=>¬q∣p.1∧∀k,k<W→Cg q (p.1*A t k) (ai L.length fun j=>p.2 j*M j k)) fun t ht=>by obtain ⟨e,y,n1,h1,_⟩:=h.done ht;exact ⟨(e,y),n1,h1⟩
 obtain ⟨x,c,cn,nx,hx⟩:=XZ hq (show L.length<n by lia) fun j t=>(f t).2 j
 have z:=ind (fun t=>x t*(f t).1) (fun k hk=>by
  have e1:Cg q (ai n fun t=>x t*(f t).1*A t k) (ai n fun t=>x t*ai L.length fun j=>(f t).2 j*M j k):=dB fun t ht=>(Cg.of_eq (by grind)).trans (((hf t ht).2 k hk).mulL (x t))
  refine e1.trans ?_;have e2:(ai n fun t=>x t*ai L.length fun j=>(f t).2 j*M j k)=ai L.length fun j=>M j k*ai n fun t=>(f t).2 j*x t:=by rw [cQ (g:=fun t=>ai L.length fun j=>x t*((f t).2 j*M j k)) fun t _=>cm _ _ _,zO];refine cQ fun j _=>?_;rw [cm];exact cQ fun t _=>by grind
  rw [e2];have:=dB (q:=q) (n:=L.length) (f:=fun j=>M j k*ai n fun t=>(f t).2 j*x t) (g:=fun _=>0) fun j hj=>by have z:=(hx j hj).mulL (M j k);rw [cG] at z;exact z
  rw [gg] at this;exact this) c cn
 exact iL hq nx (hf c cn).1 (Hw z)
def a7(L:List Nat)(aa:aD):List (List (Int×Int)):=aa.map fun ps=>L.map fun c=>ps.getD c o1
def cR(D:List Nat)(aa:aD):List (List (Int×Int)):=D.map fun i=>aa.getD i []
section
variable {q:Int} {n m:Nat} {aa:aD} {L D:List Nat}
theorem fU:(a7 L aa).length=aa.length:=by unfold a7;simp
theorem l8:∀ps∈a7 L aa,ps.length=L.length:=fun ps hp=>by unfold a7 at hp;obtain ⟨p,_,e⟩:=du.mp hp;rw [←e,aY]
theorem vM(ht:t<aa.length):(a7 L aa).getD t []=L.map fun c=>(aa.getD t []).getD c o1:=by
 rw [getD_at (by rw [fU];exact ht),getD_at ht]
 unfold a7;simp
theorem rC(ht:t<aa.length)(hj:j<L.length):atT (a7 L aa) t j=atT aa t (L.getD j 0):=by unfold atT;rw [vM ht,getD_at (by simpa using hj),i9,getD_at hj]
theorem rD:(cR D aa).length=D.length:=by unfold cR;simp
theorem CW(hi:i<D.length):(cR D aa).getD i []=aa.getD (D.getD i 0) []:=by
 rw [getD_at (by rw [rD];exact hi),getD_at hi]
 unfold cR;simp
theorem CY(hi:i<D.length):atT (cR D aa) i j=atT aa (D.getD i 0) j:=by unfold atT;rw [CW hi]
theorem CZ(hm:∀ps∈aa,ps.length=m)(hD:∀d∈D,d<aa.length):∀ps∈cR D aa,ps.length=m:=fun ps hp=>by unfold cR at hp;obtain ⟨d,hd,e⟩:=du.mp hp;rw [←e,getD_at (hD d hd)];exact hm _ (aE _)
theorem X9(ht:t<m)(hk:k<aa.length):atT (bK m aa) t k=atT aa k t:=by
 unfold atT;rw [rz ht,getD_at (by simpa using hk),i9,getD_at hk]
 rfl
theorem z8:∀ps∈bK m aa,ps.length=aa.length:=fun ps hp=>by unfold bK at hp;obtain ⟨j,_,e⟩:=du.mp hp;rw [←e,aY]
variable {T:ax} {F:Int}
theorem z9(hn:aa.length=n)(hL:∀l∈L,l<m)(r:b6 q n m (atT aa) T F):b6 q n L.length (atT (a7 L aa)) (fun t j=>T t (L.getD j 0)) F:=by
 refine ⟨r.1,fun t j ht hj=>?_⟩;rw [rC (by lia) hj]
 exact r.2 t _ ht (hL _ (by rw [getD_at hj];exact aE _))
theorem C0(hn:aa.length=n)(r:b6 q n m (atT aa) T F):b6 q m n (atT (bK m aa)) (fun j t=>T t j) F:=by
 refine ⟨r.1,fun t j ht hj=>?_⟩;rw [X9 ht (by lia)]
 exact r.2 j t hj ht
theorem HG(hD:∀d∈D,d<n)(r:b6 q n m (atT aa) T F):b6 q D.length m (atT (cR D aa)) (fun i j=>T (D.getD i 0) j) F:=by refine ⟨r.1,fun t j ht hj=>?_⟩;rw [CY ht];exact r.2 _ j (hD _ (by rw [getD_at ht];exact aE _)) hj
variable {P P2:Nat} {af vN:aD} {A M A2 M2:ax} {c c2:Nat→Int} {last HH:Int}
theorem dm.Oa(hq:az q)(h:dm q P m aa A M c L last af)(hn:aa.length=n)(hm:∀ps∈aa,ps.length=m)(hb:∀ps∈aa,∀p∈ps,aH q p.2)(r:b6 q n m (atT aa) T F)(hx:∀t,t<n→Cg q (ai L.length fun j=>T t (L.getD j 0)*x j) 0)(hi:i<L.length):Cg q (x i) 0:=by
 refine h.red.rd.X8 hq (fun t ht=>?_) hi;have Ob:t<n:=by lia
 refine fT hq (r.1.nz hq) ?_;have s:Cg q (F*ai L.length fun j=>A t (L.getD j 0)*x j) (c t*ai L.length fun j=>T t (L.getD j 0)*x j):=by
  rw [cm,cm];exact dB fun j hj=>by
   have lj:L.getD j 0<m:=h.red.rd.lt _ (by rw [getD_at hj];exact aE _)
   have e:=h.zY hq hn hn hm (fun _ _ _ _=>rfl) (aI _) hb r Ob lj;exact (Cg.of_eq (by grind)).trans ((e.symm.mulR (x j)).trans (Cg.of_eq (by grind)))
 have z:=(hx t Ob).mulL (c t);rw [cG] at z;exact s.trans z
theorem dm.Oc(hq:az q)(h:dm q P m aa A M c L last af)(hn:aa.length=n)(hm:∀ps∈aa,ps.length=m)(hb:∀ps∈aa,∀p∈ps,aH q p.2)(rq:∀ps∈af,∀p∈ps,aH q p.2){R:ax}{E:Int}(r:b6 q n m (atT aa) T F)(rR:b6 q L.length m (atT af) R E)(ht:t<n)(hk:k<m):Cg q (ai L.length fun j=>T t (L.getD j 0)*R j k) (T t k*E):=by
 have ct:=h.bot t (by lia)
 refine oC hq (ct.nz hq) ?_;have e:=fun k hk=>h.zY hq hn hn hm (fun _ _ _ _=>rfl) (aI _) hb r (i:=t) (k:=k) ht hk;have s:Cg q (c t*ai L.length fun j=>T t (L.getD j 0)*R j k) (F*ai L.length fun j=>A t (L.getD j 0)*R j k):=by
  rw [cm,cm];exact dB fun j hj=>by
   have lj:L.getD j 0<m:=h.red.rd.lt _ (by rw [getD_at hj];exact aE _)
   exact (Cg.of_eq (by grind)).trans (((e _ lj).mulR (R j k)).trans (Cg.of_eq (by grind)))
 have s2:=(h.col hq rq rR (show t<aa.length by lia) hk).mulL F
 exact s.trans (s2.trans ((Cg.of_eq (by grind)).trans (((e k hk).symm.mulR E).trans (Cg.of_eq (by grind)))))
theorem dm.Od(hq:az q)(h:dm q P m aa A M c L last af)(h2:dm q P2 n (bK L.length (a7 L aa)) A2 M2 c2 D HH vN)(hn:aa.length=n)(hm:∀ps∈aa,ps.length=m)(hb:∀ps∈aa,∀p∈ps,aH q p.2)(oH:∀ps∈bK L.length (a7 L aa),∀p∈ps,aH q p.2)(r:∃T F,b6 q n m (atT aa) T F):D.length=L.length:=by
 obtain ⟨T,F,r⟩:=r;have lc:(bK L.length (a7 L aa)).length=L.length:=j7 _ _;have rd:=h2.red.rd;rw [lc] at rd;have rL:=C0 (aa:=a7 L aa) (by rw [fU];exact hn) (z9 hn h.red.rd.lt r)
 refine rd.N_ hq fun y hy j hj=>?_;have z:=h.Oa hq hn hm hb r (x:=fun j=>y j*c2 j) (fun t ht=>by
  have s:Cg q (ai L.length fun j=>T t (L.getD j 0)*(y j*c2 j)) (F*ai L.length fun j=>y j*A2 j t):=by
   rw [cm];exact dB fun j hj=>by
    have e:=h2.zY hq lc lc (m:=n) (fun ps hp=>by rw [z8 ps hp,fU];exact hn) (fun _ _ _ _=>rfl) (aI _) oH rL hj ht
    exact (Cg.of_eq (by grind)).trans ((e.mulL (y j)).trans (Cg.of_eq (by grind)))
  have z:=(hy t ht).mulL F;rw [cG] at z;exact s.trans z) hj
 have X_:=(h2.bot j (by rw [lc];exact hj)).nz hq
 refine fT hq X_ ((Cg.of_eq (fi ..)).trans z)
theorem dm.Ya(hq:az q)(h:dm q P m aa A M c L last af)(h2:dm q P2 n (bK L.length (a7 L aa)) A2 M2 c2 D HH vN)(hn:aa.length=n)(hm:∀ps∈aa,ps.length=m)(hb:∀ps∈aa,∀p∈ps,aH q p.2)(oH:∀ps∈bK L.length (a7 L aa),∀p∈ps,aH q p.2)(HI:∀ps∈vN,∀p∈ps,aH q p.2)(r:∃T F,b6 q n m (atT aa) T F)(r2:∃R E,b6 q D.length n (atT vN) R E)(k:Hl q L.length (cR D (a7 L aa))):False:=by
 have dl:=h.Od hq h2 hn hm hb oH r;obtain ⟨T,F,r⟩:=r;obtain ⟨R,E,r2⟩:=r2;obtain ⟨x,c0,cl,nx,hx⟩:=k;have lc:(bK L.length (a7 L aa)).length=L.length:=j7 _ _;have rP:=z9 hn h.red.rd.lt r;have rL:=C0 (aa:=a7 L aa) (by rw [fU];exact hn) rP
 have hD:∀d∈D,d<n:=h2.red.rd.lt;have FR:=hx _ F (by have:=HG hD rP;rw [dl] at this;exact this)
 refine nx (Hw (h.Oa hq hn hm hb r (x:=x) (fun t ht=>?_) cl));refine fT hq (r2.1.nz hq) ?_;have s:Cg q (E*ai L.length fun j=>T t (L.getD j 0)*x j) (ai L.length fun j=>x j*ai D.length fun i=>T (D.getD i 0) (L.getD j 0)*R i t):=by
  rw [cm];exact dB fun j hj=>by
   have e:=h2.Oc hq lc (fun ps hp=>by rw [z8 ps hp,fU];exact hn) oH HI rL r2 hj ht
   exact (Cg.of_eq (by grind)).trans ((e.symm.mulL (x j)).trans (Cg.refl _))
 refine s.trans ?_;have e2:(ai L.length fun j=>x j*ai D.length fun i=>T (D.getD i 0) (L.getD j 0)*R i t)=ai D.length fun i=>R i t*ai L.length fun j=>T (D.getD i 0) (L.getD j 0)*x j:=by rw [cQ (g:=fun j=>ai D.length fun i=>x j*(T (D.getD i 0) (L.getD j 0)*R i t)) fun j _=>cm _ _ _,zO];refine cQ fun i _=>?_;rw [cm];exact cQ fun j _=>by grind
 rw [e2];have:=dB (q:=q) (n:=D.length) (f:=fun i=>R i t*ai L.length fun j=>T (D.getD i 0) (L.getD j 0)*x j) (g:=fun _=>0) fun i hi=>by
  have z:=(FR i (by lia)).mulL (R i t)
  rw [cG] at z;exact z
 rw [gg] at this;exact this
end
def Yb:Sp:=fun vs H Q _=>∃(a l:Addr) (xs:List V) (L:List Nat),vs=[.ref a,.ref l]∧H a=some (.lst xs)∧H l=some (.lst (aZ L))∧(∀i∈L,i<xs.length)∧L.length≤40 ∧
 ∀(b:Addr) (H':Hp),ag H H'→H b=none→H' b=some (.lst (L.map fun i=>xs.getD i .aV))→Q (.ref b) H'
def Yc:Sp:=fun vs H Q _=>∃a:Addr,vs=[.ref a]∧H a=some (.lst [])∧Q (.int 0) H
def Yd:Sp:=fun vs H Q _=>∃z a b:Addr,vs=[.ref z,.ref a,.ref b]∧H a=some (.lst [])∧H b=some (.lst [])∧∀(r:Addr) (H':Hp),ag H H'→H r=none→H' r=some (.lst [])→Q (.ref r) H'
def Ye(C:Addr):Sp:=fun vs H Q _=>∃(z a:Addr) (q:Int),vs=[.ref z,.ref a]∧eJ C H z q∧az q∧H a=some (.lst [])∧∀(r:Addr) (H':Hp),ag H H'→H r=none→H' r=some (.lst [])→Q (.ref r) H'
variable {a:Addr} {xs:List V}
theorem Oe(e:H a=some (.lst (L.map fun i=>xs.getD i .aV)))(lx:xs.length=ps.length)(f:∀(i:Nat) (v:V) (p:Int×Int),xs[i]?=some v→ps[i]?=some p→cD B H q v p.1 p.2)(hL:∀i∈L,i<ps.length):bC B H q a (L.map fun c=>ps.getD c o1):=by
 refine ⟨_,e,by rw [aY,aY],fun i v p h1 h2=>?_⟩
 have hi:i<L.length:=by have:=(aG.mp h1).1;simpa using this
 have li:=hL _ (aE hi);have z_:L[i]<xs.length:=by lia
 rw [bj,gu hi] at h1 h2;simp [li,z_] at h1 h2;subst h1 h2;exact f L[i] xs[L[i]] ps[L[i]] (by simp [z_]) (by simp [li])
theorem Yf(e:H a=some (.lst (L.map fun i=>xs.getD i .aV)))(lx:xs.length=aa.length)(f:∀(i:Nat) (v:V) (ps:a_),xs[i]?=some v→aa[i]?=some ps→∃r:Addr,v=.ref r∧bC B H q r ps)(hL:∀i∈L,i<aa.length):aT B H q a (cR L aa):=by
 refine ⟨_,e,by rw [aY,rD],fun i v p h1 h2=>?_⟩
 have hi:i<L.length:=by have:=(aG.mp h1).1;simpa using this
 have li:=hL _ (aE hi);have z_:L[i]<xs.length:=by lia
 unfold cR at h2;rw [bj,gu hi] at h1 h2;simp [li,z_] at h1 h2;subst h1 h2;exact f L[i] xs[L[i]] aa[L[i]] (by simp [z_]) (by simp [li])
theorem Of(h:b5 q E ps)(hL:∀i∈L,i<ps.length):b5 q E (L.map fun c=>ps.getD c o1):=by
 obtain ⟨D,x,ok,bD,dv,hx⟩:=h;refine ⟨D,fun j=>x (L.getD j 0),ok,bD,fun p hp=>?_,fun j hj=>?_⟩
 ·obtain ⟨c,hc,e⟩:=du.mp hp
  rw [←e];refine dv _ ?_;rw [getD_at (hL c hc)];exact aE _
 ·have cK:j<L.length:=by simpa using hj
  have e:(L.map fun c=>ps.getD c o1).getD j o1=ps.getD (L.getD j 0) o1:=by rw [getD_at hj,i9,getD_at cK]
  rw [e];exact hx _ (hL _ (by rw [getD_at cK];exact aE _))
def UB(k E:Nat):Prop:=∀r,r≤k→r*(cp r*E ^ r)<2 ^ 2048
theorem C2(E:Nat):∀r,cq r (fun _=>E)=E ^ r
 | 0=>rfl
 | r+1=>by show cq r (fun _=>E)*E=E ^ (r+1);rw [C2 E r,mr]
def Yg(C N:Addr):Sp:=fun vs H Q _=>∃(z a:Addr) (q:Int) (B E F m:Nat) (aa:aD),vs=[.ref z,.ref a]∧eJ C H z q∧az q∧aT B H q a aa∧10 ^ 60≤B∧B<2 ^ 2048∧1≤aa.length∧aa.length≤30∧(∀ps∈aa,ps.length=m)∧m≤30∧(∀ps∈aa,b5 q E ps)∧(∀ps∈bK m aa,b5 q F ps)∧1000≤E∧E<2 ^ 2048∧1000≤F∧F<2 ^ 2048∧UB aa.length E∧UB m F∧UB m E ∧
 ∀(p lf rt dn ac bk:Addr) (L D:List Nat) (af cZ:aD) (H':Hp),ag H H'→H' p=some (.tup [.ref lf,.ref rt,.ref dn,.ref ac,.ref bk])→H' ac=some (.lst (aZ L))→H' dn=some (.lst (aZ D))→aT B H' q lf (a7 L aa)→aT (aa.length*(cp aa.length*E ^ aa.length)) H' q rt af→aT (L.length*(cp L.length*E ^ L.length)) H' q bk cZ→
  j8 q aa.length m aa L→L.length≤aa.length→D.length=L.length→D.Pairwise (· < ·)→(∀d∈D,d<aa.length)→af.length=L.length→(∀ps∈af,ps.length=m)→cZ.length=L.length→(∀ps∈cZ,ps.length=L.length)→
  (∀T F R E',b6 q aa.length m (atT aa) T F→b6 q L.length m (atT af) R E'→∀t k,t<aa.length→k<m→Cg q (ai L.length fun j=>T t (L.getD j 0)*R j k) (T t k*E'))→
  (L.length≠0→p3 q L.length (cR D (a7 L aa)) cZ)→(∀ps∈af,b5 q (aa.length*(cp aa.length*E ^ aa.length)) ps)→(∀ps∈cZ,b5 q (L.length*(cp L.length*E ^ L.length)) ps)→(∀ps∈bK m af,b5 q (aa.length*(cp aa.length*E ^ aa.length)) ps)→(∀ps∈bK L.length cZ,b5 q (L.length*(cp L.length*E ^ L.length)) ps)→Q (.ref p) H'
def Yh:Sp:=fun vs H Q _=>∃(l:Addr) (L:List Nat),vs=[.ref l]∧H l=some (.lst (aZ L))∧L.length≤40∧L.Pairwise (· < ·)∧∀H',ag H H'→Q (.bl true) H'
def Yi:Sp:=fun vs H Q _=>∃(l:Addr) (L:List Nat) (k b:Nat),vs=[.ref l,.int (k:Int),.int (b:Int)]∧H l=some (.lst (aZ L))∧L.length=k∧k≤40∧L.Pairwise (· < ·)∧(∀i∈L,i<b)∧∀H',ag H H'→Q (.bl true) H'
def Yj(C:Addr):Sp:=fun vs H Q _=>∃(z a o:Addr) (q:Int) (Ba Bo E F r m:Nat) (aa af:aD),vs=[.ref z,.ref a,.ref o,.int (m:Int)]∧eJ C H z q∧az q∧aT Ba H q a aa∧aT Bo H q o af∧1000≤Ba∧Ba<2 ^ 2048∧1000≤Bo∧Bo<2 ^ 2048∧E<2 ^ 2048∧F<2 ^ 2048∧F*E<2 ^ 2048∧aa.length≤40∧af.length≤40∧m≤40∧af.length=r∧(∀ps∈af,ps.length=m)∧(∀ps∈aa,ps.length=r∧b5 q E ps)∧(∀ps∈bK m af,b5 q F ps) ∧
 ∀(b:Addr) (H':Hp) (vs:List V),ag H H'→H b=none→H' b=some (.lst vs)→vs.length=aa.length→(∀(i:Nat) (v:V) (ps:a_),vs[i]?=some v→aa[i]?=some ps→∃r:Addr,v=.ref r∧H r=none∧zL H' q r ((bK m af).map fun rs=>aW rs ps (0,1)))→Q (.ref b) H'
def Yk:Sp:=fun vs H Q _=>∃a:Addr,vs=[.ref a]∧H a=some (.lst [])∧∀(b:Addr) (H':Hp),ag H H'→H b=none→H' b=some (.lst [])→Q (.ref b) H'
def Yl(C:Addr):Sp:=fun vs H Q _=>∃(z a o:Addr) (q:Int) (Ba Bo E F r:Nat) (aa af:aD),vs=[.ref z,.ref a,.ref o]∧eJ C H z q∧az q∧aT Ba H q a aa∧aT Bo H q o af∧1000≤Ba∧Ba<2 ^ 2048∧1000≤Bo∧Bo<2 ^ 2048∧E<2 ^ 2048∧F<2 ^ 2048∧F*E<2 ^ 2048∧r≤40∧aa.length=r∧af.length=r∧(∀ps∈aa,ps.length=r∧b5 q E ps)∧(∀ps∈af,ps.length=r)∧(∀ps∈bK r af,b5 q F ps) ∧
 ∀(b:Addr) (H':Hp) (vs:List V),ag H H'→H b=none→H' b=some (.lst vs)→vs.length=aa.length→(∀(i:Nat) (v:V) (ps:a_),vs[i]?=some v→aa[i]?=some ps→∃r':Addr,v=.ref r'∧H r'=none∧zL H' q r' ((bK r af).map fun rs=>aW rs ps (0,1)))→Q (.ref b) H'
theorem aT.has(h:aT B H q a aa)(hm:∀ps∈aa,ps.length=m):∃xs:List V,H a=some (.lst xs)∧xs.length=aa.length∧∀v∈xs,∃(r:Addr) (us:List V),v=.ref r∧H r=some (.lst us)∧us.length=m:=by
 obtain ⟨vs,e,l,f⟩:=h;refine ⟨vs,e,l,fun v hv=>?_⟩;obtain ⟨i,hi,ei⟩:=gQ.mp hv;have i2:i<aa.length:=by lia
 obtain ⟨r,e1,us,e2,e3,_⟩:=f i v aa[i] (by rw [gu hi,ei]) (by simp [i2])
 exact ⟨r,us,e1,e2,by rw [e3];exact hm _ (aE i2)⟩
def Ym(C N:Addr):Sp:=fun vs H Q _=>∃(z a p lf rt dn ac bk:Addr) (q:Int) (B Bx By E Fx Fy m:Nat) (aa af cZ:aD) (L D:List Nat),vs=[.ref z,.ref a,.ref p]∧eJ C H z q∧az q∧aT B H q a aa∧H p=some (.tup [.ref lf,.ref rt,.ref dn,.ref ac,.ref bk])∧H ac=some (.lst (aZ L))∧H dn=some (.lst (aZ D))∧aT B H q lf (a7 L aa)∧aT Bx H q rt af∧aT By H q bk cZ ∧
 1000≤B∧B<2 ^ 2048∧1000≤Bx∧Bx<2 ^ 2048∧1000≤By∧By<2 ^ 2048∧E<2 ^ 2048∧Fx<2 ^ 2048∧Fy<2 ^ 2048∧Fx*E<2 ^ 2048∧Fy*E<2 ^ 2048∧1≤aa.length∧aa.length≤30∧(∀ps∈aa,ps.length=m)∧m≤30∧(∀ps∈aa,b5 q E ps) ∧
 j8 q aa.length m aa L∧L.length≤aa.length∧D.length=L.length∧D.Pairwise (· < ·)∧(∀d∈D,d<aa.length)∧af.length=L.length∧(∀ps∈af,ps.length=m)∧cZ.length=L.length∧(∀ps∈cZ,ps.length=L.length) ∧
 (∀T F R E',b6 q aa.length m (atT aa) T F→b6 q L.length m (atT af) R E'→∀t k,t<aa.length→k<m→Cg q (ai L.length fun j=>T t (L.getD j 0)*R j k) (T t k*E')) ∧
 (L.length≠0→p3 q L.length (cR D (a7 L aa)) cZ)∧(∀ps∈bK m af,b5 q Fx ps)∧(∀ps∈bK L.length cZ,b5 q Fy ps)∧∀H',ag H H'→Q (.bl true) H'
section
variable {q:Int} {m:Nat} {aa af cZ:aD} {L D:List Nat}
theorem Og(hq:az q)(hm:∀ps∈aa,ps.length=m)(hL:∀l∈L,l<m)(lr:af.length=L.length)(wr:∀ps∈af,ps.length=m)(rT:∃T F,b6 q aa.length m (atT aa) T F)(rR:∃R E',b6 q L.length m (atT af) R E')(h:∀T F R E',b6 q aa.length m (atT aa) T F→b6 q L.length m (atT af) R E'→∀t k,t<aa.length→k<m→Cg q (ai L.length fun j=>T t (L.getD j 0)*R j k) (T t k*E'))(ht:t<aa.length)(hk:k<m):aX q (aW ((bK m af).getD k []) ((a7 L aa).getD t []) (0,1)) (atT aa t k):=by
 obtain ⟨T,F,rT⟩:=rT;obtain ⟨R,E',rR⟩:=rR;have rP:=z9 rfl hL rT;have w:=N8 (q:=q) (n:=L.length) (ps:=(bK m af).getD k []) (rs:=(a7 L aa).getD t []) (f:=fun j=>R j k) (g:=fun j=>T t (L.getD j 0)) (D1:=E') (D2:=F) (by rw [rz hk,aY,lr]) (by rw [vM ht,aY]) (fun j hj=>by have z:=(C0 (aa:=af) lr rR).2 k j hk hj;exact z) (fun j hj=>rP.2 t j ht hj)
 refine w.trans (aX.trans ?_ (rT.2 t k ht hk).symm rT.1) (rR.1.mul rT.1);obtain ⟨c,e⟩:=h T F R E' rT rR t k ht hk;rw [cQ (g:=fun j=>R j k*T t (L.getD j 0)) fun j _=>fi _ _] at e;refine ⟨c*F,?_⟩;dsimp only;grind
theorem Oh(hq:az q){S:aD}{r:Nat}(lS:S.length=r)(wS:∀ps∈S,ps.length=r)(lf:cZ.length=r)(rS:∃T F,b6 q r r (atT S) T F)(rF:∃R E',b6 q r r (atT cZ) R E')(h:p3 q r S cZ)(ht:t<r)(hk:k<r):aX q (aW ((bK r cZ).getD k []) (S.getD t []) (0,1)) (if t=k then (1,1) else (0,1)):=by
 obtain ⟨T,F,rS⟩:=rS;obtain ⟨R,E',rF⟩:=rF;have w:=N8 (q:=q) (n:=r) (ps:=(bK r cZ).getD k []) (rs:=S.getD t []) (f:=fun j=>R j k) (g:=fun j=>T t j) (D1:=E') (D2:=F) (by rw [rz hk,aY,lf]) (by rw [getD_at (by lia)];exact wS _ (aE _)) (fun j hj=>(C0 (aa:=cZ) lf rF).2 k j hk hj) (fun j hj=>rS.2 t j ht hj)
 refine w.trans ?_ (rF.1.mul rS.1);obtain ⟨c,e⟩:=(h T F R E' rS rF t k ht hk).2;rw [cQ (g:=fun j=>R j k*T t j) fun j _=>fi _ _] at e;by_cases y:t=k
 ·rw [ak y] at e ⊢
  exact ⟨c,by dsimp only;grind⟩
 ·rw [aj y] at e ⊢
  exact ⟨c,by dsimp only;grind⟩
end
def Yn(q:Int)(n W:Nat)(M:ax):Prop:=∀y:Nat→Int,(∀k,k<W→Cg q (ai n fun t=>y t*M t k) 0)→∀t,t<n→Cg q (y t) 0
structure iN (q:Int) (n W B:Nat) (A M:ax) (c j:Nat) (f:Nat→Nat):Prop where
 cn:c≤n
 HJ:∀x:Nat→Int,(∀i,i<n→Cg q (ai W fun k=>A i k*x k) 0)→∀i,i<n→Cg q (ai W fun k=>M i k*x k) 0
 vK:∀x:Nat→Int,(∀i,i<n→Cg q (ai W fun k=>M i k*x k) 0)→∀i,i<n→Cg q (ai W fun k=>A i k*x k) 0
 fj:∀i,i<c→f i<j
 oA:∀i,i<c→¬q∣M i (f i)
 HK:∀i t,i<c→i<t→t<n→Cg q (M t (f i)) 0
 low:∀i k,c≤i→i<n→k<j→Cg q (M i k) 0
 rem:q≠0→∀i k,i<n→k<W→0≤M i k∧M i k<q
 bd:q=0→∀i k,i<n→k<W→2*(M i k).natAbs≤B ^ (2 ^ c)
theorem iN.start(hr:q≠0→∀i k,i<n→k<W→0≤A i k∧A i k<q)(hb:q=0→∀i k,i<n→k<W→2*(A i k).natAbs≤B):iN q n W B A A 0 0 (fun _=>0):=
 ⟨fh _,fun _ h=>h,fun _ h=>h,fun i h=>absurd h (qF _),fun i h=>absurd h (qF _),fun i _ h=>absurd h (qF _),fun _ k _ _ h=>absurd h (qF _),hr,fun z i k hi hk=>by rw [show (2:Nat) ^ 0=1 from rfl,Nat.pow_one];exact hb z i k hi hk⟩
variable {f:Nat→Nat}
theorem iN.skip(h:iN q n W B A M c j f)(z:∀i,c≤i→i<n→M i j=0):iN q n W B A M c (j+1) f:=
 ⟨h.cn,h.HJ,h.vK,fun i hi=>yZ (h.fj i hi),h.oA,h.HK,fun i k h1 h2 h3=>by
  by_cases y:k=j;·rw [y,z i h1 h2];exact Cg.refl _
  ·exact h.low i k h1 h2 (by lia),h.rem,h.bd⟩
theorem iN.next(hq:az q)(b1:1≤B){s:Nat}(h:iN q n W B A M c j f)(jn:j<W)(hs:c≤s)(sn:s<n)(ns:M s j≠0) :
  iN q n W B A (iA q (bZ M c s) c j (n-(c+1))) (c+1) (j+1) (fun i=>if i=c then j else f i)∧(∀i k,i<n→k<W→(q≠0→0≤bZ M c s i k∧bZ M c s i k<q)∧(q=0→2*(bZ M c s i k).natAbs≤B ^ (2 ^ c))):=by
 have e1:bZ M c s c=M s:=by
  unfold bZ;by_cases z:c=s;·rw [ak z,z]
  ·rw [aj z,ak rfl]
 have up:∀i,i<n→∃i',i'<n∧bZ M c s i=M i'∧(i<c→i'=i)∧(c≤i→c≤i'):=fun i hi=>by
  unfold bZ;by_cases z1:i=s;·rw [ak z1];exact ⟨c,by lia,rfl,fun _=>by lia,fun _=>aI _⟩
  ·rw [aj z1]
   by_cases z2:i=c;·rw [ak z2];exact ⟨s,sn,rfl,fun _=>by lia,fun _=>hs⟩
   ·rw [aj z2];exact ⟨i,hi,rfl,fun _=>rfl,fun z=>z⟩
 have dn:∀i,i<n→∃i',i'<n∧bZ M c s i'=M i:=fun i hi=>by
  by_cases z1:i=s;·exact ⟨c,by lia,by rw [e1,z1]⟩
  ·by_cases z2:i=c
   ·exact ⟨s,sn,by unfold bZ;rw [ak rfl,z2]⟩
   ·exact ⟨i,hi,by unfold bZ;rw [aj z1,aj z2]⟩
 have C3:∀x:Nat→Int,(∀i,i<n→Cg q (ai W fun k=>A i k*x k) 0)→∀i,i<n→Cg q (ai W fun k=>bZ M c s i k*x k) 0:=fun x hx i hi=>by obtain ⟨i',h1,h2,_⟩:=up i hi;rw [h2];exact h.HJ x hx i' h1
 have Oi:∀x:Nat→Int,(∀i,i<n→Cg q (ai W fun k=>bZ M c s i k*x k) 0)→∀i,i<n→Cg q (ai W fun k=>A i k*x k) 0:=fun x hx=>h.vK x fun i hi=>by obtain ⟨i',h1,h2⟩:=dn i hi;have:=hx i' h1;rw [h2] at this;exact this
 have HL:q≠0→∀i k,i<n→k<W→0≤bZ M c s i k∧bZ M c s i k<q:=fun z i k hi hk=>by obtain ⟨i',h1,h2,_⟩:=up i hi;rw [h2];exact h.rem z i' k h1 hk
 have rH:q=0→∀i k,i<n→k<W→2*(bZ M c s i k).natAbs≤B ^ (2 ^ c):=fun z i k hi hk=>by obtain ⟨i',h1,h2,_⟩:=up i hi;rw [h2];exact h.bd z i' k h1 hk
 have HM:∀i k,c≤i→i<n→k<j→Cg q (bZ M c s i k) 0:=fun i k hc hi hk=>by obtain ⟨i',h1,h2,_,h4⟩:=up i hi;rw [h2];exact h.low i' k (h4 hc) h1 hk
 have C4:∀i t,i<c→i<t→t<n→Cg q (bZ M c s t (f i)) 0:=fun i t h1 h2 h3=>by
  obtain ⟨t',k1,k2,k3,k4⟩:=up t h3;rw [k2];refine h.HK i t' h1 ?_ k1;by_cases z:t<c;·rw [k3 z];exact h2
  ·have:=k4 (by lia);lia
 have Oj:∀i,i<c→i<n→bZ M c s i=M i:=fun i hi hn=>by obtain ⟨i',h1,h2,h3,_⟩:=up i hn;rw [h2,h3 hi]
 have np:¬q∣bZ M c s c j:=by rw [e1];exact NH hq (fun z=>h.rem z s j sn jn) ns
 refine ⟨?_,fun i k hi hk=>⟨fun z=>HL z i k hi hk,fun z=>rH z i k hi hk⟩⟩;generalize bZ M c s=M1 at C3 Oi HL rH HM C4 Oj np;have oI:c<n:=by lia
 have new:∀i,c<i→i<n→iA q M1 c j (n-(c+1)) i=fun k=>if q=0 then M1 i k*M1 c j-M1 c k*M1 i j else (M1 i k*M1 c j-M1 c k*M1 i j) % q:=fun i h1 h2=>by unfold iA;rw [ak ⟨h1,by lia⟩]
 have same:∀i,i≤c→iA q M1 c j (n-(c+1)) i=M1 i:=fun i h1=>by unfold iA;rw [aj (fun z=>by lia)]
 have C5:∀i k,c<i→i<n→Cg q (iA q M1 c j (n-(c+1)) i k) (M1 i k*M1 c j-M1 c k*M1 i j):=fun i k h1 h2=>by
  rw [new i h1 h2];dsimp only;by_cases z:q=0;·rw [ak z];exact Cg.refl _
  ·rw [aj z];exact zQ q _
 have Ol:∀x:Nat→Int,∀i,c<i→i<n→Cg q (ai W fun k=>iA q M1 c j (n-(c+1)) i k*x k) (M1 c j*(ai W fun k=>M1 i k*x k)-M1 i j*ai W fun k=>M1 c k*x k):=fun x i h1 h2=>by
  have s1:Cg q (ai W fun k=>iA q M1 c j (n-(c+1)) i k*x k) (ai W fun k=>M1 c j*(M1 i k*x k)-M1 i j*(M1 c k*x k)):=dB fun k _=>((C5 i k h1 h2).mulR (x k)).trans (Cg.of_eq (by grind))
  refine s1.trans ?_;rw [NM,←cm,←cm];exact Cg.refl _
 refine ⟨by lia,fun x hx i hi=>?_,fun x hx=>Oi x fun i hi=>?_,fun i hi=>?_,fun i hi=>?_,fun i t hi it tn=>?_,fun i k h1 h2 h3=>?_,fun z i k hi hk=>?_,fun z i k hi hk=>?_⟩
 ·by_cases y:i≤c
  ·rw [same i y]
   exact C3 x hx i hi
  ·refine (Ol x i (by lia) hi).trans ?_
   have a:=(C3 x hx i hi).mulL (M1 c j);have b:=(C3 x hx c oI).mulL (M1 i j);exact (a.sub b).trans (Cg.of_eq (by simp))
 ·have c0:Cg q (ai W fun k=>M1 c k*x k) 0:=by have:=hx c oI;rw [same c (aI _)] at this;exact this
  by_cases y:i≤c
  ·have:=hx i hi
   rw [same i y] at this;exact this
  ·refine fT hq np ?_
   have a:=(Ol x i (by lia) hi).symm.trans (hx i hi)
   have b:=c0.mulL (M1 i j);have d:=a.add b;exact (Cg.of_eq (by lia)).trans (d.trans (Cg.of_eq (by simp)))
 ·skip
  by_cases y:i=c;·rw [ak y];lia
  ·rw [aj y];exact yZ (h.fj i (by lia))
 ·skip
  rw [same i (by lia)]
  by_cases y:i=c;·rw [ak y,y];exact np
  ·rw [aj y,Oj i (by lia) (by lia)]
   exact h.oA i (by lia)
 ·skip
  by_cases y:i=c
  ·rw [ak y]
   exact (C5 t j (by lia) tn).trans (Cg.of_eq (by grind))
  ·rw [aj y]
   by_cases w:t≤c
   ·rw [same t w]
    exact C4 i t (by lia) it tn
   ·refine (C5 t (f i) (by lia) tn).trans ?_
    have a:=(C4 i t (by lia) it tn).mulR (M1 c j)
    have b:=(C4 i c (by lia) (by lia) oI).mulR (M1 t j)
    exact (a.sub b).trans (Cg.of_eq (by simp))
 ·refine (C5 i k (by lia) h2).trans ?_
  by_cases w:k=j
  ·rw [w]
   exact Cg.of_eq (by grind)
  ·have a:=(HM i k (by lia) h2 (by lia)).mulR (M1 c j)
   have b:=(HM c k (aI _) oI (by lia)).mulR (M1 i j)
   exact (a.sub b).trans (Cg.of_eq (by simp))
 ·by_cases y:i≤c
  ·rw [same i y]
   exact HL z i k hi hk
  ·rw [new i (by lia) hi]
   dsimp only;rw [aj z];have q2:0<q:=by rcases hq with h | h <;> lia
   exact ⟨eE _ z,eW _ q2⟩
 ·have pw:B ^ (2 ^ (c+1))=B ^ (2 ^ c)*B ^ (2 ^ c):=by rw [mr,Nat.mul_two,Nat.pow_add]
  have p1:1≤B ^ (2 ^ c):=qG b1;by_cases y:i≤c
  ·rw [same i y,pw]
   exact av (rH z i k hi hk) (k6 _ p1)
  ·rw [new i (by lia) hi,pw]
   dsimp only;rw [ak z];have a1:=rH z i k hi hk;have a2:=rH z c j oI jn;have a3:=rH z c k oI hk;have a4:=rH z i j hi jn;generalize B ^ (2 ^ c)=X at a1 a2 a3 a4 p1 ⊢;have t:(M1 i k*M1 c j-M1 c k*M1 i j).natAbs≤(M1 i k).natAbs*(M1 c j).natAbs+(M1 c k).natAbs*(M1 i j).natAbs:=by refine av (Int.natAbs_sub_le ..) ?_;rw [bT,bT];exact aI _
   have m1:=bI a1 a2;have m2:=bI a3 a4;have e1:2*(M1 i k).natAbs*(2*(M1 c j).natAbs)=4*((M1 i k).natAbs*(M1 c j).natAbs):=by grind
   have e2:2*(M1 c k).natAbs*(2*(M1 i j).natAbs)=4*((M1 c k).natAbs*(M1 i j).natAbs):=by grind
   lia
theorem iN.ind(hq:az q)(h:iN q n W B A M c W f):Yn q c W M:=fun y hy=>by
 have cn:=h.cn;have main:∀m t,t<c→t<m→Cg q (y t) 0:=fun m=>by
  induction m with
  | zero=>intro t _ ht;lia
  | succ m ih=>
   intro t tc tm;refine fT hq (h.oA t tc) ?_;have z:=hy (f t) (h.fj t tc);have s:Cg q (ai c fun s=>y s*M s (f t)) (ai c fun s=>if s=t then y s*M s (f t) else 0):=dB fun s hs=>by
    by_cases w:s=t;·rw [ak w];exact Cg.refl _
    ·rw [aj w]
     by_cases v:s<t
     ·have:=(ih s hs (by lia)).mulR (M s (f t))
      rw [iT] at this;exact this
     ·have:=(h.HK t s tc (by lia) (by lia)).mulL (y s)
      rw [cG] at this;exact this
   rw [jW c t (fun s=>y s*M s (f t)) tc] at s;exact (Cg.of_eq (fi ..)).trans (s.symm.trans z)
 exact fun t ht=>main (t+1) t ht (by lia)
theorem Om(hq:az q){T:ax}{b:Nat→Int}(hn:aa.length=n)(hm:∀ps∈aa,ps.length=m)(hb:∀ps∈aa,∀p∈ps,aH q p.2)(hc:∀i,i<n→aH q (b i))(row:∀i k,i<n→k<m→A i k*(atT aa i k).2=(atT aa i k).1*b i)(r:b6 q n m (atT aa) T D)(x:Nat→Int)(hi:i<n):Cg q (ai m fun k=>A i k*x k) 0↔Cg q (ai m fun k=>T i k*x k) 0:=by
 have s1:Cg q (D*ai m fun k=>A i k*x k) (b i*ai m fun k=>T i k*x k):=by rw [cm,cm];refine dB fun k hk=>?_;obtain ⟨ps,h1,h2⟩:=rg hn hm hi hk;have:=(Hj hq (row i k hi hk) (r.2 i k hi hk) (hb ps h1 _ h2)).symm.mulR (x k);exact (Cg.of_eq (by grind)).trans (this.trans (Cg.of_eq (by grind)))
 constructor
 ·intro h
  have:=h.mulL D;rw [cG] at this;exact fT hq ((hc i hi).nz hq) (s1.symm.trans this)
 ·intro h
  have:=h.mulL (b i);rw [cG] at this;exact fT hq (r.1.nz hq) (s1.trans this)
theorem iN.lead(hq:az q)(h:iN q n W B A M c W f){b:Nat→Int}(hn:aa.length=n)(hm:∀ps∈aa,ps.length=W)(hb:∀ps∈aa,∀p∈ps,aH q p.2)(hc:∀i,i<n→aH q (b i))(row:∀i k,i<n→k<W→A i k*(atT aa i k).2=(atT aa i k).1*b i):∃L,j8 q n W aa L∧L.length=c:=by
 obtain ⟨M2,L,h2⟩:=HC hq c M W
 have cn:=h.cn
 refine ⟨L,⟨h2.up,h2.lt,fun T D r c0 Yo=>(h2.Hy hq Yo).trans ?_⟩,h2.N_ hq (h.ind hq)⟩
 have conv:∀x:Nat→Int,(∀t,t<c→Cg q (ai W fun k=>M t k*x k) 0)↔(∀t,t<n→Cg q (ai W fun k=>T t k*x k) 0):=fun x=>by
  constructor
  ·intro g t ht
   refine (Om hq hn hm hb hc row r x ht).mp (h.vK x (fun i hi=>?_) t ht)
   by_cases y:i<c
   ·exact g i y
   ·have:=dB (q:=q) (n:=W) (f:=fun k=>M i k*x k) (g:=fun _=>0) fun k hk=>by
     have:=(h.low i k (by lia) hi hk).mulR (x k)
     rw [iT] at this
     exact this
    rw [gg] at this
    exact this
  ·intro g t ht
   exact h.HJ x (fun i hi=>(Om hq hn hm hb hc row r x hi).mpr (g i hi)) t (by lia)
 exact ⟨fun g x x0 hx=>g x x0 ((conv x).mpr hx),fun g x x0 hx=>g x x0 ((conv x).mp hx)⟩
def Yp:Sp:=fun vs H Q _=>∃(q:Int) (a:Addr) (B m:Nat) (aa:aD),vs=[.int q,.ref a,.int (m:Int)]∧az q∧aT B H q a aa∧aa.length≤40∧(∀ps∈aa,ps.length=m)∧m≤40∧1000≤B∧(q=0→(2*B ^ (m+1)) ^ (2 ^ (aa.length-2))<2 ^ 8192)∧∀(L:List Nat) (H':Hp),ag H H'→j8 q aa.length m aa L→Q (.int (L.length:Int)) H'
def Yq:Sp:=fun vs H Q _=>∃(q:Int) (a b:Addr) (B C:Nat) (ps rs:a_),vs=[.int q,.ref a,.ref b]∧az q∧bC B H q a ps∧bC C H q b rs∧1≤B∧1≤C∧ps.length≤40∧rs.length≤40∧(q=0→40*(B*C) ^ ps.length<2 ^ 8192)∧∀(v:V) (H':Hp),ag H H'→cU H' q v (aW ps rs (0,1)).1 (aW ps rs (0,1)).2→Q v H'
theorem aK.imp{P:Program}{f:Addr}{ps:List Str}(F:aK P w K mg base CX k f fd ps sp)(h:∀vs H Q E,zZ vs H Q E→sp vs H Q E):aK P w K mg base CX k f fd ps zZ:=
 ⟨fun vs H Q E q=>F.len vs H Q E (h vs H Q E q),fun A outer s H args us vs Q E hr he hb hv hs=>F.run A outer s H args us vs Q E hr he hb hv (h vs H Q E hs)⟩
def Yr:Sp:=fun vs H Q _=>∃(l:Addr) (L:List Nat) (b:Nat),vs=[.ref l,.int (b:Int)]∧H l=some (.lst (aZ L))∧L.length≤40∧L.Pairwise (· < ·)∧(∀i∈L,i<b)∧∀H',ag H H'→Q (.bl true) H'
theorem Ys{K1 K2:aL}{ρ:St→St}{b:Addr}{σ:St}{Q:VK}(e:σ[i]?=some (some (.ref b)))(ej:ρ σ=[some (.int (j:Int))])(h:aT B H q b af)(hm:∀ps∈af,ps.length=m)(hj:j<m)(eO:af.length≤40)(k:∀D H',H D=none→ag H H'→bC B H' q D (af.map fun ps=>ps.getD j (0,1))→Q (.ref D) H'):ji (FU K1 (pj i)) ρ (fun _ H Q=>Q true H) (kC (F8 K2) (pj 0) (pj 1)) σ H Q:=by
 obtain ⟨us,eb,lu,fu⟩:=id h;refine eB (xs:=us) (fun R h=>⟨_,e,b,rfl,⟨_,.of eb⟩,h _ _ (ag.refl _) (eK (.of eb))⟩) (by rw [lu];exact cT (by lia)) (fun D l y Hx=>cD B Hx q y (atT af l j).1 (atT af l j).2) (fun D l y Ha Hb ys h e f=>h.bu e f) ?_ ?_
 ·intro D l v hl Hf R sf _ kf
  have l1:l<us.length:=(aG.mp hl).1;have l2:l<af.length:=by lia
  obtain ⟨ry,rfl,ws,ew,lw,fw⟩:=fu l v af[l] hl (by simp [l2])
  have lj:j<af[l].length:=by rw [hm _ (aE l2)];exact hj
  have Oo:j<ws.length:=by lia
  have z:=fw j ws[j] af[l][j] (by simp [Oo]) (by simp [lj])
  rw [ej];refine ⟨_,rfl,_,rfl,ry,ws,_,ws[j],rfl,rfl,.of (sf _ _ ew),dA (by simp [Oo]),kf _ Hf (ag.refl _) ?_⟩
  unfold atT;rw [getD_at l2,getD_at lj];exact z.mono sf
 ·intro D ys Hf nD sf dM hP eD
  refine k D Hf nD sf ⟨ys,eD,by rw [dM,lu,aY],fun l v p h1 h2=>?_⟩
  have l2:l<af.length:=by have:=(aG.mp h2).1;rw [aY] at this;exact this
  have z:=hP l v h1;rw [bj] at h2;simp [l2] at h2;unfold atT at z;rw [getD_at l2] at z;rw [←h2];exact z
theorem Yt:∀(n:Nat) (g:Nat→Nat),(∀i,i<n→1≤g i)→1≤cq n g∧∀i,i<n→g i≤cq n g
 | 0,_,_=>⟨aI 1,fun i h=>absurd h (qF _)⟩
 | n+1,g,h=>by
  obtain ⟨h1,h2⟩:=Yt n g fun i hi=>h i (by lia)
  have h3:=h n (by lia)
  refine ⟨uY h1 h3,fun i hi=>?_⟩;show g i≤cq n g*g n;by_cases e:i=n;·rw [e];exact gC _ h1
  ·exact av (h2 i (by lia)) (k6 _ h3)
theorem Oq{V:Nat}{Dl:Nat→Nat}{p:Nat→Int×Int}:∀n,(∀i,i<n→∃D x:Int,1≤D∧D.natAbs≤Dl i∧(p i).1*D=x*(p i).2∧x.natAbs≤V*D.natAbs)→∃D:Int,1≤D∧D.natAbs≤cq n Dl∧∀i,i<n→∃x:Int,(p i).1*D=x*(p i).2∧x.natAbs≤V*D.natAbs
 | 0,_=>⟨1,by decide,aI 1,fun i h=>absurd h (qF _)⟩
 | n+1,h=>by
  obtain ⟨D,d1,d2,hx⟩:=Oq n fun i hi=>h i (by lia)
  obtain ⟨D',x',e1,e2,e3,e4⟩:=h n (by lia)
  have pd:=fP (show 0<D by lia) (show 0<D' by lia)
  refine ⟨D*D',by lia,?_,fun i hi=>?_⟩
  ·rw [bT]
   exact bI d2 e2
  ·by_cases e:i=n
   ·subst e
    refine ⟨x'*D,by grind,?_⟩
    rw [bT,bT];exact av (gs _ e4) (jy (by grind))
   ·obtain ⟨x,x1,x2⟩:=hx i (by lia)
    refine ⟨x*D',by grind,?_⟩
    rw [bT,bT];exact av (gs _ x2) (jy (by grind))
structure HN (n m V:Nat) (aa:aD) (Dl:Nat→Nat) (D:Nat→Int) (x:ax):Prop where
 one:∀i,i<n→1≤D i
 le:∀i,i<n→(D i).natAbs≤Dl i
 eq:∀i j,i<n→j<m→(atT aa i j).1*D i=x i j*(atT aa i j).2
 bd:∀i j,i<n→j<m→(x i j).natAbs≤V*(D i).natAbs
variable {Dl:Nat→Nat}
theorem Yu{V:Nat}(hn:aa.length=n)(hm:∀ps∈aa,ps.length=m)(h:∀i,i<n→da (Dl i) V (aa.getD i [])):∃D x,HN n m V aa Dl D x:=by
 obtain ⟨f,hf⟩:=oB (n:=n) (α:=Int×(Nat→Int)) (R:=fun i y=>1≤y.1∧y.1.natAbs≤Dl i∧∀j,j<(aa.getD i []).length→((aa.getD i []).getD j o1).1*y.1=y.2 j*((aa.getD i []).getD j o1).2∧(y.2 j).natAbs≤V*y.1.natAbs) fun i hi=>by obtain ⟨D,x,h1,h2,h3⟩:=h i hi;exact ⟨(D,x),h1,h2,h3⟩
 have wl:∀i,i<n→(aa.getD i []).length=m:=fun i hi=>by
  rw [getD_at (by lia)]
  exact hm _ (aE _)
 exact ⟨fun i=>(f i).1,fun i j=>(f i).2 j,fun i hi=>(hf i hi).1,fun i hi=>(hf i hi).2.1,fun i j hi hj=>((hf i hi).2.2 j (by rw [wl i hi];exact hj)).1,fun i j hi hj=>((hf i hi).2.2 j (by rw [wl i hi];exact hj)).2⟩
theorem HN.col{V Z:Nat}{D:Nat→Int}{x:ax}(h:HN n m V aa Dl D x)(hn:aa.length=n)(hm:∀ps∈aa,ps.length=m)(hc:∀ps∈aa,∀p∈ps,Canon 0 p)(hz:cq n Dl≤Z)(v1:1≤V):∀ps∈bK m aa,b5 0 (V*Z) ps:=fun ps hp=>by
 have fV:=hp;unfold bK at hp;obtain ⟨k,hk,rfl⟩:=du.mp hp;have hk:=e7.mp hk;obtain ⟨E,e1,e2,e3⟩:=Oq (V:=V) (Dl:=Dl) (p:=fun i=>atT aa i k) n fun i hi=>⟨D i,x i k,h.one i hi,h.le i hi,h.eq i k hi hk,h.bd i k hi hk⟩;obtain ⟨f,hf⟩:=oB (n:=n) (α:=Int) (R:=fun i y=>(atT aa i k).1*E=y*(atT aa i k).2∧y.natAbs≤V*E.natAbs) e3;have at':∀i,i<n→(aa.map fun ps=>ps.getD k (0,1)).getD i o1=atT aa i k:=fun i hi=>by
  unfold atT;rw [getD_at (by simpa using (by lia:i<aa.length)),i9,getD_at (show i<aa.length by lia)]
  rfl
 refine da.e (Dl:=cq n Dl) (V:=V) ⟨E,f,e1,e2,fun j hj=>?_⟩ (fun p hp=>?_) (gO _ hz) v1
 ·rw [aY,hn] at hj
  rw [at' j hj];exact hf j hj
 ·obtain ⟨rs,h1,h2⟩:=N4 hm fV hp
  exact hc rs h1 p h2
theorem Ot(h:n≤5):n*(cp n*P)≤600*P:=by
 have:n*cp n≤600:=by
  match n,h with
  | 0,_=>decide
  | 1,_=>decide
  | 2,_=>decide
  | 3,_=>decide
  | 4,_=>decide
  | 5,_=>decide
 rw [←kZ];exact gs _ this
theorem Ou(h:n≤5)(e1:1≤E)(he:600*E ^ 5<2 ^ 2048):UB n E:=fun r hr=>by refine dD (Ot (by lia)) (dD (gO _ (fL e1 (show r≤5 by lia))) he)
theorem Ov{t b:Int}{v:V}{p:Int×Int}(hq:az q)(h:cU H q v t b)(ok:aH q b)(c:Canon q p)(w:aX q p (t,b))(b1:p.1.natAbs≤B)(b2:p.2.natAbs≤B):cD B H q v p.1 p.2:=by
 cases h with
 | bV e l hb h=>
  rename_i r u d
  have e1:p=(u,d):=GV hq c ⟨fun _=>l,fun y=>absurd rfl y⟩ (w.trans (aX.symm (p:=(u,d)) ⟨0,by dsimp only;lia⟩) ok)
  subst e1;exact .bV e l b1 b2
 | rem q2 h0 h1 g h=>
  rename_i r
  have q3:q≤997:=by rcases hq with h | h <;> lia
  have e1:p=(r,1):=GV hq c ⟨fun y=>by lia,fun _=>⟨rfl,h0,h1⟩⟩ (w.trans (aX.symm (p:=(r,1)) (by unfold aX;dsimp only;rw [iC];exact h)) ok)
  subst e1;exact .rem h0 h1 q3
theorem HP(hq:az q):Canon q o1:=⟨fun _=>⟨by decide,by decide⟩,fun z=>⟨rfl,by decide,by rcases hq with h | h;exact absurd h z;show (0:Int)<q;lia⟩⟩
theorem l9(hq:az q)(h:∀p∈ps,Canon q p)(k:Nat):Canon q (ps.getD k o1):=by
 by_cases hk:k<ps.length;·rw [getD_at hk];exact h _ (aE _)
 ·rw [l5 (by lia)];exact HP hq
def cM(q:Int)(n m k u:Nat)(aa af:aD):List (List (Int×Int)):=
 (List.range (n*k)).map fun a=>(List.range (m*u)).map fun b=>mulQ q (atT aa (a / k) (b / u)) (atT af (a % k) (b % u))
theorem vO{α:Type}{N:Nat}{F:Nat→α}{d:α}(hi:i<N):((List.range N).map F).getD i d=F i:=by rw [getD_at (by simpa using hi),i9,List.getElem_range]
section
variable {q:Int} {n m k u:Nat} {aa af:aD}
theorem dO:(cM q n m k u aa af).length=n*k:=by simp [cM]
theorem Ow{a:Nat}(ha:a<n*k):(cM q n m k u aa af).getD a []=(List.range (m*u)).map fun b=>mulQ q (atT aa (a / k) (b / u)) (atT af (a % k) (b % u)):=by unfold cM;rw [vO ha]
theorem ju:∀ps∈cM q n m k u aa af,ps.length=m*u:=fun ps hp=>by unfold cM at hp;obtain ⟨a,_,rfl⟩:=du.mp hp;simp
theorem rJ{a b:Nat}(ha:a<n*k)(hb:b<m*u):atT (cM q n m k u aa af) a b=mulQ q (atT aa (a / k) (b / u)) (atT af (a % k) (b % u)):=by unfold atT;rw [Ow ha,vO hb];rfl
def dY(q:Int)(aa:aD):Prop:=∀ps∈aa,∀p∈ps,Canon q p
theorem dY.at'(hq:az q)(h:dY q aa)(i j:Nat):Canon q (atT aa i j):=by
 unfold atT;by_cases hi:i<aa.length
 ·rw [getD_at hi]
  exact l9 hq (h _ (aE hi)) j
 ·rw [l5 (xs:=aa) (by lia)]
  exact HP hq
theorem rK(hq:az q)(h1:dY q aa)(h2:dY q af):dY q (cM q n m k u aa af):=fun ps hp p fV=>by unfold cM at hp;obtain ⟨a,_,rfl⟩:=du.mp hp;obtain ⟨b,_,rfl⟩:=du.mp fV;exact (zP hq (h1.at' hq _ _) (h2.at' hq _ _)).1
variable {T:ax}
theorem rN{S:ax}{E:Int}(hq:az q)(c1:dY q aa)(c2:dY q af)(h1:b6 q n m (atT aa) T D)(h2:b6 q k u (atT af) S E):b6 q (n*k) (m*u) (atT (cM q n m k u aa af)) (fun a b=>T (a / k) (b / u)*S (a % k) (b % u)) (D*E):=by refine ⟨h1.1.mul h2.1,fun a b ha hb=>?_⟩;rw [rJ ha hb];have x:=c1.at' hq (a / k) (b / u);have y:=c2.at' hq (a % k) (b % u);exact ((zP hq x y).2).trans (NG (h1.2 _ _ (fS ha) (fS hb)) (h2.2 _ _ (fz ha) (fz hb))) (x.bot.mul y.bot)
variable {T':ax} {D':Int}
theorem p6{f:Nat→Nat→Int×Int}(hb:∀i j,aH q (f i j).2)(h:b6 q n m f T D)(h':b6 q n m f T' D')(hi:i<n)(hj:j<m):Cg q (T' i j*D) (T i j*D'):=by obtain ⟨x,e⟩:=(h'.2 i j hi hj).symm.trans (h.2 i j hi hj) (hb i j);exact ⟨x,e⟩
theorem Ox{f:Nat→Nat→Int×Int}(hq:az q)(hb:∀i j,aH q (f i j).2)(h:b6 q n m f T D)(h':b6 q n m f T' D')(hi:i<n)(k0:Cg q (ai m fun j=>T i j*x j) 0):Cg q (ai m fun j=>T' i j*x j) 0:=by
 refine fT hq (h.1.nz hq) ?_;have s:Cg q (D*ai m fun j=>T' i j*x j) (D'*ai m fun j=>T i j*x j):=by rw [cm,cm];refine dB fun j hj=>?_;have z:=(p6 hb h h' hi hj).mulR (x j);exact (Cg.of_eq (by grind)).trans (z.trans (Cg.of_eq (by grind)))
 have z:=k0.mulL D';rw [cG] at z;exact s.trans z
end
def dq(L L':List Nat)(u:Nat):List Nat:=(List.range (L.length*L'.length)).map fun a=>L.getD (a / L'.length) 0*u+L'.getD (a % L'.length) 0
section
variable {L L':List Nat} {m u:Nat}
theorem dU:(dq L L' u).length=L.length*L'.length:=by simp [dq]
theorem rO{a:Nat}(ha:a<L.length*L'.length):(dq L L' u).getD a 0=L.getD (a / L'.length) 0*u+L'.getD (a % L'.length) 0:=by unfold dq;rw [vO ha]
theorem getD_mem(h:i<L.length):L.getD i 0∈L:=by rw [getD_at h];exact aE _
theorem Aa{a:Nat}(h2:∀l∈L',l<u)(ha:a<L.length*L'.length):(dq L L' u).getD a 0 / u=L.getD (a / L'.length) 0:=by rw [rO ha];exact lY (h2 _ (getD_mem (fz ha)))
theorem Ab{a:Nat}(h2:∀l∈L',l<u)(ha:a<L.length*L'.length):(dq L L' u).getD a 0 % u=L'.getD (a % L'.length) 0:=by rw [rO ha];exact mS (h2 _ (getD_mem (fz ha)))
theorem p7(h1:∀l∈L,l<m)(h2:∀l∈L',l<u):∀c∈dq L L' u,c<m*u:=fun c hc=>by obtain ⟨a,ha,rfl⟩:=nJ hc;rw [dU] at ha;rw [←getD_at (d:=0),rO ha];have x:=h1 _ (getD_mem (fS ha));have y:=h2 _ (getD_mem (fz ha));have:(L.getD (a / L'.length) 0+1)*u≤m*u:=gs _ x;rw [ib] at this;lia
theorem Oy(h1:L.Pairwise (· < ·))(h2:L'.Pairwise (· < ·))(l2:∀l∈L',l<u):(dq L L' u).Pairwise (· < ·):=by
 refine BH.mpr fun a b ha hb Hv=>?_;rw [dU] at ha hb;rw [←getD_at (d:=0),←getD_at (d:=0),rO ha,rO hb];have y:=l2 _ (getD_mem (fz ha));have y':=l2 _ (getD_mem (fz hb));by_cases e:a / L'.length=b / L'.length
 ·have lt:a % L'.length<b % L'.length:=by have d1:=mq a L'.length;have d2:=mq b L'.length;rw [e] at d1;lia
  have:=pZ h2 lt (fz hb);rw [e];lia
 ·have lt:a / L'.length<b / L'.length:=by have:=Nat.div_le_div_right (c:=L'.length) (yN Hv);lia
  have:=pZ h1 lt (fS hb);have:(L.getD (a / L'.length) 0+1)*u≤L.getD (b / L'.length) 0*u:=gs _ this;rw [ib] at this;lia
theorem Yv(h2:∀l∈L',l<u):c∈dq L L' u↔c / u∈L∧c % u∈L':=by
 refine ⟨fun hc=>?_,fun⟨h,h'⟩=>?_⟩
 ·obtain ⟨a,ha,rfl⟩:=nJ hc
  rw [dU] at ha;rw [←getD_at (d:=0),Aa h2 ha,Ab h2 ha];exact ⟨getD_mem (fS ha),getD_mem (fz ha)⟩
 ·obtain ⟨i,hi,ei⟩:=nJ h
  obtain ⟨j,hj,ej⟩:=nJ h';have ha:i*L'.length+j<L.length*L'.length:=by have:(i+1)*L'.length≤L.length*L'.length:=gs _ hi;rw [ib] at this;lia
  have e:(dq L L' u).getD (i*L'.length+j) 0=c:=by rw [rO ha,lY hj,mS hj,getD_at hi,getD_at hj,ei,ej,jD];exact mq c u
  rw [←e];exact getD_mem (by rw [dU];exact ha)
end
section
variable {q:Int} {n m k u:Nat} {aa af:aD} {T S:ax} {D E:Int} {L L':List Nat}
theorem Oz(x:Nat→Int)(i p:Nat):(ai (m*u) fun c=>(T i (c / u)*S p (c % u))*x c)=ai m fun j=>T i j*ai u fun l=>S p l*x (j*u+l):=by rw [G9];refine cQ fun j _=>?_;rw [cm];exact cQ fun l hl=>by rw [lY hl,mS hl];grind
theorem Yw(hq:az q)(c1:dY q aa)(c2:dY q af)(hT:b6 q n m (atT aa) T D)(hS:b6 q k u (atT af) S E)(h:j8 q n m aa L)(h':j8 q k u af L'):j8 q (n*k) (m*u) (cM q n m k u aa af) (dq L L' u):=by
 refine ⟨Oy h.1 h'.1 h'.2.1,p7 h.2.1 h'.2.1,fun T' D' r c hc=>?_⟩;have hb:∀i j,aH q (atT (cM q n m k u aa af) i j).2:=fun i j=>((rK hq c1 c2).at' hq i j).bot;have kr:=rN hq c1 c2 hT hS;have u0:0<u:=by refine BK fun z=>?_;rw [z,Nat.mul_zero] at hc;lia
 have cj:c / u<m:=fS hc;have cl:c % u<u:=Nat.mod_lt _ u0;have ce:c / u*u+c % u=c:=by rw [jD];exact mq c u
 have q_:∀x:Nat→Int,(∀t,t<n*k→Cg q (ai (m*u) fun c=>T' t c*x c) 0)↔∀i p,i<n→p<k→Cg q (ai m fun j=>T i j*ai u fun l=>S p l*x (j*u+l)) 0:=fun x=>by
  refine ⟨fun hx i p hi hp=>?_,fun hx t ht=>?_⟩
  ·have ht:i*k+p<n*k:=by have:(i+1)*k≤n*k:=gs _ hi;rw [ib] at this;lia
   have z:=Ox hq hb r kr ht (hx _ ht);rw [lY hp,mS hp,Oz] at z;exact z
  ·refine Ox hq hb kr r ht ?_
   rw [Oz];exact hx _ _ (fS ht) (fz ht)
 rw [Yv h'.2.1];constructor
 ·rintro ⟨jL,lL⟩ x x0 hx
  have hx:=(q_ x).mp hx;have y0:∀p,p<k→Cg q (ai u fun l=>S p l*x (c / u*u+l)) 0:=fun p hp=>by refine (h.2.2 T D hT (c / u) cj).mp jL (fun j=>ai u fun l=>S p l*x (j*u+l)) (fun j hj=>?_) fun i hi=>hx i p hi hp;refine (cQ (g:=fun _=>0) fun l _=>?_).trans (gg u);have:(c / u+1)*u≤j*u:=gs _ hj;rw [ib] at this;rw [x0 _ (by lia),cG]
  have z:=(h'.2.2 S E hS (c % u) cl).mp lL (fun l=>if l<u then x (c / u*u+l) else 0) (fun l hl=>?_) fun p hp=>?_
  ·rw [ak cl,ce] at z
   exact z
  ·split
   ·exact x0 _ (by lia)
   ·rfl
  ·rw [cQ (g:=fun l=>S p l*x (c / u*u+l)) fun l hl=>by rw [ak hl]]
   exact y0 p hp
 ·intro all
  constructor
  ·refine (h.2.2 T D hT (c / u) cj).mpr fun y y0 hy=>?_
   have z:=all (fun c'=>if c' % u=c % u then y (c' / u) else 0) (fun c' e_=>?_) ((q_ _).mpr fun i p hi hp=>?_)
   ·rw [ak rfl] at z
    exact z
   ·split
    ·rename_i e
     refine y0 _ (Nat.lt_of_not_le fun le=>?_);have:=gO u le;have d1:=mq c' u;have d2:=mq c u;lia
    ·rfl
   ·have e:(ai m fun j=>T i j*ai u fun l=>S p l*(fun c'=>if c' % u=c % u then y (c' / u) else 0) (j*u+l))=S p (c % u)*ai m fun j=>T i j*y j:=by
     rw [cm];refine cQ fun j _=>?_;rw [cQ (g:=fun l=>if l=c % u then S p l*y j else 0) fun l hl=>by
      dsimp only;rw [mS hl,lY hl]
      split
      ·rfl
      ·rw [cG],jW u (c % u) (fun l=>S p l*y j) cl]
     grind
    rw [e];have:=(hy i hi).mulL (S p (c % u));rw [cG] at this;exact this
  ·refine (h'.2.2 S E hS (c % u) cl).mpr fun z z0 hz=>?_
   have w:=all (fun c'=>if c' / u=c / u then z (c' % u) else 0) (fun c' e_=>?_) ((q_ _).mpr fun i p hi hp=>?_)
   ·rw [ak rfl] at w
    exact w
   ·split
    ·rename_i e
     refine z0 _ (Nat.lt_of_not_le fun le=>?_);have d1:=mq c' u;have d2:=mq c u;rw [e] at d1;lia
    ·rfl
   ·have:=dB (q:=q) (n:=m) (f:=fun j=>T i j*ai u fun l=>S p l*(fun c'=>if c' / u=c / u then z (c' % u) else 0) (j*u+l)) (g:=fun _=>0) fun j _=>by
     have e:(ai u fun l=>S p l*(fun c'=>if c' / u=c / u then z (c' % u) else 0) (j*u+l))=if j=c / u then ai u fun l=>S p l*z l else 0:=by
      by_cases y:j=c / u
      ·rw [ak y]
       exact cQ fun l hl=>by dsimp only;rw [lY hl,mS hl,ak y]
      ·rw [aj y]
       exact (cQ (g:=fun _=>0) fun l hl=>by dsimp only;rw [lY hl,aj y,cG]).trans (gg u)
     dsimp only;rw [e]
     split
     ·have:=(hz p hp).mulL (T i j)
      rw [cG] at this;exact this
     ·rw [cG]
      exact Cg.refl 0
    rw [gg] at this;exact this
end
def HQ(q:Int)(n m:Nat)(aa:aD)(L:List Nat)(af:aD):Prop:=∀T F R E',b6 q n m (atT aa) T F→b6 q L.length m (atT af) R E'→∀t k,t<n→k<m→Cg q (ai L.length fun j=>T t (L.getD j 0)*R j k) (T t k*E')
section
variable {q:Int} {n m k u s s':Nat} {aa af Ac Ad:aD} {T S R1 R2:ax} {D E F1 F2:Int} {L L':List Nat}
theorem HR{a b c d x y w p:Int}(h1:Cg q (a*b) (x*p))(h2:Cg q (c*d) (y*w)):Cg q (a*c*(b*d)) (x*y*(p*w)):=
 (Cg.of_eq (show _=a*b*(c*d) by grind)).trans ((h1.mulR (c*d)).trans ((h2.mulL (x*p)).trans (Cg.of_eq (by grind))))
theorem Yx(hq:az q)(c1:dY q aa)(c2:dY q af)(c3:dY q Ac)(c4:dY q Ad)(hT:b6 q n m (atT aa) T D)(hS:b6 q k u (atT af) S E)(hR:b6 q L.length m (atT Ac) R1 F1)(HS:b6 q L'.length u (atT Ad) R2 F2)(Cq:∀l∈L,l<m)(rQ:∀l∈L',l<u)(h:HQ q n m aa L Ac)(h':HQ q k u af L' Ad):HQ q (n*k) (m*u) (cM q n m k u aa af) (dq L L' u) (cM q L.length m L'.length u Ac Ad):=fun T' F R E' r1 r2 t c ht hc=>by
 rw [dU] at r2 ⊢;have OA:=rN hq c1 c2 hT hS;have Yy:=rN hq c3 c4 hR HS;have b1:∀i j,aH q (atT (cM q n m k u aa af) i j).2:=fun i j=>((rK hq c1 c2).at' hq i j).bot;have b2:∀i j,aH q (atT (cM q L.length m L'.length u Ac Ad) i j).2:=fun i j=>((rK hq c3 c4).at' hq i j).bot;have pl:=p7 (L:=L) (L':=L') Cq rQ;refine oC hq (iL hq (iL hq (hT.1.nz hq) (hS.1.nz hq)) (iL hq (hR.1.nz hq) (HS.1.nz hq))) (u:=D*E*(F1*F2)) ?_;have l:Cg q (D*E*(F1*F2)*ai (L.length*L'.length) fun j=>T' t ((dq L L' u).getD j 0)*R j c) (F*E'*ai (L.length*L'.length) fun j=>(T (t / k) (L.getD (j / L'.length) 0)*S (t % k) (L'.getD (j % L'.length) 0))*(R1 (j / L'.length) (c / u)*R2 (j % L'.length) (c % u))):=by
  rw [cm,cm];refine dB fun j hj=>?_;have z1:=p6 b1 OA r1 ht (pl _ (getD_mem (by rw [dU];exact hj)))
  have z2:=p6 b2 Yy r2 hj hc;rw [Aa rQ hj,Ab rQ hj] at z1;exact (Cg.of_eq (by grind)).trans ((HR z1 z2).trans (Cg.of_eq (by grind)))
 rw [G_ L.length L'.length (fun j=>T (t / k) (L.getD j 0)) (fun j=>R1 j (c / u)) (fun j=>S (t % k) (L'.getD j 0)) (fun j=>R2 j (c % u))] at l;have p1:=h T D R1 F1 hT hR (t / k) (c / u) (fS ht) (fS hc);have p2:=h' S E R2 F2 hS HS (t % k) (c % u) (fz ht) (fz hc);have z1:=p6 b1 OA r1 ht hc;refine l.trans ((((p1.mulR _).trans (p2.mulL _)).mulL (F*E')).trans ?_);refine (Cg.of_eq (show _=T (t / k) (c / u)*S (t % k) (c % u)*F*(F1*F2*E') by grind)).trans ((z1.symm.mulR (F1*F2*E')).trans (Cg.of_eq (by grind)))
theorem Yz(ln:aa.length=n)(lk:af.length=k){DD rX:List Nat}(Cq:∀l∈L,l<m)(rQ:∀l∈L',l<u)(d1:∀d∈DD,d<n)(d2:∀d∈rX,d<k){a b:Nat}(ha:a<DD.length*rX.length)(hb:b<L.length*L'.length):atT (cR (dq DD rX k) (a7 (dq L L' u) (cM q n m k u aa af))) a b=mulQ q (atT (cR DD (a7 L aa)) (a / rX.length) (b / L'.length)) (atT (cR rX (a7 L' af)) (a % rX.length) (b % L'.length)):=by
 have pd:=p7 (L:=DD) (L':=rX) d1 d2;have pl:=p7 (L:=L) (L':=L') Cq rQ;have mD:=pd _ (getD_mem (i:=a) (by rw [dU];exact ha))
 rw [CY (by rw [dU];exact ha),rC (by rw [dO];exact mD) (by rw [dU];exact hb),rJ mD (pl _ (getD_mem (by rw [dU];exact hb))),Aa d2 ha,Ab d2 ha,Aa rQ hb,Ab rQ hb]
 rw [CY (fS ha),CY (fz ha),rC (by rw [ln];exact d1 _ (getD_mem (fS ha))) (fS hb),rC (by rw [lk];exact d2 _ (getD_mem (fz ha))) (fz hb)]
theorem YA(hq:az q){P1 P2 f1 f2 W fW:aD}{A1 A2 G1 G2:ax}{d1 d2 e1 e2:Int}(cW:dY q W)(cF:dY q fW)(p8:b6 q s s (atT P1) A1 d1)(OB:b6 q s' s' (atT P2) A2 d2)(OC:b6 q s s (atT f1) G1 e1)(OD:b6 q s' s' (atT f2) G2 e2)(hW:b6 q (s*s') (s*s') (atT W) (fun a b=>A1 (a / s') (b / s')*A2 (a % s') (b % s')) (d1*d2))(hF:b6 q (s*s') (s*s') (atT fW) (fun a b=>G1 (a / s') (b / s')*G2 (a % s') (b % s')) (e1*e2))(i1:p3 q s P1 f1)(i2:p3 q s' P2 f2):p3 q (s*s') W fW:=fun T D F E r1 r2 j k hj hk=>by
 have bW:∀i j,aH q (atT W i j).2:=fun i j=>(cW.at' hq i j).bot;have bF:∀i j,aH q (atT fW i j).2:=fun i j=>(cF.at' hq i j).bot;have nz:¬q∣d1*d2*(e1*e2):=iL hq (iL hq (p8.1.nz hq) (OB.1.nz hq)) (iL hq (OC.1.nz hq) (OD.1.nz hq));have v1:=i1 A1 d1 G1 e1 p8 OC (j / s') (k / s') (fS hj) (fS hk);have v2:=i2 A2 d2 G2 e2 OB OD (j % s') (k % s') (fz hj) (fz hk);have fin:∀{x y:Int},Cg q x (if j / s'=k / s' then d1*e1 else 0)→Cg q y (if j % s'=k % s' then d2*e2 else 0)→Cg q (D*E*(x*y)) (d1*d2*(e1*e2)*if j=k then D*E else 0):=fun{x y} hx hy=>by
  have z:=((hx.mulR y).trans (hy.mulL _)).mulL (D*E);refine z.trans (Cg.of_eq ?_);by_cases e:j=k
  ·rw [ak e,ak (by rw [e]),ak (by rw [e])]
   grind
  ·rw [aj e]
   by_cases e1:j / s'=k / s'
   ·rw [aj fun e2=>e (Xe.mp ⟨e1,e2⟩)]
    simp
   ·rw [aj e1]
    simp
 constructor
 ·refine oC hq nz ?_
  have l:Cg q (d1*d2*(e1*e2)*ai (s*s') fun i=>F j i*T i k) (D*E*ai (s*s') fun i=>(G1 (j / s') (i / s')*G2 (j % s') (i % s'))*(A1 (i / s') (k / s')*A2 (i % s') (k % s'))):=by rw [cm,cm];refine dB fun i hi=>?_;have z1:=p6 bF hF r2 hj hi;have z2:=p6 bW hW r1 hi hk;exact (Cg.of_eq (by grind)).trans ((HR z1 z2).trans (Cg.of_eq (by grind)))
  rw [G_ s s' (fun i=>G1 (j / s') i) (fun i=>A1 i (k / s')) (fun i=>G2 (j % s') i) (fun i=>A2 i (k % s'))] at l;exact l.trans (fin v1.1 v2.1)
 ·refine oC hq nz ?_
  have l:Cg q (d1*d2*(e1*e2)*ai (s*s') fun i=>T j i*F i k) (D*E*ai (s*s') fun i=>(A1 (j / s') (i / s')*A2 (j % s') (i % s'))*(G1 (i / s') (k / s')*G2 (i % s') (k % s'))):=by rw [cm,cm];refine dB fun i hi=>?_;have z1:=p6 bF hF r2 hi hk;have z2:=p6 bW hW r1 hj hi;exact (Cg.of_eq (by grind)).trans ((HR z2 z1).trans (Cg.of_eq (by grind)))
  rw [G_ s s' (fun i=>A1 (j / s') i) (fun i=>G1 i (k / s')) (fun i=>A2 (j % s') i) (fun i=>G2 i (k % s'))] at l;exact l.trans (fin v1.2 v2.2)
theorem OE{E1 E2 M N:Nat}{xs ys ws:a_}(hq:az q)(cx:∀p∈xs,Canon q p)(cy:∀p∈ys,Canon q p)(h1:b5 q E1 xs)(h2:b5 q E2 ys)(e1:1000≤E1)(e2:1≤E2)(lx:xs.length=M)(ly:ys.length=N)(lw:ws.length=M*N)(hw:∀a,a<M*N→ws.getD a o1=mulQ q (xs.getD (a / N) o1) (ys.getD (a % N) o1)):b5 q (E1*E2) ws:=by
 have E12:1000≤E1*E2:=av e1 (k6 _ e2);have cw:∀p∈ws,Canon q p:=fun p hp=>by
  obtain ⟨a,ha,rfl⟩:=nJ hp;rw [←getD_at (d:=o1),hw a (by lia)]
  exact (zP hq (l9 hq cx _) (l9 hq cy _)).1
 by_cases z:q=0
 ·subst z
  obtain ⟨D1,x,YB,b1,v1,w1⟩:=h1;obtain ⟨D2,y,rY,b2,v2,w2⟩:=h2;have ok:=YB.mul rY;have val:∀a,a<M*N→ws.getD a o1=lZ 0 (x (a / N)*y (a % N)) (D1*D2):=fun a ha=>by
   rw [hw a ha];have p:=w1 (a / N) (by rw [lx];exact fS ha)
   have r:=w2 (a % N) (by rw [ly];exact fz ha)
   have k1:aX 0 (xs.getD (a / N) o1) (x (a / N),D1):=⟨0,by dsimp only;rw [p.1];lia⟩
   have k2:aX 0 (ys.getD (a % N) o1) (y (a % N),D2):=⟨0,by dsimp only;rw [r.1];lia⟩
   have c:=zP hq (l9 hq cx (a / N)) (l9 hq cy (a % N));exact GV hq c.1 (Nl hq ok) ((c.2.trans (NG k1 k2) ((l9 hq cx _).bot.mul (l9 hq cy _).bot)).trans (GU ok).symm ok)
  refine ⟨D1*D2,fun a=>x (a / N)*y (a % N),ok,by rw [bT];exact bI b1 b2,fun p hp=>?_,fun a ha=>?_⟩
  ·obtain ⟨a,ha,rfl⟩:=nJ hp
   rw [←getD_at (d:=o1),val a (by lia)]
   exact WG ok
  ·have ha:a<M*N:=by lia
   have p:=w1 (a / N) (by rw [lx];exact fS ha)
   have r:=w2 (a % N) (by rw [ly];exact fz ha)
   refine ⟨?_,by rw [bT];exact bI p.2 r.2⟩
   rw [val a ha];obtain ⟨c,e⟩:=GU (T:=x (a / N)*y (a % N)) ok;dsimp only at e;rw [iT] at e;exact Int.sub_eq_zero.mp e
 ·refine ⟨1,fun a=>(ws.getD a o1).1,⟨fun y=>absurd y z,fun _=>rfl⟩,by show 1≤_;lia,fun p hp=>?_,fun a ha=>?_⟩
  ·rw [((cw p hp).2 z).1];exact jG 1
  ·have c:=(l9 hq cw a).2 z
   have q9:q≤997:=by rcases hq with h | h <;> lia
   rw [c.1];exact ⟨rfl,by dsimp only;lia⟩
end
end My
namespace L2
open PySem PySem.Spec PyProof.Rows
section
variable {X:Cx} {N:List Str} {scope:Scope} {cl:List (Str×Addr)} {x y:Str} {px py pos tp:Pos} {lU:Nat} {iter elt:Expr} {ifs:List Expr} {wi:TI} {ρ:St→St} {tt:TT} {te:TE}
theorem YC{y9:Str}{vP pM:Pos}{i0:Nat}(B:GA X N scope cl x y ρ)(hc:X.calm=true)(hN:X.N.Nodup)(pN:X.N[i0]?=some y9)(hy:Loc X.env.scope y9)(hi:PI X (.Tuple [.Name x px,.Name y py] lU tp) iter wi)(ht:∀s₃ H₃ fp,jh (X.bG N scope cl s₃ H₃ fp) ifs tt)(he:∀s₃ H₃ fp,PE (X.bG N scope cl s₃ H₃ fp) elt te)
  (zC:swapsWith (.ListComp elt [⟨.Tuple [.Name x px,.Name y py] lU tp,iter,ifs,0⟩] scope pos) (some (.Name y9 vP)) pM.line X.env=pure true:=by rfl) (hf:X.fn y9=true∨X.env.scope.names.lookup y9=some .local:=by first | exact .inl rfl | exact .inr rfl | assumption)
  (hs:∀x,foldedSetIterable iter X.env x=pure x:=by intro _;rfl):PS X (.Assign [.Name y9 vP] (.ListComp elt [⟨.Tuple [.Name x px,.Name y py] lU tp,iter,ifs,0⟩] scope pos) pM) (mM (vv X.K wi ρ tt te) (aO i0)):=by
 intro pins s σ H D0 I h
 have h:vv X.K wi ρ tt te σ H (fun v H1=>D0.nx (σ.set i0 (some v)) H1):=h
 rw [Fw _ _ _ _ zC]
 refine cS (uK (cS ?_))
 show wpAny _ X.A (do let _ ←comprehension (.ListComp elt [⟨.Tuple [.Name x px,.Name y py] lU tp,iter,ifs,0⟩] scope pos) scope X.env _ (newList []) false (eval iter X.env) (some (assign (.Name y9 vP) X.env))) _ _ s
 refine cS (cf (Q:=fun _ s'=>SP X pins D0 .next s') ?_ (fun _ s' hq=>e8 (e8 hq)) fun _ _ e=>e)
 refine uP (use:=some (assign (.Name y9 vP) X.env)) rfl hs B.pG B.kind B.names (aS (hi pins s σ H _ I h) fun v s1 h1=>aS h1 fun pB s2 h2=>?_)
 obtain ⟨it,fp,tn,J,H2,rfl,I2,T,fk,f2,q2⟩:=h2
 have nD:H2 s2.heap.objs.size=none:=I2.aF.fresh (aI _)
 obtain ⟨W,⟨m0,w0⟩,turn⟩:=q2 _ nD
 refine qw (Bu B.zu (by intro y hy;simp at hy) (fun h₁ fM gK=>?_) B.kind)
 dsimp only at fM gK ⊢
 generalize hD:s2.heap.objs.size=D at nD w0 turn fM gK ⊢
 generalize eZ:({s2 with heap:=s2.heap.push {cls:=.type "list",dict:=none,data:=.seq ([]:List Value).toArray}}:Shared)=s3
 have I3:Inv X pins σ (upd H2 D (.lst [])) s3:=by
  subst hD eZ
  exact I2.laid (t':=s2.toks) (fun b u e=>df _ e) (aI _) ⟨fh _,[],_,.nil,gq _ rfl⟩
 have e3:s3.heap=s2.heap.push {cls:=.type "list",dict:=none,data:=.seq ([]:List Value).toArray}:=by rw [←eZ]
 have d5:∀b o,s2.heap.get? b=some o→s3.heap.get? b=some o:=fun b o e=>by rw [e3];exact df _ e
 rw [←e3] at fM gK ⊢
 have below:∀b o,s3.heap.get? b=some o→b≠s3.heap.objs.size:=fun b o e=>fG (bN e)
 have cY:∀b o,s3.heap.get? b=some o→h₁.get? b=some o:=fun b o e=>gK.extBut b o (below b o e) (df _ e)
 have fq:∀b∈fp,∃o,s2.heap.get? b=some o∧∀v,o.data≠.cell v:=T.obj _ _ fk
 have lB:∀b∈fp,b≠D:=fun b hb z=>by
  obtain ⟨o,e,_⟩:=fq b hb
  rw [z,←hD] at e
  exact absurd (bN e) (gk _)
 have cJ:∀y c,cl.lookup y=some c→X.env.cells.lookup y=some c:=fun y c e=>B.sub (y,c) (jB e)
 have lE:=I3.pf
 have dS:(X.bG N scope cl s3 (upd H2 D (.lst [])) fp).Ok:=by
  refine ⟨I.ok.mod,B.kind,I.ok.glob,I.ok.blt,aI _,fun a b c e1 e2=>I.ok.inj a b c (cJ a c e1) (cJ b c e2),fun y hy=>B.has y hy,(fun _ _ z _=>absurd z dW),(fun _=>I.ok.hd hc),I.ok.frames,.inl rfl,fun b hb=>⟨?_,fun y c e z=>?_⟩,fun b o e=>?_,av I.ok.gE I3.sz,fun b o e hb=>?_,fun b hb z=>?_,I3.stack,lE⟩
  ·obtain ⟨o,e,_⟩:=fq b hb
   exact below b o (d5 b o e)
  ·exact (f2 b hb).2.2.2.2.1 y c (cJ y c e) z
  ·exact I3.bs b o e
  ·rcases (f2 b hb).2.2.2.1 with z | z
   ·exact I.ok.mC b o e z
   ·exact absurd (dC (bN e) (av I.ok.gE z)) (gk _)
  ·rcases fg.mp (I3.pe b z) with z | z
   ·exact (f2 b hb).2.1 z
   ·exact (f2 b hb).2.2.1 z
 have IB:∀tk:Nat,Inv (X.bG N scope cl s3 (upd H2 D (.lst [])) fp) [] (none::none::ρ σ) (upd H2 D (.lst [])) {s3 with heap:=h₁,toks:=tk}:=fun tk=>by
  refine ⟨dS,rfl,I3.bare,Un.kept cY,⟨_,fM,fun j y v e1 e2 e3=>?_⟩,fun y c e=>?_,?_,fun y c e=>I3.iU y c (cJ y c e),(fun p hp=>nomatch hp),I3.aF.kept cY,?_⟩
  ·cases j with
   | zero=>cases e2
   | succ j=>
   cases j with
   | zero=>cases e2
   | succ j=>
    obtain ⟨i,y',a1,a2,a3,a4,a5,a6⟩:=B.pH σ j v e2
    have gL:N[j+1+1]?=some y:=e1
    rw [gL] at a1
    cases a1
    obtain ⟨m,hn,hl⟩:=I3.loc
    obtain ⟨u,r,l⟩:=hl i y v a2 a3 a4
    refine ⟨u,r,.inr ⟨a6,?_⟩⟩
    obtain ⟨c,ec⟩:=B.has y a6
    rcases l with ⟨k,_⟩ | ⟨_,c',il,z⟩
    ·rcases a5 with q | q <;> (rw [k] at q;cases q)
    ·have:=cJ y c ec
     rw [this] at il
     cases il
     obtain ⟨o,ho,hd⟩:=z
     exact ⟨c,ec,o,cY _ _ ho,hd⟩
  ·obtain ⟨v,o,ho,hd⟩:=I3.cell y c (cJ y c e)
   exact ⟨v,o,cY _ _ ho,hd⟩
  ·exact I3.aF.fresh (aI _)
  ·show (none::none::ρ σ).length=N.length
   rw [dN,dN]
   exact B.len σ I.len
 have lO:∀b o,s3.heap.get? b=some o→b≠s3.heap.objs.size:=below
 have fin:∀{σ':St} {H':Hp} {s':Shared},Inv (X.bG N scope cl s3 (upd H2 D (.lst [])) fp) [] σ' H' s'→D0.nx (σ.set i0 (some (.ref D))) H'→compPost (model X.prog X.w) X.A X.xe (some (assign (.Name y9 vP) X.env)) (fun _ s'=>SP X pins D0 .next s') (.ref D) s3.heap.objs.size (.ok .next) s':=fun{σ' H' s'} J q=>by
  obtain ⟨m,hn,_⟩:=J.loc
  have hn:s'.heap.Ns s3.heap.objs.size m:=hn
  have JC:H' s3.heap.objs.size=none:=J.free
  have u1:Un (dy X.stack) fp (upd H2 D (.lst [])) H' s3.heap s'.heap:=by
   refine ⟨fun b o e n hb hx=>J.base.keep b o e n hb hx,fun b o e n hb hx=>J.base.slot b o e n hb hx,J.base.free,fun b o e hx=>J.base.there b o e hx,J.base.gR,J.base.gD,J.base.gS⟩
  have IX:Inv X pins σ H' s':=I3.k7 (ch:=fp) (J.os) u1 J.aF J.bare fun b hb=>by
   obtain ⟨g0,g1,g2,g3,g4,g5⟩:=f2 b hb
   exact ⟨g3,g1,g4,g5⟩
  have nl:X.env.locals≠s3.heap.objs.size:=by
   obtain ⟨m3,⟨o3,_,_,e3,_⟩,_⟩:=I3.loc
   exact lO _ _ e3
  have nc:∀z c,X.env.cells.lookup z=some c→c≠s3.heap.objs.size:=fun z c e=>by
   obtain ⟨v3,o3,e3,_⟩:=I3.cell z c e
   exact lO _ _ e3
  refine Bk (BO (v:=.ref D) IX hN pN hy rfl (fun iI lQ lR=>?_) hf)
  obtain ⟨a,lR,ha⟩:=lR
  have na:s3.heap.objs.size≠a:=by
   rcases ha with rfl | e
   ·exact fun z=>nl z.symm
   ·exact fun z=>nc _ _ e z.symm
  refine ⟨m,hn.sameBut lR na,fun h' dJ=>⟨σ.set i0 (some (.ref D)),H',?_,q⟩⟩
  have u2:Un (dy X.stack) [s3.heap.objs.size] H' H' iI.heap h':=by
   refine ⟨fun b o e n hb hx=>(dJ.2 b (by simpa using hx)).trans e,fun b o e n hb hx=>⟨o.slots,(dJ.2 b (by simpa using hx)).trans e⟩,fun b o e n hx=>n,fun b o e hx=>⟨o,(dJ.2 b (by simpa using hx)).trans e⟩,fun b xs z=>z,fun b o u z=>z,fun b ps z=>⟨#[],by simpa using z⟩⟩
  have lF:dQ X.prog X.w H' h':=fun b u e=>by
   refine (lQ.aF b u e).ja (fun c v hc z=>(dJ.2 c fun y=>?_).trans z) (fun _ z=>z) fun _ _ z=>z
   have y':c=s3.heap.objs.size:=y
   rcases hc with hc | hc
   ·rw [←hc,y',JC] at e
    cases e
   ·rw [y',JC] at hc
    cases hc
  refine lQ.k7 (s':={iI with heap:=h'}) (ch:=[s3.heap.objs.size]) rfl u2 lF lQ.bare fun b hb=>?_
  have eb:b=s3.heap.objs.size:=by simpa using hb
  subst eb
  refine ⟨.inr I3.sz,fun z=>nl z.symm,fun z c e=>nc z c e,fun p hp=>?_⟩
  exact lO _ _ (I3.pin p hp).1
 have eX:∀{H':Hp},(∀b∈fp,H' b=none)→∀b∈fp,kz (X.bG N scope cl s3 (upd H2 D (.lst [])) fp) [] H' b:=fun hn b hb=>by
  refine ⟨hn b hb,?_,?_,.inl hb,fun y c e z=>(f2 b hb).2.2.2.2.1 y c (cJ y c e) z,fun p hp=>nomatch hp⟩
  ·obtain ⟨o,e,_⟩:=fq b hb
   exact below b o (d5 b o e)
  ·exact dS.mE b hb
 have loop:∀tk:Nat,codeAny (model X.prog X.w) X.A (.compLoop (.ListComp elt [⟨.Tuple [.Name x px,.Name y py] lU tp,iter,ifs,0⟩] scope pos) 0 (.ref it) (.ref D) (compEnvC scope cl s3.heap.objs.size X.env))
   (compPost (model X.prog X.w) X.A X.xe (some (assign (.Name y9 vP) X.env)) (fun _ s'=>SP X pins D0 .next s') (.ref D) s3.heap.objs.size) {s3 with heap:=h₁,toks:=tk}:=fun tk=>by
  refine M3 (fun n s'=>∃i ys o o2 H',Inv (X.bG N scope cl s3 (upd H2 D (.lst [])) fp) [] (o::o2::ρ σ) H' s'∧tn i s'.heap∧(∀b∈fp,H' b=none)∧W i n ys H') ?_ m0
   ⟨0,[],none,none,_,IB tk,T.keep _ _ _ fk fun b hb o e=>cY _ _ (d5 _ _ e),fun b hb=>by rw [bE (lB b hb)];exact (f2 b hb).1,w0⟩
  rintro n s4 ⟨i,ys,o,o2,H4,I4,ip,iq,w4⟩
  obtain ⟨zw,lG⟩:=turn i n ys H4 w4
  rcases lG with ⟨stop,qn⟩ | ⟨go,step⟩
  ·refine cf (T.done (X.bG N scope cl s3 (upd H2 D (.lst [])) fp) rfl rfl rfl hc i [] s4 _ H4 (fun _ _=>False) I4 (eX iq) ip stop) (fun r s5 ⟨hr,I5⟩=>?_) fun _ _ z=>z.elim
   subst hr
   exact fin I5 qn
  ·refine cf (T.item (X.bG N scope cl s3 (upd H2 D (.lst [])) fp) rfl rfl rfl hc i [] s4 _ H4 (fun _ _=>False) I4 (eX iq) ip go) (fun r s5 ⟨u,hr,h5⟩=>?_) fun _ _ z=>z.elim
   subst hr
   refine cf h5 (fun _ s5 ⟨y0,H5,I5,r5,y5,eY,jK⟩=>?_) fun _ _ z=>z.elim
   obtain ⟨Tt,x1,x2,e0,GB,lH⟩:=step y0 _ y5
   subst e0
   have jM:=I5.pinned (eX jK) (T.obj _ _ eY)
   have pg:PG (X.bG N scope cl s3 (upd H2 D (.lst [])) fp) (.Tuple [.Name x px,.Name y py] lU tp) (FN X.K 2 (zd (aO 0) (zd (aO 1) FL))):=
    BW (X:=X.bG N scope cl s3 (upd H2 D (.lst [])) fp) hc (k8 (d9 (i:=0) B.nd B.n0 (.inl (km B.hx)) (.inr (km B.hx))) (k8 (d9 (i:=1) B.nd B.n1 (.inl (km B.hy)) (.inr (km B.hy))) BV))
   have again:∀{σ7:St} {H7:Hp} {s7:Shared},Inv (X.bG N scope cl s3 (upd H2 D (.lst [])) fp) ([]++iF fp s5.heap) σ7 H7 s7→Inv (X.bG N scope cl s3 (upd H2 D (.lst [])) fp) [] σ7 H7 s7∧tn (i+1) s7.heap∧∀b∈fp,H7 b=none:=fun{σ7 H7 s7} I7=>by
    refine ⟨I7.nV,T.keep _ _ _ eY fun b hb o e=>(I7.pin (b,o) (d7 _ (d7 _ (jd hb e)))).1,fun b hb=>?_⟩
    obtain ⟨o,e,d⟩:=T.obj _ _ eY b hb
    exact (I7.pin (b,o) (d7 _ (d7 _ (jd hb e)))).2.1
   refine cf (pg _ s5 _ H5 (.ref Tt) u (fun σ2 H6=>σ2=some x1::some x2::ρ σ∧H6=H5) jM r5 ⟨Tt,_,rfl,GB,rfl,_,_,rfl,_,_,rfl,rfl,rfl,rfl⟩) (fun _ s6 ⟨σ6,H6,I6,q6⟩=>?_) fun _ _ z=>z.elim
   obtain ⟨rfl,rfl⟩:=q6
   have tests:∀{fN:TT},jh (X.bG N scope cl s3 (upd H2 D (.lst [])) fp) ifs fN→∀{R:Bool→Hp→Prop},fN (some x1::some x2::ρ σ) H6 R→wpAny (model X.prog X.w) X.A
     (forIn ifs true fun c r=>if r=true then do let ok ←isTrue c (compEnvC scope cl s3.heap.objs.size X.env) (eval c (compEnvC scope cl s3.heap.objs.size X.env));pure (ForInStep.yield ok) else pure (ForInStep.yield r))
     (fun ok s7=>∃H7,Inv (X.bG N scope cl s3 (upd H2 D (.lst [])) fp) ([]++iF fp s5.heap) (some x1::some x2::ρ σ) H7 s7∧R ok H7) (fun _ _=>False) s6:=fun{fN} p {R} hR=>by
    cases p with
    | nil=>exact uQ ⟨_,I6,hR⟩
    | one p=>exact uR (p _ s6 _ _ _ I6 hR)
   refine cf (tests (ht s3 _ fp) lH) (fun ok s7 ⟨H7,I7,q7⟩=>?_) fun _ _ z=>z.elim
   cases ok with
   | false=>
    obtain ⟨m',fI,w7⟩:=q7
    obtain ⟨a1,a2,a3⟩:=again I7
    exact ⟨m',fI,i+1,ys,_,_,H7,a1,a2,a3,w7⟩
   | true=>
    refine cf (he s3 _ fp _ s7 _ H7 _ I7 q7) (fun ev s8 ⟨z,H8,I8,r8,jS,hz,m',fI,w8⟩=>?_) fun _ _ z=>z.elim
    refine cf (lA (X:=X.bG N scope cl s3 (upd H2 D (.lst [])) fp) _ s8 _ H8 (.ref D) [z] (.ref D) [ev] (fun _ H9=>H9=upd H8 D (.lst (ys++[z]))) I8 rfl (.cons r8 .nil) ⟨D,ys,z,rfl,rfl,jS,hz,rfl⟩) (fun _ s9 ⟨_,H9,I9,_,q9⟩=>?_) fun _ _ z=>z.elim
    subst q9
    obtain ⟨a1,a2,a3⟩:=again I9
    exact ⟨m',fI,i+1,ys++[z],_,_,_,a1,a2,a3,w8⟩
 have start:=loop (s3.toks+([]:List (Str×Value)).length)
 have es:({s3 with heap:=h₁,toks:=s3.toks+([]:List (Str×Value)).length}:Shared)={s2 with heap:=h₁,toks:=s2.toks+([]:List (Str×Value)).length}:=by rw [←eZ]
 rw [es] at start
 exact uS start (T.self _ 0 _ _ _ (T.keep _ _ _ fk fun b hb o e=>cY _ _ (d5 _ _ e)) start)
end
end L2
namespace My
open PySem L2
variable {B i:Nat} {H:Hp} {q:Int} {a:Addr} {aa:aD}
theorem aT.rZ(h:aT B H q a aa)(hi:i<aa.length):∃(vs:List V) (r:Addr),H a=some (.lst vs)∧vs.length=aa.length∧vs[i]?=some (.ref r)∧bC B H q r aa[i]:=by
 obtain ⟨vs,e,l,k⟩:=h;have hv:i<vs.length:=by lia
 obtain ⟨r,e1,e2⟩:=k i vs[i] aa[i] (by simp [hv]) (by simp [hi])
 exact ⟨vs,r,e,l,by rw [←e1];simp [hv],e2⟩
variable {j:Nat}
theorem bC.OF{r:Addr}{ps:a_}(h:bC B H q r ps)(hj:j<ps.length):∃(vs:List V) (v:V),H r=some (.lst vs)∧vs.length=ps.length∧vs[j]?=some v∧cD B H q v (ps.getD j o1).1 (ps.getD j o1).2:=by
 obtain ⟨vs,e,l,k⟩:=h;have hv:j<vs.length:=by lia
 refine ⟨vs,vs[j],e,l,by simp [hv],?_⟩
 rw [getD_at hj];exact k j vs[j] ps[j] (by simp [hv]) (by simp [hj])
def oJ(q:Int)(B:Nat)(aa:aD):Prop:=q=0→∀ps∈aa,∀p∈ps,p.1.natAbs≤B∧p.2.natAbs≤B
theorem aT.iz(hq:az q)(h:aT B H q a aa):dY q aa:=fun ps hp p fV=>(h.nums hq ps hp p fV).1
theorem aT.oK(h:aT B H q a aa):oJ q B aa:=fun z ps hp p fV=>by
 obtain ⟨x,vs,e,l,k⟩:=h.each ps hp;obtain ⟨j,hj,rfl⟩:=nJ fV;have hv:j<vs.length:=by lia
 have n:=k j vs[j] ps[j] (by simp [hv]) (by simp [hj])
 subst z;generalize ps[j]=p at n;generalize vs[j]=v at n;obtain ⟨x,m⟩:=p;cases n with
 | bV e l bx bm=>exact ⟨bx,bm⟩
 | rem h0 h1 h2=>lia
theorem YD{t b:Int}{v:V}{p:Int×Int}(hq:az q)(h:cU H q v t b)(ok:aH q b)(c:Canon q p)(w:aX q p (t,b))(bd:q=0→p.1.natAbs≤B∧p.2.natAbs≤B):cD B H q v p.1 p.2:=by
 by_cases z:q=0;·exact Ov hq h ok c w (bd z).1 (bd z).2
 ·have e:=c.2 z
  have q3:q≤997:=by rcases hq with h | h <;> lia
  have n:=Ov (B:=1000) hq h ok c w (by lia) (by lia)
  obtain ⟨x,m⟩:=p;cases n with
  | bV _ _ _ _=>exact absurd rfl z
  | rem h0 h1 h2=>exact .rem h0 h1 h2
variable {N:Nat}
theorem lX.C6{H0:Hp}{M:Nat}{f:Nat→Nat→Int×Int}{dc:aD}(hq:az q)(h:lX H0 H q a N M f)(lw:dc.length=N)(ww:∀ps∈dc,ps.length=M)(cw:dY q dc)(bw:oJ q B dc)(ok:∀i j,i<N→j<M→aH q (f i j).2)(w:∀i j,i<N→j<M→aX q (atT dc i j) (f i j)):aT B H q a dc:=by
 obtain ⟨vs,e,l,k⟩:=h;refine ⟨vs,e,by lia,fun i v ps h1 h2=>?_⟩
 have hi:i<N:=by rw [←l];exact (aG.mp h1).1
 obtain ⟨r,e1,_,_,ws,e2,l2,k2⟩:=k i v h1;have aR:i<dc.length:=by lia
 have YE:ps=dc[i]:=by simpa [aR] using h2.symm
 subst YE;have wi:=ww _ (aE aR);refine ⟨r,e1,ws,e2,by lia,fun j u p g1 g2=>?_⟩
 have hj:j<M:=by rw [←l2];exact (aG.mp g1).1
 have cK:j<dc[i].length:=by lia
 have ep:p=atT dc i j:=by unfold atT;rw [getD_at aR,getD_at cK];simpa [cK] using g2.symm
 have mem:atT dc i j∈dc[i]:=by unfold atT;rw [getD_at aR,getD_at cK];exact aE cK
 rw [ep];exact YD hq (k2 j u g1) (ok i j hi hj) (cw _ (aE aR) _ mem) (w i j hi hj) fun z=>bw z _ (aE aR) _ mem
section
variable {q:Int} {n m k u B C:Nat} {aa af:aD}
theorem OG(bd:oJ q B aa)(z:q=0)(b1:1≤B)(i j:Nat):(atT aa i j).1.natAbs≤B∧(atT aa i j).2.natAbs≤B:=by
 unfold atT;by_cases hi:i<aa.length
 ·rw [getD_at hi]
  by_cases hj:j<aa[i].length
  ·rw [getD_at hj]
   exact bd z _ (aE hi) _ (aE hj)
  ·rw [l5 (by lia)]
   exact ⟨fh _,b1⟩
 ·rw [l5 (xs:=aa) (by lia)]
  exact ⟨fh _,b1⟩
theorem YF(hq:az q)(c1:dY q aa)(c2:dY q af)(b1:oJ q B aa)(b2:oJ q C af)(B1:1000≤B)(C1:1≤C):oJ q (B*C) (cM q n m k u aa af):=fun z ps hp p fV=>by
 unfold cM at hp;obtain ⟨a,_,rfl⟩:=du.mp hp;obtain ⟨b,_,rfl⟩:=du.mp fV;have x:=OG b1 z (by lia) (a / k) (b / u)
 have y:=OG b2 z C1 (a % k) (b % u);have ok:=(c1.at' hq (a / k) (b / u)).bot.mul (c2.at' hq (a % k) (b % u)).bot;exact WE hq ok (av B1 (k6 _ C1)) (by rw [bT];exact bI x.1 y.1) (by rw [bT];exact bI x.2 y.2)
theorem lX.cM{H0:Hp}(hq:az q)(h:lX H0 H q a (n*k) (m*u) (cellOf aa af k u))(c1:dY q aa)(c2:dY q af)(b1:oJ q B aa)(b2:oJ q C af)(B1:1000≤B)(C1:1≤C):aT (B*C) H q a (cM q n m k u aa af):=
 h.C6 hq dO ju (rK hq c1 c2) (YF hq c1 c2 b1 b2 B1 C1) (fun i j _ _=>(c1.at' hq (i / k) (j / u)).bot.mul (c2.at' hq (i % k) (j % u)).bot) fun i j hi hj=>by rw [rJ hi hj];exact (zP hq (c1.at' hq _ _) (c2.at' hq _ _)).2
end
def kK(n:Nat):List (List (Int×Int)):=(List.range n).map fun i=>(List.range n).map fun j=>if i=j then (1,1) else (0,1)
variable {n:Nat}
theorem OH(hi:i<n)(hj:j<n):atT (kK n) i j=if i=j then (1,1) else (0,1):=by unfold atT kK;rw [vO hi,vO hj]
theorem OI:∀ps∈kK n,ps.length=n:=fun ps hp=>by unfold kK at hp;obtain ⟨i,_,rfl⟩:=du.mp hp;simp
theorem OJ:(kK n).length=n:=by simp [kK]
theorem YG(hq:az q):Canon q (1,1):=⟨fun _=>⟨by decide,by decide⟩,fun z=>⟨rfl,by decide,by rcases hq with h | h;exact absurd h z;show (1:Int)<q;lia⟩⟩
theorem OK(hq:az q):dY q (kK n):=fun ps hp p fV=>by
 unfold kK at hp;obtain ⟨i,_,rfl⟩:=du.mp hp;obtain ⟨j,_,rfl⟩:=du.mp fV
 split
 ·exact YG hq
 ·exact HP hq
theorem OL(h:1≤B):oJ q B (kK n):=fun _ ps hp p fV=>by
 unfold kK at hp;obtain ⟨i,_,rfl⟩:=du.mp hp;obtain ⟨j,_,rfl⟩:=du.mp fV
 split <;> exact ⟨by show _≤B;simp;try lia,by show _≤B;simp;try lia⟩
def mU(i j:Nat):Int×Int:=(if i=j then 1 else 0,1)
theorem YH(hq:az q)(hn:q≠0){d:Int}(hd:d=0∨d=1):cU H q (.int d) d 1:=by
 have q2:2≤q:=by rcases hq with h | h <;> lia
 exact .rem q2 (by lia) (by lia) (nG ..) ⟨0,by lia⟩
def YI:Sp:=fun vs H Q _=>∃(q:Int) (n:Nat),vs=[.int q,.int (n:Int)]∧az q∧n≤40∧∀(r:Addr) (H':Hp),ag H H'→lX H H' q r n n mU→Q (.ref r) H'
def YJ(C N:Addr):Sp:=fun vs H Q E=>∃(z a b:Addr) (q:Int) (B:Nat) (aa af:aD) (m u:Nat),vs=[.ref z,.ref a,.ref b]∧eJ C H z q∧az q∧aT B H q a aa∧aT B H q b af∧1000≤B∧B≤10 ^ 300∧1≤aa.length∧aa.length≤40∧1≤af.length∧af.length≤40∧(∀ps∈aa,ps.length=m)∧(∀ps∈af,ps.length=u)∧m≤40∧1≤u∧u≤40∧aa.length*af.length≤40∧m*u≤40 ∧
 ∀(b:Addr) (H':Hp),ag H H'→H b=none→lX H H' q b (aa.length*af.length) (m*u) (cellOf aa af af.length u)→Q (.ref b) H'
def YK:Sp:=fun vs H Q _=>∃(a b:Addr) (q:Int) (aa af:aD) (m u:Nat),vs=[.int q,.ref a,.ref b]∧az q∧aT (10 ^ 60) H q a aa∧aT (10 ^ 60) H q b af∧1≤aa.length∧aa.length≤40∧1≤af.length∧af.length≤40∧(∀ps∈aa,ps.length=m)∧(∀ps∈af,ps.length=u)∧m≤40∧1≤u∧u≤40 ∧
 ∀(r:Addr) (H':Hp),ag H H'→H r=none→lX H H' q r (aa.length*af.length) (m*u) (cellOf aa af af.length u)→Q (.ref r) H'
def YL:Sp:=fun vs H Q _=>∃(q:Int) (a b:Addr) (B C r m:Nat) (aa af:aD),vs=[.int q,.ref a,.ref b]∧az q∧aT B H q a aa∧aT C H q b af∧1≤B∧1≤C∧aa.length≤40∧(∀ps∈aa,ps.length=r)∧af.length=r∧1≤r∧r≤40∧(∀ps∈af,ps.length=m)∧m≤40∧(q=0→40*(B*C) ^ r<2 ^ 8192) ∧
 ∀(x:Addr) (H':Hp),ag H H'→lX H H' q x aa.length m (fun i j=>aW (aa.getD i []) (af.map fun ps=>ps.getD j (0,1)) (0,1))→Q (.ref x) H'
def YM:Sp:=fun vs H Q _=>∃(l l':Addr) (L L':List Nat) (k:Nat),vs=[.ref l,.ref l',.int (k:Int)]∧H l=some (.lst (aZ L))∧H l'=some (.lst (aZ L'))∧L.length≤40∧L'.length≤40∧(∀x∈L,x≤40)∧k≤40∧(∀x∈L',x≤40)∧L.length*L'.length≤40∧∀(r:Addr) (H':Hp),ag H H'→H r=none→H' r=some (.lst (aZ (dq L L' k)))→Q (.ref r) H'
def YN:Sp:=fun vs H Q _=>∃(q:Int) (a p lf rt dn ac bk:Addr) (B Bx By M m:Nat) (dc vQ af cZ:aD) (L D:List Nat),vs=[.int q,.ref a,.ref p,.int (M:Int)]∧az q∧aT B H q a dc∧H p=some (.tup [.ref lf,.ref rt,.ref dn,.ref ac,.ref bk])∧H ac=some (.lst (aZ L))∧H dn=some (.lst (aZ D))∧aT B H q lf vQ∧aT Bx H q rt af∧aT By H q bk cZ∧1≤B∧1≤Bx∧1≤By ∧
 1≤dc.length∧dc.length≤40∧(∀ps∈dc,ps.length=m)∧m≤40∧1≤M∧M≤40∧L.length=M∧D.length=M∧L.Pairwise (· < ·)∧D.Pairwise (· < ·)∧(∀l∈L,l<m)∧(∀d∈D,d<dc.length)∧vQ.length=dc.length∧(∀ps∈vQ,ps.length=M)∧af.length=M∧(∀ps∈af,ps.length=m)∧cZ.length=M∧(∀ps∈cZ,ps.length=M) ∧
 (q=0→40*(B*Bx) ^ M<2 ^ 8192)∧(q=0→40*(B*By) ^ M<2 ^ 8192) ∧
 (∀t k,t<dc.length→k<m→aX q (aW (vQ.getD t []) (af.map fun ps=>ps.getD k (0,1)) (0,1)) (atT dc t k)) ∧
 (∀t k,t<M→k<M→aX q (aW ((cR D (a7 L dc)).getD t []) (cZ.map fun ps=>ps.getD k (0,1)) (0,1)) (if t=k then (1,1) else (0,1))) ∧
 ∀H',ag H H'→Q (.bl true) H'
theorem OM{w:Nat}{X Y:aD}(lx:X.length=N)(ly:Y.length=N)(wx:∀ps∈X,ps.length=w)(wy:∀ps∈Y,ps.length=w)(h:∀i j,i<N→j<w→atT X i j=atT Y i j):X=Y:=by
 refine nI (by lia) fun i h1 h2=>?_
 have a1:=wx _ (aE h1);have a2:=wy _ (aE h2);refine nI (by lia) fun j g1 g2=>?_
 have z:=h i j (by lia) (by lia)
 unfold atT at z;rw [getD_at h1,getD_at h2,getD_at g1,getD_at g2] at z;exact z
section
variable {q:Int} {n m k u E1 E2:Nat} {aa af:aD} {L L':List Nat}
theorem YO(ln:aa.length=n)(lk:af.length=k)(l1:∀l∈L,l<m)(l2:∀l∈L',l<u):cM q n L.length k L'.length (a7 L aa) (a7 L' af)=a7 (dq L L' u) (cM q n m k u aa af):=by
 refine OM (N:=n*k) (w:=L.length*L'.length) dO (by rw [fU,dO]) ju (fun ps h=>by rw [l8 ps h,dU]) fun i j hi hj=>?_
 have pl:=p7 (L:=L) (L':=L') l1 l2;have cK:j<(dq L L' u).length:=by rw [dU];exact hj
 rw [rJ hi hj,rC (by rw [dO];exact hi) cK,rJ hi (pl _ (getD_mem cK)),Aa l2 hj,Ab l2 hj,rC (by rw [ln];exact fS hi) (fS hj),rC (by rw [lk];exact fz hi) (fz hj)]
theorem aT.C7{B':Nat}(h:aT B H q a aa)(hb:q=0→B≤B'):aT B' H q a aa:=by
 by_cases z:q=0;·exact h.weak (hb z)
 ·obtain ⟨vs,e,l,f⟩:=h
  refine ⟨vs,e,l,fun i v ps h1 h2=>?_⟩;obtain ⟨r,e1,ws,e2,l2,f2⟩:=f i v ps h1 h2;refine ⟨r,e1,ws,e2,l2,fun j w p g1 g2=>?_⟩;have n:=f2 j w p g1 g2;obtain ⟨x,m⟩:=p;cases n with
  | bV _ _ _ _=>exact absurd rfl z
  | rem h0 h1 h2=>exact .rem h0 h1 h2
theorem ON(hq:az q)(c:dY q aa)(i:Nat):∀p∈aa.getD i [],Canon q p:=fun p hp=>by
 by_cases hi:i<aa.length
 ·rw [getD_at hi] at hp
  exact c _ (aE hi) p hp
 ·rw [l5 (by lia)] at hp
  cases hp
theorem YQ(hq:az q)(ln:aa.length=n)(lk:af.length=k)(wm:∀ps∈aa,ps.length=m)(wu:∀ps∈af,ps.length=u)(c1:dY q aa)(c2:dY q af)(h1:∀ps∈aa,b5 q E1 ps)(h2:∀ps∈af,b5 q E2 ps)(e1:1000≤E1)(e2:1≤E2):∀ps∈cM q n m k u aa af,b5 q (E1*E2) ps:=fun ps hp=>by
 obtain ⟨a,ha,rfl⟩:=nJ hp;rw [dO] at ha;have d:=fS ha;have r:=fz ha;rw [←getD_at (d:=[]),Ow ha];refine OE hq (ON hq c1 (a / k)) (ON hq c2 (a % k)) (xs:=aa.getD (a / k) []) (ys:=af.getD (a % k) []) (M:=m) (N:=u) ?_ ?_ e1 e2 ?_ ?_ (by simp) fun b hb=>?_
 ·rw [getD_at (by lia)];exact h1 _ (aE _)
 ·rw [getD_at (by lia)];exact h2 _ (aE _)
 ·rw [getD_at (by lia)];exact wm _ (aE _)
 ·rw [getD_at (by lia)];exact wu _ (aE _)
 ·rw [vO hb]
  rfl
theorem HU(hq:az q)(c:dY q aa)(j:Nat):∀p∈aa.map (fun ps:List (Int×Int)=>ps.getD j (0,1)),Canon q p:=fun p hp=>by obtain ⟨ps,oM,rfl⟩:=du.mp hp;exact l9 hq (c ps oM) j
theorem HV:(aa.map fun ps:List (Int×Int)=>ps.getD j (0,1)).getD i o1=atT aa i j:=by
 unfold atT;by_cases h:i<aa.length
 ·rw [getD_at (by simpa using h),i9,getD_at h]
  rfl
 ·rw [l5 (by simpa using h),l5 (xs:=aa) (by lia)]
  rfl
theorem OO(hq:az q)(ln:aa.length=n)(lk:af.length=k)(c1:dY q aa)(c2:dY q af)(h1:∀ps∈bK m aa,b5 q E1 ps)(h2:∀ps∈bK u af,b5 q E2 ps)(e1:1000≤E1)(e2:1≤E2):∀ps∈bK (m*u) (cM q n m k u aa af),b5 q (E1*E2) ps:=fun ps hp=>by
 unfold bK at hp h1 h2;obtain ⟨b,hb,rfl⟩:=du.mp hp;have hb:=e7.mp hb;refine OE hq (HU hq c1 (b / u)) (HU hq c2 (b % u)) (M:=n) (N:=k) (h1 _ (du.mpr ⟨b / u,e7.mpr (fS hb),rfl⟩)) (h2 _ (du.mpr ⟨b % u,e7.mpr (fz hb),rfl⟩)) e1 e2 (by simpa using ln) (by simpa using lk) (by simp [cM]) fun a ha=>?_
 rw [HV,HV,HV,rJ ha hb]
end
variable {L D:List Nat}
theorem OP(hq:az q)(c:dY q aa):dY q (cR D (a7 L aa)):=fun ps hp p fV=>by
 unfold cR at hp;obtain ⟨i,_,rfl⟩:=du.mp hp;by_cases hi:i<aa.length
 ·rw [vM hi] at fV
  obtain ⟨j,_,rfl⟩:=du.mp fV;exact c.at' hq i j
 ·rw [l5 (by rw [fU];lia)] at fV
  cases fV
theorem YR{m k u:Nat}{af:aD}{L' D':List Nat}(ln:aa.length=n)(lk:af.length=k)(l1:∀l∈L,l<m)(l2:∀l∈L',l<u)(d1:∀d∈D,d<n)(d2:∀d∈D',d<k)(e1:D.length=L.length)(e2:D'.length=L'.length):cR (dq D D' k) (a7 (dq L L' u) (cM q n m k u aa af))=cM q L.length L.length L'.length L'.length (cR D (a7 L aa)) (cR D' (a7 L' af)):=by
 refine OM (N:=L.length*L'.length) (w:=L.length*L'.length) (by rw [rD,dU,e1,e2]) dO (fun ps h=>?_) ju fun i j hi hj=>?_
 ·rw [CZ l8 (fun d hd=>by rw [fU,dO];exact p7 d1 d2 d hd) ps h,dU]
 ·rw [Yz ln lk l1 l2 d1 d2 (by rw [e1,e2];exact hi) hj,rJ hi hj,e2]
theorem YS{r:Nat}(h:r≤9):r*cp r≤10 ^ 7:=by
 have:∀r∈List.range 10,r*cp r≤10 ^ 7:=by decide
 exact this r (e7.mpr (by lia))
end My
set_option maxRecDepth 100000
set_option maxHeartbeats 4000000
namespace My
open PySem L2
def top(i:Nat):Stmt:=PySem.Challenge.pw_bandwright_k67_whole_twofold_ranks.main.body.getD i (.Pass ⟨0,0,0,0⟩)
abbrev C8:Stmt:=top 8
abbrev C9:Stmt:=top 9
abbrev C_:Stmt:=top 10
abbrev De:Stmt:=top 11
abbrev Df:Stmt:=top 12
abbrev Dg:Stmt:=top 13
abbrev Dh:Stmt:=top 14
abbrev Di:Stmt:=top 15
abbrev Dj:Stmt:=top 16
abbrev Dk:Stmt:=top 17
abbrev Dm:Stmt:=top 18
abbrev Dn:Stmt:=top 19
abbrev Dp:Stmt:=top 21
abbrev Dq:Stmt:=top 22
abbrev Ds:Stmt:=top 23
abbrev Dt:Stmt:=top 24
abbrev Du:Stmt:=top 25
abbrev Dv:Stmt:=top 27
abbrev Dw:Stmt:=top 28
abbrev Dz:Stmt:=top 29
abbrev DC:Stmt:=top 33
abbrev DE:Stmt:=top 35
abbrev DF:Stmt:=top 36
abbrev DG:Stmt:=top 37
abbrev DH:Stmt:=top 39
abbrev DI:Stmt:=top 40
abbrev DJ:Stmt:=top 41
abbrev DK:Stmt:=top 42
abbrev DL:Stmt:=top 43
abbrev DM:Stmt:=top 44
abbrev DN:Stmt:=top 46
abbrev DO:Stmt:=top 47
abbrev DP:Stmt:=top 48
abbrev DQ:Stmt:=top 50
abbrev DR:Stmt:=top 51
abbrev DS:Stmt:=top 53
abbrev DT:Stmt:=top 55
abbrev DU:Stmt:=top 56
abbrev DV:Stmt:=top 59
abbrev DW:Stmt:=top 60
abbrev DX:Stmt:=top 63
abbrev DY:Stmt:=top 64
abbrev DZ:Stmt:=top 65
abbrev D3:Stmt:=top 66
abbrev D4:Stmt:=top 67
abbrev D5:Stmt:=top 68
abbrev D8:Stmt:=top 70
abbrev D9:Stmt:=top 71
abbrev D_:Stmt:=top 72
abbrev Ea:Stmt:=top 73
abbrev Eb:Stmt:=top 74
abbrev Ec:Stmt:=top 75
abbrev Ed:Stmt:=top 76
abbrev Ee:Stmt:=top 77
abbrev Eg:Stmt:=top 78
abbrev Eh:Stmt:=top 79
abbrev Ei:Stmt:=top 80
abbrev Ej:Stmt:=inClass (top 61) 0
abbrev kL:Stmt:=inClass (top 61) 3
abbrev Ek:Stmt:=inClass (top 61) 6
abbrev El:Stmt:=inClass (top 61) 8
set_option genInjectivity false in
set_option genSizeOf false in
structure HW where
 p9:Addr
 r6:FuncData
 p_:Addr
 r9:FuncData
 r_:Addr
 vR:FuncData
 sg:Addr
 vS:FuncData
 qa:Addr
 sh:FuncData
 si:Addr
 vT:FuncData
 sj:Addr
 vU:FuncData
 sk:Addr
 vV:FuncData
 so:Addr
 vW:FuncData
 sq:Addr
 vX:FuncData
 su:Addr
 vY:FuncData
 sv:Addr
 vZ:FuncData
 sx:Addr
 v_:FuncData
 sy:Addr
 wc:FuncData
 sA:Addr
 wg:FuncData
 sC:Addr
 wj:FuncData
 qb:Addr
 sD:FuncData
 sE:Addr
 wk:FuncData
 qc:Addr
 sF:FuncData
 qd:Addr
 sG:FuncData
 sI:Addr
 wo:FuncData
 sJ:Addr
 wq:FuncData
 sL:Addr
 wt:FuncData
 sM:Addr
 wz:FuncData
 sN:Addr
 wA:FuncData
 sO:Addr
 wB:FuncData
 sP:Addr
 wD:FuncData
 sQ:Addr
 wF:FuncData
 sR:Addr
 wG:FuncData
 sS:Addr
 wH:FuncData
 sU:Addr
 wI:FuncData
 sV:Addr
 wJ:FuncData
 sW:Addr
 wK:FuncData
 sX:Addr
 wL:FuncData
 sY:Addr
 wM:FuncData
 sZ:Addr
 wN:FuncData
 s_:Addr
 wO:FuncData
 td:Addr
 wQ:FuncData
 tq:Addr
 wR:FuncData
 tu:Addr
 wU:FuncData
 tx:Addr
 wV:FuncData
 tD:Addr
 wW:FuncData
 tE:Addr
 wX:FuncData
 tF:Addr
 wY:FuncData
 tG:Addr
 wZ:FuncData
 tH:Addr
 w5:FuncData
 tI:Addr
 w6:FuncData
 qe:Addr
 tJ:FuncData
 tK:Addr
 w9:FuncData
 tL:Addr
 w_:FuncData
 tM:Addr
 xc:FuncData
 tN:Addr
 xf:FuncData
 tO:Addr
 xg:FuncData
 tP:Addr
 xh:FuncData
 tQ:Addr
 xi:FuncData
 tR:Addr
 xj:FuncData
 qf:Addr
 tS:FuncData
 tT:Addr
 xn:FuncData
 oN:Addr
 Ae:FuncData
 tU:Addr
 xo:FuncData
 tV:Addr
 xp:FuncData
 cb:Addr
 tW:Addr
 mV:Addr
 iB:Addr
 xq:Addr
abbrev bH (mg:d8) (x:Str) (f:Addr):Prop:=mg x=some (.ref f)
abbrev Em (K:aL) (a:Addr):Prop:=PySem.W.excIn K a [.type "ValueError",.type "Exception",.type "BaseException",.type "object"] "ValueError.__new__"=true
structure Txt (K:aL) (mg:d8) (t:HW):Prop where
 iO:aB K "width" C8 t.p9 t.r6
 l_:Binds K t.r6 ["table"] []
 ma:bH mg "width" t.p9
 mX:aB K "square_size" C9 t.p_ t.r9
 Af:Binds K t.r9 ["table"] []
 Ag:bH mg "square_size" t.p_
 qg:aB K "has_size" C_ t.r_ t.vR
 En:Binds K t.vR ["table","n","m"] []
 Eo:bH mg "has_size" t.r_
 qh:aB K "column" De t.sg t.vS
 Ep:Binds K t.vS ["table","place"] []
 Er:bH mg "column" t.sg
 qi:aB K "columns" Df t.qa t.sh
 HX:Binds K t.sh ["table"] []
 HY:bH mg "columns" t.qa
 xr:aB K "sum_of_wholes" Dg t.si t.vT
 OQ:Binds K t.vT ["world","one","other"] []
 OR:bH mg "sum_of_wholes" t.si
 xt:aB K "sums_of_wholes" Dh t.sj t.vU
 OS:Binds K t.vU ["world","rows","row"] []
 OT:bH mg "sums_of_wholes" t.sj
 xu:aB K "all_as_wholes" Di t.sk t.vV
 OU:Binds K t.vV ["world","rows"] []
 OV:bH mg "all_as_wholes" t.sk
 tX:aB K "paired_sums" Dj t.so t.vW
 HZ:Binds K t.vW ["world","rows","others"] []
 H_:bH mg "paired_sums" t.so
 xv:aB K "product" Dk t.sq t.vX
 OW:Binds K t.vX ["world","one","other"] []
 OX:bH mg "product" t.sq
 xx:aB K "one_table_row" Dm t.su t.vY
 OY:Binds K t.vY ["world","n","place"] []
 OZ:bH mg "one_table_row" t.su
 qj:aB K "one_table" Dn t.sv t.vZ
 Es:Binds K t.vZ ["world","n"] []
 Et:bH mg "one_table" t.sv
 tY:aB K "cleared" Dp t.sx t.v_
 Ia:Binds K t.v_ ["world","row","head","lead","last"] []
 Ib:bH mg "cleared" t.sx
 tZ:aB K "first_filled" Dq t.sy t.wc
 Ic:Binds K t.wc ["rows","start","lead"] []
 Ie:bH mg "first_filled" t.sy
 t4:aB K "swapped" Ds t.sA t.wg
 Ig:Binds K t.wg ["rows","one","other"] []
 Ih:bH mg "swapped" t.sA
 t5:aB K "row_over" Dt t.sC t.wj
 Ii:Binds K t.wj ["world","row","lead"] []
 Ij:bH mg "row_over" t.sC
 me:aB K "reduced" Du t.qb t.sD
 xy:Binds K t.sD ["world","table"] []
 xA:bH mg "reduced" t.qb
 t6:aB K "beside" Dv t.sE t.wk
 Ik:Binds K t.wk ["table","other"] []
 Il:bH mg "beside" t.sE
 qk:aB K "back_times" Dw t.qc t.sF
 Im:Binds K t.sF ["world","table","other"] []
 Io:bH mg "back_times" t.qc
 t7:aB K "back_of" Dz t.qd t.sG
 O0:Binds K t.sG ["world","table"] []
 O1:bH mg "back_of" t.qd
 xB:aB K "is_whole" DC t.sI t.wo
 O2:Binds K t.wo ["thing"] []
 O3:bH mg "is_whole" t.sI
 oO:aB K "common_divisor" DE t.sJ t.wq
 Ah:Binds K t.wq ["one","other"] []
 Ai:bH mg "common_divisor" t.sJ
 xC:aB K "is_prime" DF t.sL t.wt
 O4:Binds K t.wt ["number"] []
 O5:bH mg "is_prime" t.sL
 xD:aB K "is_rising" DG t.sM t.wz
 O6:Binds K t.wz ["things"] []
 O7:bH mg "is_rising" t.sM
 ql:aB K "rank" DH t.sN t.wA
 Eu:Binds K t.wA ["world","table"] []
 Ew:bH mg "rank" t.sN
 qm:aB K "picked" DI t.sO t.wB
 Ex:Binds K t.wB ["row","places"] []
 Ey:bH mg "picked" t.sO
 t8:aB K "rank_paper" DJ t.sP t.wD
 Ip:Binds K t.wD ["world","table"] []
 Iq:bH mg "rank_paper" t.sP
 xF:aB K "put_back" DK t.sQ t.wF
 O8:Binds K t.wF ["world","left","right","wide"] []
 O9:bH mg "put_back" t.sQ
 t9:aB K "are_picks" DL t.sR t.wG
 Ir:Binds K t.wG ["places","many","bound"] []
 Iu:bH mg "are_picks" t.sR
 xG:aB K "is_rank_paper" DM t.sS t.wH
 O_:Binds K t.wH ["world","table","paper"] []
 Pa:bH mg "is_rank_paper" t.sS
 xH:aB K "check_sizes" DN t.sU t.wI
 Pb:Binds K t.wI ["one","other"] []
 Pc:bH mg "check_sizes" t.sU
 xI:aB K "twofold_row" DO t.sV t.wJ
 Pd:Binds K t.wJ ["world","row","more"] []
 Pe:bH mg "twofold_row" t.sV
 oP:aB K "twofold" DP t.sW t.wK
 Aj:Binds K t.wK ["world","one","other"] []
 Ak:bH mg "twofold" t.sW
 xJ:aB K "ratio" DQ t.sX t.wL
 Pf:Binds K t.wL ["top","bottom"] []
 Pg:bH mg "ratio" t.sX
 xK:aB K "ratio_times" DR t.sY t.wM
 Ph:Binds K t.wM ["a","b"] []
 Pj:bH mg "ratio_times" t.sY
 xM:aB K "one_bottom" DS t.sZ t.wN
 Pk:Binds K t.wN ["row"] []
 Pl:bH mg "one_bottom" t.sZ
 xN:aB K "remainder_back" DT t.s_ t.wO
 Pm:Binds K t.wO ["prime","number"] []
 Pn:bH mg "remainder_back" t.s_
 xO:aB K "remainder_over" DU t.td t.wQ
 Po:Binds K t.wQ ["prime","a","b"] []
 Pp:bH mg "remainder_over" t.td
 xP:aB K "is_fractions" DV t.tq t.wR
 Pq:Binds K t.wR ["told"] []
 Pr:bH mg "is_fractions" t.tq
 xQ:aB K "is_wheel" DW t.tu t.wU
 Pt:Binds K t.wU ["told"] []
 Pu:bH mg "is_wheel" t.tu
 mY:aB K "_law_b_draw" DX t.tx t.wV
 xR:Binds K t.wV ["script","k"] []
 xS:bH mg "_law_b_draw" t.tx
 qo:aB K "_law_b_low" DY t.tD t.wW
 Ez:Binds K t.wW ["top","bottom"] []
 EA:bH mg "_law_b_low" t.tD
 xT:aB K "_law_b_prime" DZ t.tE t.wX
 Pw:Binds K t.wX ["cell"] []
 Px:bH mg "_law_b_prime" t.tE
 xU:aB K "_law_b_wheel" D3 t.tF t.wY
 Py:Binds K t.wY ["draw"] []
 Pz:bH mg "_law_b_wheel" t.tF
 xV:aB K "_law_b_world" D4 t.tG t.wZ
 PB:Binds K t.wZ ["p"] []
 PD:bH mg "_law_b_world" t.tG
 xW:aB K "_law_b_whole" D5 t.tH t.w5
 PF:Binds K t.w5 ["thing"] []
 PH:bH mg "_law_b_whole" t.tH
 qp:aB K "_law_b_number" D8 t.tI t.w6
 EB:Binds K t.w6 ["p","draw"] []
 EC:bH mg "_law_b_number" t.tI
 mZ:aB K "_law_b_dot" D9 t.qe t.tJ
 xX:Binds K t.tJ ["p","one","other"] []
 xY:bH mg "_law_b_dot" t.qe
 xZ:aB K "_law_b_rank" D_ t.tK t.w9
 PJ:Binds K t.w9 ["p","rows","many"] []
 PK:bH mg "_law_b_rank" t.tK
 t_:aB K "_law_b_drawn" Ea t.tL t.w_
 Iv:Binds K t.w_ ["script","p","n","m","head","at"] []
 Iw:bH mg "_law_b_drawn" t.tL
 ua:aB K "_law_b_product" Eb t.tM t.xc
 Iy:Binds K t.xc ["p","one","other"] []
 Iz:bH mg "_law_b_product" t.tM
 x4:aB K "_law_b_twofold" Ec t.tN t.xf
 PL:Binds K t.xf ["p","one","other"] []
 PM:bH mg "_law_b_twofold" t.tN
 x5:aB K "_law_b_ones" Ed t.tO t.xg
 PN:Binds K t.xg ["p","n"] []
 PQ:bH mg "_law_b_ones" t.tO
 ub:aB K "_law_b_places" Ee t.tP t.xh
 IA:Binds K t.xh ["ones","others","many"] []
 IC:bH mg "_law_b_places" t.tP
 uc:aB K "_law_b_rising" Eg t.tQ t.xi
 ID:Binds K t.xi ["places","many"] []
 IE:bH mg "_law_b_rising" t.tQ
 x6:aB K "_law_b_shown" Eh t.tR t.xj
 PR:Binds K t.xj ["p","table","paper","many"] []
 PU:bH mg "_law_b_shown" t.tR
 x8:aB K "law" Ei t.qf t.tS
 YT:Binds K t.tS ["script"] []
 PV:bH mg "law" t.qf
 Al:gA K "__init__" "World.__init__" Ej t.tT t.xn
 IF:Binds K t.xn ["self","told"] []
 Am:Mk K t.cb t.tT
 PX:jT K "of" "World.of" kL 1 t.oN t.Ae
 IG:Binds K t.Ae ["self","top","bottom"] []
 PY:∃v,Vals [V.int 1] [v]∧Binds K t.Ae ["self","top","bottom"] [v]
 YU:∀(s:Shared) (us ws:List Value),K.In s.heap→ws.length=1→us.length+1=(["self","top","bottom"]:List Str).length→BindsTo s t.Ae ⟨us,[("bottom":Str)].zip ws⟩ ((["self","top","bottom"]:List Str).zip (us++ws))
 An:Meth K t.cb "of" t.oN
 Ao:gA K "times" "World.times" Ek t.tU t.xo
 PZ:Binds K t.xo ["self","a","b"] []
 ED:Meth K t.cb "times" t.tU
 Ap:gA K "as_wholes" "World.as_wholes" El t.tV t.xp
 Aq:Binds K t.xp ["self","row"] []
 ud:Meth K t.cb "as_wholes" t.tV
 gh:lg K t.cb
 IH:bH mg "World" t.cb
 kM:qQ K t.cb "prime"
 P0:bH mg "NoWorld" t.tW
 II:bH mg "NoOver" t.mV
 ue:bH mg "NoFit" t.iB
 YV:bH mg "WrightError" t.xq
 de:mg "len"=none
 uf:mg "isinstance"=none
 Ar:mg "int"=none
 IJ:mg "bool"=none
 IK:mg "tuple"=none
 x9:mg "list"=none
 fe:mg "range"=none
 As:mg "abs"=none
 x_:mg "all"=none
 IL:mg "any"=none
 IM:mg "sum"=none
 kO:mg "zip"=none
 P4:mg "min"=none
 P5:∃u,mg "GREATEST_PRIME"=some u∧RelV (.int 997) u
 P6:∃u,mg "LONG"=some u∧RelV (.int 2048) u
 P7:∃u,mg "MOST"=some u∧RelV (.int 40) u
 P8:Em K t.tW
 IP:Em K t.mV
 ug:Em K t.iB
 YW:Em K t.xq
section
variable {P:Program} {w:World} {K:aL} {mg:d8} {base:Heap} {t:HW}
theorem YX:br ["thing"] ["thing"] (aQ DC):=bJ
theorem YY(T:Txt K mg t):aK P w K mg base bO 1 t.sI t.wo ["thing"] ML:=by
 have S:=YX;refine T.xB.cC S (fun _ _ _ _ H _ Q _ hr h=>?_);obtain ⟨v,rfl,ha,k⟩:=h;refine ⟨_,(aw (aN (ky (bU (vi (K:=K)) rfl T.uf boot_isinstance (ae (pv 0) (ae (u5 (v:=.ty "int") rfl T.Ar boot_int rfl) ah))) (mJ (Lp (bU (vi (K:=K)) rfl T.uf boot_isinstance (ae (pv 0) (ae (u5 (v:=.ty "bool") rfl T.IJ boot_bool rfl) ah)))))))),?_⟩;obtain ⟨Ty,ty,k1,k2,_⟩:=ha.Cc (K:=K);refine ⟨_,rfl,_,_,_,_,rfl,rfl,ty,k1,_,rfl,c_ (fun h1=>?_) (fun h1=>?_)⟩
 ·refine ⟨_,rfl,_,_,_,_,rfl,rfl,ty,k2,_,rfl,?_⟩
  have e:(!oh v)=og v:=by
   cases h2:oh v with
   | true=>rw [MJ h2];rfl
   | false=>rw [h2,Bool.or_false] at h1;rw [h1];rfl
  show Q (.bl (!oh v)) H;rw [e];exact k
 ·have e:og v=false:=by
   cases h2:og v with
   | true=>rw [h2] at h1;exact absurd rfl h1
   | false=>rfl
  rw [e] at k;exact k
theorem YZ:br ["one","other","left","shorter"] ["one","other"] (aQ DE):=bJ
theorem EE(T:Txt K mg t):aK P w K mg base bO 1 t.sJ t.wq ["one","other"] VH:=by
 have S:=YZ;obtain ⟨uL,hL,rL⟩:=T.P6;refine T.oO.cC S (fun _ _ _ _ H _ _ _ hr h=>?_);obtain ⟨a,b,rfl,mb,k⟩:=h
 refine ⟨_,(aq (putL 0 S.nd (bU B3 rfl T.As boot_abs (ae (pv 0) ah)))
  (aq (putL 1 S.nd (bU B3 rfl T.As boot_abs (ae (pv 1) ah)))
  (aq (zf fY (cI zi (pv 1) ao) (aq (putL 2 S.nd (ar cX (pv 0) (pv 1)))
  (aq (putL 0 S.nd (pv 1))
  (aq (putL 1 S.nd (pv 2))
  (aw (cH (cI zi (UJ PySem.F.plainAttrs_int PySem.F.slot_int_bit_length PySem.F.type_int_bit_length VB (pv 0)) (BR (v:=.int 2048) rfl hL rL)) Ta cN))))))
  (aw (aN (pv 0)))))),?_⟩
 refine ⟨_,rfl,a,rfl,_,rfl,b,rfl,fun m σ H'=>H'=H∧∃(x y:Nat) (v u:Option V),σ=[some (.int (x:Int)),some (.int (y:Int)),v,u]∧m=y∧y≤b.natAbs∧Nat.gcd x y=Int.gcd a b,⟨b.natAbs,rfl,a.natAbs,b.natAbs,none,none,?_,rfl,aI _,rfl⟩,?_⟩
 ·show [some (V.int (if a<0 then -a else a)),some (V.int (if b<0 then -b else b)),none,none]=_
  rw [Cf,Cf]
 ·rintro m σ H' ⟨rfl,x,y,v,u,rfl,em,hb,hg⟩
  refine ⟨_,rfl,_,_,rfl,rfl,_,rfl,c_ (fun hy=>?_) (fun hy=>?_)⟩
  ·have hy:(0:Int)<y:=ie hy
   refine ⟨fun σ' H2=>H2=H'∧σ'=[some (.int (y:Int)),some (.int (((x % y:Nat)):Int)),some (.int (((x % y:Nat)):Int)),u],?_,?_⟩
   ·rintro σ' H2 ⟨rfl,rfl⟩
    exact ⟨x % y,by rw [em];exact Nat.mod_lt _ (by lia),rfl,y,x % y,_,_,rfl,rfl,av (yN (Nat.mod_lt _ (by lia))) hb,by rw [MK];exact hg⟩
   ·have hm:cO (y:Int):=dD (by rw [uT];exact hb) mb
    have uh:=VD hm;refine ⟨_,rfl,_,rfl,_,_,rfl,rfl,hy,_,rfl,_,rfl,_,rfl,rfl,_,rfl,rfl,_,_,rfl,rfl,_,rfl,c_ (fun hz=>?_) (fun _=>⟨rfl,rfl⟩)⟩;have hz:=ie hz;exact absurd hz (by lia)
  ·have hy:¬(0:Int)<y:=fun z=>hy (dr z)
   have y0:y=0:=by lia
   subst y0;rw [Nat.gcd_zero_right] at hg;rw [←hg] at k;exact ⟨_,rfl,k⟩
theorem Y0:br ["number","divisor"] ["number"] (aQ DF):=bJ
theorem Y1(T:Txt K mg t):aK P w K mg base bO 1 t.sL t.wt ["number"] VI:=by
 have S:=Y0;refine T.xC.cC S (fun _ _ _ _ H _ Q _ hr h=>?_);obtain ⟨n,rfl,Y2,u9,k⟩:=h
 refine ⟨_,(aq (putL 1 S.nd ao)
  (aq (zf fY (cI zh (ar f_ (pv 1) (pv 1)) (pv 0)) (aq (cH (cI gc (ar cX (pv 0) (pv 1)) ao) (aw (aN mG)) cN)
  (aw (Ti (i:=1) S.nd rfl (Or.inl rfl) ao To))))
  (aw (aN (gU TN (pv 0) ao))))),?_⟩
 refine ⟨fun m σ H'=>H'=H∧∃d:Int,σ=[some (.int n),some (.int d)]∧2≤d∧d≤32∧m=(33-d).toNat∧∀e:Int,2≤e→e<d→n % e≠0,⟨_,rfl,2,rfl,by lia,by lia,rfl,fun e a b=>by lia⟩,?_⟩
 rintro m σ H' ⟨rfl,d,rfl,h1,h2,rfl,h3⟩;refine ⟨_,rfl,_,rfl,_,_,rfl,rfl,.inl ⟨by lia,by lia⟩,_,rfl,_,_,rfl,rfl,_,rfl,c_ (fun hq=>?_) (fun hq=>?_)⟩
 ·have hq:=ie hq
  have hd:d<32:=by
   by_cases z:d<32;·exact z
   ·have:d=32:=by lia
    subst this;lia
  refine ⟨fun σ' H2=>H2=H'∧σ'=[some (.int n),some (.int (d+1))]∧n % d≠0,?_,?_⟩
  ·rintro σ' H2 ⟨rfl,rfl,hm⟩
   refine ⟨(33-(d+1)).toNat,by lia,rfl,d+1,rfl,by lia,by lia,rfl,fun e a b=>?_⟩
   by_cases z:e=d;·subst z;exact hm
   ·exact h3 e a (by lia)
  ·refine ⟨_,rfl,_,rfl,_,_,rfl,rfl,(show (0:Int)<d by lia),rfl,_,rfl,c_ (fun hm=>?_) (fun hm=>?_)⟩
   ·have hm:=V.int.inj (ie hm)
    rw [Mw u9 h1 hq hm] at k;exact k
   ·exact ⟨_,rfl,_,_,rfl,rfl,rfl,rfl,fun z=>hm (dr (fK V.int z))⟩
 ·have hq:¬d*d≤n:=fun z=>hq (dr z)
  refine ⟨_,rfl,_,_,rfl,rfl,?_⟩;rw [Vs (n:=n) (d:=d) (by lia) h1 h3] at k
  have e:decide ((2:Int)≤n)=true:=dr Y2;show Q (.bl (decide ((2:Int)≤n))) H';rw [e];exact k
theorem Y3:br ["told"] ["told"] (aQ DV):=bJ
theorem Y4(T:Txt K mg t):aK P w K mg base bO 1 t.tq t.wR ["told"] VJ:=by
 have S:=Y3;refine T.xP.cC S (fun _ _ _ _ H _ _ _ hr h=>?_);obtain ⟨p,d,rfl,hp,k⟩:=h;refine ⟨_,(aw (aN (ky (bU (vi (K:=K)) rfl T.uf boot_isinstance (ae (pv 0) (ae (u5 (v:=.ty "tuple") rfl T.IK boot_tuple rfl) ah))) (ky (gU gc (bU dI rfl T.de dh (ae (pv 0) ah)) ao) (mJ (gU gc (aC cz (pv 0) ao) jJ)))))),?_⟩;refine ⟨_,rfl,_,_,_,true,rfl,rfl,.of (.tup hp),MI,true,rfl,gd ?_⟩;cases d with
 | a x=>refine ⟨_,rfl,p,_,rfl,.inr (.of hp),rfl,true,rfl,gd ?_⟩;refine ⟨_,rfl,p,_,0,.str x,rfl,rfl,.of hp,rfl,rfl,?_⟩;rw [Gv];exact k
 | b x n=>exact ⟨_,rfl,p,_,rfl,.inr (.of hp),rfl,false,rfl,eG k⟩
theorem Y5:br ["told"] ["told"] (aQ DW):=bJ
theorem Y6(T:Txt K mg t):aK P w K mg base bO 2 t.tu t.wU ["told"] VL:=by
 have S:=Y5;obtain ⟨uG,hG,rG⟩:=T.P5;refine T.xQ.cC S (fun _ _ _ _ H _ _ _ hr h=>?_);obtain ⟨p,d,rfl,hp,k⟩:=h
 refine ⟨_,(aq (cH (PW.pt (pw_or (mI (jb (bU (vi (K:=K)) rfl T.uf boot_isinstance (ae (pv 0) (ae (u5 (v:=.ty "tuple") rfl T.IK boot_tuple rfl) ah))))) (pw_or (cI je (bU dI rfl T.de dh (ae (pv 0) ah)) ao) (pw_or1 (cI je (aC cz (pv 0) ao) jJ))))) (aw (aN mG)) cN)
  (aw (aN (ky (aA (YY T) hr T.O3 T.xB.kp T.O2 aP (ae (aC cz (pv 0) ao) ah)) (ky (FY zh zh ao (aC cz (pv 0) ao) (BR (v:=.int 997) rfl hG rG)) (mJ (aA (Y1 T) hr T.O5 T.xC.kp T.O4 aP (ae (aC cz (pv 0) ao) ah)))))))),?_⟩
 refine ⟨_,rfl,_,_,_,true,rfl,rfl,.of (.tup hp),MI,true,rfl,eG ?_⟩;cases d with
 | a x=>exact ⟨_,rfl,p,_,rfl,.inr (.of hp),rfl,true,rfl,gd (gd k)⟩
 | b x n=>
  refine ⟨_,rfl,p,_,rfl,.inr (.of hp),rfl,false,rfl,eG ?_⟩;refine ⟨_,rfl,p,_,0,.str x,rfl,rfl,.of hp,rfl,rfl,_,rfl,c_ (fun hw=>?_) (fun hw=>?_)⟩
  ·have hw:¬x="wheel":=by rw [Gv] at hw;simpa using hw
   have e:(Td.b x n).kH=false:=by simp [Td.kH,hw]
   rw [e] at k;exact k
  ·have hw:x="wheel":=by rw [Gv] at hw;simpa using hw
   refine ⟨_,rfl,p,_,1,.int n,rfl,rfl,.of hp,rfl,.int n,rfl,.int n,true,rfl,gd ?_⟩;refine ⟨_,rfl,p,_,1,.int n,rfl,rfl,.of hp,rfl,_,_,rfl,rfl,_,rfl,?_⟩;refine c_ (fun h2=>?_) (fun h2=>?_)
   ·have h2:=ie h2
    refine ⟨_,_,rfl,rfl,_,rfl,c_ (fun h3=>?_) (fun h3=>?_)⟩
    ·have h3:=ie h3
     refine ⟨_,rfl,p,_,1,.int n,rfl,rfl,.of hp,rfl,n,rfl,h2,h3,?_⟩;have e:(Td.b x n).kH=ik n:=by simp [Td.kH,hw,h2,h3]
     rw [e] at k;exact k
    ·have h3:¬n≤997:=fun z=>h3 (dr z)
     have e:(Td.b x n).kH=false:=by simp [Td.kH,h3]
     rw [e] at k;exact k
   ·have h2:¬2≤n:=fun z=>h2 (dr z)
    have e:(Td.b x n).kH=false:=by simp [Td.kH,h2]
    rw [e] at k;exact ⟨false,rfl,eG k⟩
theorem Y7:br ["self","told"] ["self","told"] (aQ Ej):=bJ
theorem Y8(T:Txt K mg t):aK P w K mg base (et P w) 3 t.tT t.xn ["self","told"] (VM t.cb t.tW):=by
 have S:=Y7;refine T.Al.dS S (fun _ _ _ _ H _ _ _ hr h L=>?_);obtain ⟨x,dx,p,d,rfl,hx,hp,k1,k2⟩:=h;refine ⟨_,(aw (cH (jb (aA (Y4 T) hr T.Pr T.xP.kp T.Pq aP (ae (pv 1) ah))) (aw (LU (pv 0) mH rfl)) (aw (cH (jb (aA (Y6 T) hr T.Pu T.xQ.kp T.Pt aP (ae (pv 1) ah))) (aw (LU (pv 0) (aC cz (pv 1) ao) rfl)) (aw (n9 L rfl nK T.P8 rfl T.P0 (ae jJ ah))))))),?_⟩;refine ⟨_,rfl,p,d,rfl,hp,_,rfl,c_ (fun hF=>?_) (fun hF=>?_)⟩
 ·refine ⟨_,rfl,x,t.cb,dx,[],rfl,hx,T.gh,T.kM,(by show 0<1000;decide),?_⟩
  have e:d.prime=.aV:=by
   cases d with
   | a x=>rfl
   | b x n=>cases hF
  have k:=k1 (by unfold Td.good;rw [hF];rfl)
  rw [e] at k;exact k
 ·have hF:d.zt=false:=by simpa using hF
  refine ⟨_,rfl,p,d,rfl,hp,_,rfl,c_ (fun hW=>?_) (fun hW=>?_)⟩
  ·have k:=k1 (by unfold Td.good;rw [hW,Bool.or_true])
   cases d with
   | a x=>cases hW
   | b y n=>exact ⟨_,rfl,p,_,1,.int n,rfl,rfl,.of hp,rfl,_,rfl,x,t.cb,dx,[],rfl,hx,T.gh,T.kM,(by show 0<1000;decide),k⟩
  ·have hW:d.kH=false:=by simpa using hW
   exact ⟨by show 1≤sizeLine;decide,k2 (by unfold Td.good;rw [hF,hW];rfl)⟩
theorem Y9:br ["top","bottom","shared"] ["top","bottom"] (aQ DQ):=bJ
theorem Y_(T:Txt K mg t):aK P w K mg base (et P w) 2 t.sX t.wL ["top","bottom"] (V5 t.mV):=by
 have S:=Y9;refine T.xJ.dS S (fun _ _ _ _ H _ _ _ hr h L=>?_);obtain ⟨a,b,rfl,mb,kE,k⟩:=h
 refine ⟨_,(aq (cH (cI gc (pv 1) ao) (aw (n9 L rfl nK T.IP rfl T.II (ae jJ ah))) cN)
  (fZ.pk (aq (putL 2 S.nd (aA (EE T) hr T.Ai T.oO.kp T.Ah aP (ae (pv 0) (ae (pv 1) ah))))
  (aq (cH (cI jN (pv 1) ao) (aw (putL 2 S.nd (TC TL (pv 2)))) cN)
  (aw (aN (jf (ae (ar Gr (pv 0) (pv 2)) (ae (ar Gr (pv 1) (pv 2)) ah))))))))),?_⟩
 have n2:2≤sizeLine:=by decide
 refine ⟨_,rfl,rfl,_,rfl,c_ (fun hz=>?_) (fun hz=>?_)⟩
 ·have hz:b=0:=V.int.inj (ie hz)
  exact ⟨by show 1≤sizeLine;decide,kE hz⟩
 have hz:b≠0:=fun z=>hz (dr (by rw [z]))
 have ok:=VG (a:=a) hz mb;have kk:=k hz;unfold jU jo at kk;refine ⟨_,rfl,_,rfl,a,b,rfl,mb,_,rfl,_,_,rfl,rfl,_,rfl,c_ (fun hn=>?_) (fun hn=>?_)⟩
 ·have hn:b<0:=ie hn
  have e:lowG a b=-(Int.gcd a b:Int):=by unfold lowG;rw [ak hn,Int.zero_sub]
  rw [e] at ok kk;refine ⟨_,rfl,_,rfl,_,rfl,_,rfl,_,_,rfl,rfl,ok,_,rfl,_,rfl,_,_,rfl,rfl,ok,n2,fun r hr=>kk r _ (b_ hr) aM⟩
 ·have hn:¬b<0:=fun z=>hn (dr z)
  have e:lowG a b=(Int.gcd a b:Int):=by unfold lowG;rw [aj hn]
  rw [e] at ok kk;refine ⟨_,rfl,_,rfl,_,_,rfl,rfl,ok,_,rfl,_,rfl,_,_,rfl,rfl,ok,n2,fun r hr=>kk r _ (b_ hr) aM⟩
theorem Za:br ["a","b","first","second"] ["a","b"] (aQ DR):=bJ
theorem Zb(T:Txt K mg t):aK P w K mg base bO 2 t.sY t.wM ["a","b"] VX:=by
 have S:=Za;refine T.xK.cC S (fun _ _ _ _ H _ _ _ hr h=>?_);obtain ⟨p,q,x,m,y,n,rfl,hp,hq,la,lb,bx,bm,Zc,bn,k⟩:=h
 refine ⟨_,(aq (putL 2 S.nd (aA (EE T) hr T.Ai T.oO.kp T.Ah aP (ae (aC cz (pv 0) ao) (ae (aC cz (pv 1) ao) ah))))
  (aq (putL 3 S.nd (aA (EE T) hr T.Ai T.oO.kp T.Ah aP (ae (aC cz (pv 1) ao) (ae (aC cz (pv 0) ao) ah))))
  (aw (aN (jf (ae (ar mP (ar iu (aC cz (pv 0) ao) (pv 2)) (ar iu (aC cz (pv 1) ao) (pv 3))) (ae (ar mP (ar iu (aC cz (pv 0) ao) (pv 3)) (ar iu (aC cz (pv 1) ao) (pv 2))) ah))))))),?_⟩
 have n2:2≤sizeLine:=by decide
 have m0:=la.pos;have n0:=lb.pos;have gp:(0:Int)<(Int.gcd x n:Int):=MO (by lia)
 have gb:eA (Int.gcd x n:Int):=bn.gcd (by lia)
 have ap:(0:Int)<(Int.gcd y m:Int):=MO (by lia)
 have ab:eA (Int.gcd y m:Int):=bm.gcd (by lia)
 refine ⟨_,rfl,p,_,_,_,rfl,rfl,.of hp,rfl,_,rfl,q,_,_,_,rfl,rfl,.of hq,rfl,x,n,rfl,bn.mid,?_⟩;refine ⟨_,rfl,q,_,_,_,rfl,rfl,.of hq,rfl,_,rfl,p,_,_,_,rfl,rfl,.of hp,rfl,y,m,rfl,bm.mid,?_⟩;have z:=VV la lb
 exact ⟨_,rfl,p,_,_,_,rfl,rfl,.of hp,rfl,_,rfl,_,_,rfl,rfl,⟨gp,gb.mid⟩,_,rfl,q,_,_,_,rfl,rfl,.of hq,rfl,_,rfl,_,_,rfl,rfl,⟨ap,ab.mid⟩,_,_,rfl,rfl,⟨bx.over.mid,Zc.over.mid⟩,
  _,rfl,p,_,_,_,rfl,rfl,.of hp,rfl,_,rfl,_,_,rfl,rfl,⟨ap,ab.mid⟩,_,rfl,q,_,_,_,rfl,rfl,.of hq,rfl,_,rfl,_,_,rfl,rfl,⟨gp,gb.mid⟩,_,_,rfl,rfl,⟨bm.over.mid,bn.over.mid⟩,n2,
  fun r hr=>k r _ _ _ (b_ hr) aM z.1 z.2⟩
theorem Zd:br ["prime","number","last","last_times","now","now_times","fits","left","left_times"] ["prime","number"] (aQ DT):=bJ
theorem Ze(T:Txt K mg t):aK P w K mg base (et P w) 1 t.s_ t.wO ["prime","number"] (V0 t.mV):=by
 have S:=Zd;refine T.xN.dS S (fun _ _ _ _ H _ _ _ hr h L=>?_);obtain ⟨q,b,rfl,q1,q2,q3,b0,b1,kE,k⟩:=h
 refine ⟨_,(aq (cH (cI gc (pv 1) ao) (aw (n9 L rfl nK T.IP rfl T.II (ae jJ ah))) cN)
  (fZ.pk (aq (putL 2 S.nd (pv 0))
  (aq (putL 3 S.nd ao)
  (aq (putL 4 S.nd (pv 1))
  (aq (putL 5 S.nd ao)
  (aq (zf fY (cI zi (pv 4) ao) (aq (putL 6 S.nd (ar pF (pv 2) (pv 4)))
  (aq (putL 7 S.nd (ar k_ (pv 2) (ar f_ (pv 6) (pv 4))))
  (aq (putL 8 S.nd (ar k_ (pv 3) (ar f_ (pv 6) (pv 5))))
  (aq (putL 2 S.nd (pv 4))
  (aq (putL 3 S.nd (pv 5))
  (aq (putL 4 S.nd (pv 7))
  (aw (putL 5 S.nd (pv 8))))))))))
  (aw (aN (ar cX (pv 5) (pv 0))))))))))),?_⟩
 refine ⟨_,rfl,rfl,_,rfl,c_ (fun hz=>?_) (fun hz=>?_)⟩
 ·have hz:b=0:=V.int.inj (ie hz)
  exact ⟨by show 1≤sizeLine;decide,kE hz⟩
 have hz:b≠0:=fun z=>hz (dr (by rw [z]))
 refine ⟨_,rfl,_,rfl,fun m σ H'=>H'=H∧∃(l lt n nt:Int) (v1 v2 v3:Option V),σ=[some (.int q),some (.int b),some (.int l),some (.int lt),some (.int n),some (.int nt),v1,v2,v3]∧m=n.toNat∧oj q b l lt n nt∧l≤997,
  ⟨b.toNat,rfl,q,0,b,1,none,none,none,rfl,rfl,oj.start q1 q2 q3 (by lia) b1,q2⟩,?_⟩
 rintro m σ H' ⟨rfl,l,lt,n,nt,v1,v2,v3,rfl,em,hb,hl⟩;have p1:=hb.pos;have p2:=hb.less;refine ⟨_,rfl,_,_,rfl,rfl,_,rfl,c_ (fun hy=>?_) (fun hy=>?_)⟩
 ·have hy:1<n:=ie hy
  have hs:=hb.step hy;have f0:0≤l / n:=o5 (by lia) (by lia)
  have f1:l / n≤l:=Int.ediv_le_self _ (by lia)
  refine ⟨fun σ' H2=>H2=H'∧σ'=[some (.int q),some (.int b),some (.int n),some (.int nt),some (.int (l-l / n*n)),some (.int (lt-l / n*nt)),some (.int (l / n)),some (.int (l-l / n*n)),some (.int (lt-l / n*nt))],?_,?_⟩
  ·rintro σ' H2 ⟨rfl,rfl⟩
   exact ⟨(l-l / n*n).toNat,by rw [em];lia,rfl,_,_,_,_,_,_,_,rfl,rfl,hs.1,by lia⟩
  ·exact ⟨_,rfl,_,rfl,_,_,rfl,rfl,⟨by lia,by lia⟩,_,rfl,_,rfl,_,rfl,_,_,rfl,rfl,.inr ⟨by lia,by lia⟩,_,_,rfl,rfl,
    _,rfl,_,rfl,_,rfl,_,_,rfl,rfl,.inl ⟨by lia,by lia⟩,_,_,rfl,rfl,_,rfl,_,rfl,_,rfl,_,rfl,rfl,rfl⟩
 ·have hy:¬1<n:=fun z=>hy (dr z)
  have n1:n=1:=by lia
  subst n1;exact ⟨_,rfl,_,rfl,_,_,rfl,rfl,(show (0:Int)<q by lia),k hz _ (eE _ (by lia)) (eW _ (by lia)) (hb.done q1)⟩
theorem Zf:br ["prime","a","b"] ["prime","a","b"] (aQ DU):=bJ
theorem Zg(T:Txt K mg t):aK P w K mg base (et P w) 2 t.td t.wQ ["prime","a","b"] (V1 t.mV):=by
 have S:=Zf;refine T.xO.dS S (fun _ _ _ _ H _ _ _ hr h L=>?_);obtain ⟨q,i,j,rfl,q1,q2,q3,i0,i1,j0,j1,kE,k⟩:=h;refine ⟨_,(aw (aN (ar cX (ar f_ (pv 1) (aA (Ze T) hr T.Pn T.xN.kp T.Pm (iX L) (ae (pv 0) (ae (pv 2) ah)))) (pv 0)))),?_⟩
 exact ⟨_,rfl,_,rfl,_,rfl,q,j,rfl,q1,q2,q3,j0,j1,kE,fun hj r r0 r1 fX=>⟨_,_,rfl,rfl,.inl ⟨by lia,by lia⟩,_,rfl,_,_,rfl,rfl,(show (0:Int)<q by lia),
  k hj _ (eE _ (by lia)) (eW _ (by lia)) (V2 q1 i0 i1 fX)⟩⟩
theorem Zh:br ["self","top","bottom"] ["self","top","bottom"] (aQ kL):=bJ
theorem IQ(T:Txt K mg t):aK P w K mg base (et P w) 3 t.oN t.Ae ["self","top","bottom"] (V6 t.cb t.mV):=by
 have S:=Zh;refine T.PX.Gm S (fun vs H Q E h=>?_) (fun bq A outer s H vs Q E hr h L=>?_)
 ·obtain ⟨z,q,a,b,rfl,_⟩:=h
  rfl
 ·obtain ⟨z,q,a,b,rfl,⟨dx,hx⟩,hq,mb,kE,k⟩:=h
  refine ⟨_,(aq (cH (cI B0 (nY (pv 0) rfl) mH) (aw (aN (aA (Y_ T) hr T.Pg T.xJ.kp T.Pf (iX L) (ae (pv 1) (ae (pv 2) ah))))) cN)
   (aw (aN (aA (Zg T) hr T.Pp T.xO.kp T.Po (iX L) (ae (nY (pv 0) rfl) (ae (ar cX (pv 1) (nY (pv 0) rfl)) (ae (ar cX (pv 2) (nY (pv 0) rfl)) ah))))))),?_⟩
  refine ⟨_,rfl,z,t.cb,dx,_,_,rfl,hx,T.gh,T.kM,oa _,rfl,_,rfl,?_⟩;rcases hq with rfl | ⟨q2,q3,q4⟩
  ·rw [ak rfl]
   refine gd ⟨_,rfl,_,rfl,a,b,rfl,mb,fun hb=>kE (by unfold mQ;rw [ak rfl];exact hb),fun hb r H' s' er=>k (fun hn=>hb (by unfold mQ at hn;rw [ak rfl] at hn;exact hn)) _ H' s' (.inl ⟨rfl,r,rfl,er⟩)⟩
  ·have hq:q≠0:=by lia
   rw [aj hq] at hx ⊢;have p0:(0:Int)<q:=by lia
   refine eG ⟨_,rfl,z,t.cb,dx,_,_,rfl,hx,T.gh,T.kM,oa _,_,rfl,_,rfl,z,t.cb,dx,_,_,rfl,hx,T.gh,T.kM,oa _,_,_,rfl,rfl,p0,_,rfl,_,rfl,z,t.cb,dx,_,_,rfl,hx,T.gh,T.kM,oa _,_,_,rfl,rfl,p0,?_⟩;have nv:mQ q b↔b % q=0:=by unfold mQ;rw [aj hq]
   exact ⟨q,a % q,b % q,rfl,q2,q3,q4,eE _ hq,eW _ p0,eE _ hq,eW _ p0,fun hj=>kE (nv.mpr hj),fun hj r r0 r1 fX=>k (fun z=>hj (nv.mp z)) _ H (ag.refl H) (.inr ⟨q2,r,rfl,r0,r1,fX⟩)⟩
theorem Zi:br ["self","a","b"] ["self","a","b"] (aQ Ek):=bJ
theorem Zj(T:Txt K mg t):aK P w K mg base bO 4 t.tU t.xo ["self","a","b"] (Gy t.cb (fun x m y n=>x*y) (fun i j=>i*j)):=by
 have S:=Zi;refine T.Ao.cC S (fun _ _ _ _ H _ _ _ hr h=>?_);obtain ⟨z,q,v,u,rfl,⟨dx,hx⟩,hc⟩:=h
 refine ⟨_,(aq (cH (cI B0 (nY (pv 0) rfl) mH) (aw (aN (aA (Zb T) hr T.Pj T.xK.kp T.Ph aP (ae (pv 1) (ae (pv 2) ah))))) cN)
  (aw (aN (ar cX (ar f_ (pv 1) (pv 2)) (nY (pv 0) rfl))))),?_⟩
 refine ⟨_,rfl,z,t.cb,dx,_,_,rfl,hx,T.gh,T.kM,oa _,rfl,_,rfl,?_⟩;rcases hc with ⟨rfl,p,r,x,m,y,n,rfl,rfl,h1⟩ | ⟨q2,i,j,rfl,rfl,i0,i1,k⟩
 ·rw [ak rfl]
  exact gd ⟨_,rfl,_,rfl,p,r,x,m,y,n,rfl,h1⟩
 ·have hq:q≠0:=by lia
  rw [aj hq] at hx ⊢;exact eG ⟨_,rfl,_,rfl,_,_,rfl,rfl,.inl ⟨by lia,by lia⟩,_,rfl,z,t.cb,dx,_,_,rfl,hx,T.gh,T.kM,oa _,_,_,rfl,rfl,(show (0:Int)<q by lia),k⟩
theorem Zk:br ["rows","start","lead","place"] ["rows","start","lead"] (aQ Dq):=bJ
theorem P9(T:Txt K mg t):aK P w K mg base bO 1 t.sy t.wc ["rows","start","lead"] W4:=by
 have S:=Zk;refine T.tZ.cC S (fun _ _ _ s H vs _ _ hr h=>?_);obtain ⟨a,n,W,r,c,M,rfl,hA,rn,ai2,cW,k1,k2⟩:=h
 refine ⟨_,(aq (iG fY rfl (BX rfl T.fe (ae (pv 1) (ae (bU dI rfl T.de dh (ae (pv 0) ah)) ah))) (d9 (i:=3) S.nd rfl (Or.inl rfl))
   (aw (cH (cI je (aC dF (aC dF (pv 0) (pv 3)) (pv 2)) ao) (aw (aN (pv 3))) cN)))
  (aw (aN mH))),?_⟩
 obtain ⟨vs,ea,lv,fv⟩:=id hA;refine ⟨_,rfl,_,rfl,a,vs,rfl,.inl (.of ea),(r:Int),(vs.length:Int),rfl,⟨by lia,by lia,by lia,by lia⟩,?_⟩
 rw [show ((vs.length:Int)-(r:Int)).toNat=n-r by lia]
 refine pC (fun i σ Hc=>Hc=H∧(∃v3:Option V,σ=[some (.ref a),some (.int (r:Int)),some (.int (c:Int)),v3])∧∀s,r≤s→s<r+i→M s c=0) ⟨rfl,⟨_,rfl⟩,fun s h1 h2=>by lia⟩ ?_ ?_
 ·rintro i σ Hc hi ⟨rfl,⟨v3,rfl⟩,hz⟩
  have hp:r+i<vs.length:=by lia
  obtain ⟨x,ex,Zl⟩:=fv (r+i) vs[r+i] (by simp [hp])
  refine ⟨_,rfl,_,rfl,a,vs,_,.ref x,rfl,rfl,.of ea,?_,_,rfl,x,_,_,_,rfl,rfl,.of Zl,pY cW (M (r+i)),rfl,_,rfl,c_ (fun h=>?_) (fun h=>?_)⟩
  ·rw [show (r:Int)+(i:Int)=((r+i:Nat):Int) by lia]
   exact dA (by rw [←ex];simp [hp])
  ·have e:M (r+i) c≠0:=by simpa using h
   have z:=k1 (r+i) (by lia) (by lia) e
   refine ⟨_,rfl,?_⟩;rw [show (r:Int)+(i:Int)=((r+i:Nat):Int) by lia]
   exact z
  ·have e:M (r+i) c=0:=by simpa using h
   refine ⟨rfl,⟨_,rfl⟩,fun s h1 h2=>?_⟩;by_cases z:s=r+i;·rw [z];exact e
   ·exact hz s h1 (by lia)
 ·rintro σ Hc ⟨rfl,⟨v3,rfl⟩,hz⟩
  exact k2 fun s h1 h2=>hz s h1 (by lia)
theorem Zm:br ["rows","one","other","told"] ["rows","one","other"] (aQ Ds):=bJ
theorem P_(T:Txt K mg t):aK P w K mg base bO 1 t.sA t.wg ["rows","one","other"] W5:=by
 have S:=Zm;refine T.t4.cC S (fun _ _ _ _ H vs _ _ hr h=>?_);obtain ⟨a,l,n,W,r,s',M,rfl,hA,⟨ol,hl⟩,rn,sn,k⟩:=h
 refine ⟨_,(aq (putL 3 S.nd (n8 Ga rfl T.x9 boot_list (ae (pv 0) ah)))
  (aq (@k9 _ _ _ _ _ _ (aC dF (pv 0) (pv 2)) (mL (pv 3) (pv 1) set_list) (by rfl) (by rfl) (by rfl))
  (aq (@k9 _ _ _ _ _ _ (aC dF (pv 0) (pv 1)) (mL (pv 3) (pv 2) set_list) (by rfl) (by rfl) (by rfl))
  (aw (aN (pv 3)))))),?_⟩
 obtain ⟨vs,ea,lv,al,fv⟩:=id hA;have fX:r<vs.length:=by lia
 have dJ:s'<vs.length:=by lia
 refine ⟨_,rfl,a,vs,rfl,.inl (.of ea),fun b nb=>?_⟩;have s1:ag H (upd H b (.lst vs)):=b_ nb;have eb:upd H b (.lst vs) b=some (.lst vs):=aM;have ab:a≠b:=fun e=>by rw [←e,ea] at nb;cases nb
 dsimp only [aO];generalize upd H b (.lst vs)=H1 at s1 eb ⊢;refine ⟨_,rfl,_,rfl,a,vs,_,vs[s'],rfl,rfl,.of (s1 _ _ ea),dA (by simp [dJ]),_,rfl,_,rfl,b,vs,_,r,rfl,rfl,eb,(by unfold iJ;rw [ak (by lia),ak (by lia),eR]),?_⟩
 have s2:ag H (upd H1 b (.lst (vs.set r vs[s']))):=ft s1 nb;have EG:upd H1 b (.lst (vs.set r vs[s'])) b=some (.lst (vs.set r vs[s'])):=aM;dsimp only;generalize upd H1 b (.lst (vs.set r vs[s']))=H2 at s2 EG ⊢;refine ⟨_,rfl,_,rfl,a,vs,_,vs[r],rfl,rfl,.of (s2 _ _ ea),dA (by simp [fX]),_,rfl,_,rfl,b,vs.set r vs[s'],_,s',rfl,rfl,EG,(by unfold iJ;rw [kj,ak (by lia),ak (by lia),eR]),?_⟩
 have s3:ag H (upd H2 b (.lst ((vs.set r vs[s']).set s' vs[r]))):=ft s2 nb;refine ⟨_,rfl,k b _ s3 nb ⟨_,aM,by simp [lv],(fun e=>by rw [e,hl] at nb;cases nb),fun i v hv=>?_⟩⟩
 have pick:∀j,(hj:j<vs.length)→∃x:Addr,vs[j]=.ref x∧x≠b∧x≠l∧upd H2 b (.lst ((vs.set r vs[s']).set s' vs[r])) x=some (.lst (((List.range W).map (M j)).map V.int)):=fun j hj=>by
  obtain ⟨x,e1,_,nl,e2⟩:=fv j vs[j] (by simp [hj])
  exact ⟨x,e1,(fun e=>by rw [e,nb] at e2;cases e2),nl,s3 _ _ e2⟩
 unfold bZ;by_cases z1:i=s'
 ·subst z1
  rw [ng (by rw [kj];lia)] at hv
  cases hv;rw [ak rfl];exact pick r fX
 ·rw [nh (by lia)] at hv
  rw [aj z1];by_cases z2:i=r
  ·subst z2
   rw [ng (by lia)] at hv
   cases hv;rw [ak rfl];exact pick s' dJ
  ·rw [nh (by lia)] at hv
   rw [aj z2];obtain ⟨x,e1,_,nl,e2⟩:=fv i v hv;exact ⟨x,e1,(fun e=>by rw [e,nb] at e2;cases e2),nl,s3 _ _ e2⟩
theorem Zn:br ["world","row","head","lead","last","much","less"] ["world","row","head","lead","last"] (aQ Dp):=bJ
theorem Qa(T:Txt K mg t):aK P w K mg base bO 1 t.sx t.v_ ["world","row","head","lead","last"] (W6 t.cb):=by
 have S:=Zn;refine T.tY.cC S (fun _ _ _ _ H _ _ _ hr h=>?_);obtain ⟨z,a,b,q,last,W,c,f,g,e,rfl,⟨dx,hx⟩,hq,ea,eb,cW,Zo,bd,ml,nl,h0,h1,k⟩:=h
 refine ⟨_,(aq (eI 5 S.nd (aC dF (pv 2) (pv 3)))
  (aq (eI 6 S.nd (aC dF (pv 1) (pv 3)))
  (aq (cH (cI B0 (nY (pv 0) rfl) mH) (aw (aN (oo (N:=["a","b","much","less","last"]) (ρ:=(fun σ=>[σ[5]?.join,σ[6]?.join,σ[4]?.join])) (mR [5,6,4] rfl) rfl (lT rfl T.kO (ae (pv 1) (ae (pv 2) ah))) (fun _ _ _=>.nil) (fun _ _ _=>(ar Gr (ar k_ (ar mP (pv 2) (pv 0)) (ar mP (pv 3) (pv 1))) (pv 4)))))) cN)
  (aw (aN (oo (N:=["a","b","much","less","world"]) (ρ:=(fun σ=>[σ[5]?.join,σ[6]?.join,σ[0]?.join])) (mR [5,6,0] rfl) rfl (lT rfl T.kO (ae (pv 1) (ae (pv 2) ah))) (fun _ _ _=>.nil) (fun _ _ _=>(ar cX (ar k_ (ar mP (pv 2) (pv 0)) (ar mP (pv 3) (pv 1))) (WH (K:=K) (pv 4) rfl))))))))),?_⟩
 refine ⟨_,rfl,_,rfl,b,_,_,_,rfl,rfl,.of eb,pY cW g,?_⟩;dsimp only [aO];simp only [L2.start,dN,ku,iP,jE,List.replicate,kv,jC,a8,a9];refine ⟨_,rfl,_,rfl,a,_,_,_,rfl,rfl,.of ea,pY cW f,?_⟩;dsimp only [aO];simp only [a8,a9];have Qb:∀x y,(x,y)∈((List.range W).map f).zip ((List.range W).map g)→cO x∧cO y:=fun x y h=>by have m:=yQ h;obtain ⟨k1,IS,rfl⟩:=du.mp m.1;obtain ⟨k2,IT,rfl⟩:=du.mp m.2;exact ⟨(bd k1 (e7.mp IS)).1,(bd k2 (e7.mp IT)).2⟩
 have Qc:=(bd c cW).2;have Qd:=(bd c cW).1;refine ⟨_,rfl,z,t.cb,dx,_,_,rfl,hx,T.gh,T.kM,oa _,rfl,_,rfl,?_⟩;rcases id hq with rfl | ⟨q2,q3,q4⟩
 ·rw [ak rfl]
  refine gd (fO (G8 (xs:=(List.range W).map f) (ys:=(List.range W).map g) (fun x y=>(g c*x-f c*y).fdiv last) (by simp;lia) (fun R h=>⟨_,rfl,_,rfl,a,b,rfl,⟨_,.of ea⟩,⟨_,.of eb⟩,h _ _ (ag.refl _) (lV (.of ea) (.of eb))⟩) ?_ ?_))
  ·intro x y gi Hc R sc kc
   obtain ⟨mx,my⟩:=Qb x y gi;exact ⟨_,rfl,_,rfl,_,_,rfl,rfl,⟨Qc,mx⟩,_,rfl,_,rfl,_,_,rfl,rfl,⟨Qd,my⟩,_,_,rfl,rfl,_,rfl,_,_,rfl,rfl,⟨nl,ml⟩,kc Hc (ag.refl _)⟩
  ·intro D Hc nD sc eD
   have ez:=G7 W f g (fun x y=>(g c*x-f c*y).fdiv last);rw [ez] at eD;refine k D Hc sc nD ?_;rw [eD]
   congr 3
   refine uX fun i hi=>?_;rw [h0 rfl i (e7.mp hi)];exact Int.mul_fdiv_cancel_left _ nl
 ·have Qe:q≠0:=by lia
  rw [aj Qe] at hx ⊢;refine eG ?_;dsimp only [iE];refine fO (G8 (xs:=(List.range W).map f) (ys:=(List.range W).map g) (fun x y=>(g c*x-f c*y) % q) (by simp;lia) (fun R h=>⟨_,rfl,_,rfl,a,b,rfl,⟨_,.of ea⟩,⟨_,.of eb⟩,h _ _ (ag.refl _) (lV (.of ea) (.of eb))⟩) ?_ ?_)
  ·intro x y gi Hc R sc kc
   obtain ⟨mx,my⟩:=Qb x y gi;exact ⟨_,rfl,_,rfl,_,_,rfl,rfl,⟨Qc,mx⟩,_,rfl,_,rfl,_,_,rfl,rfl,⟨Qd,my⟩,_,_,rfl,rfl,_,rfl,z,t.cb,dx,_,_,rfl,sc _ _ hx,T.gh,T.kM,oa _,_,_,rfl,rfl,(show (0:Int)<q by lia),kc Hc (ag.refl _)⟩
  ·intro D Hc nD sc eD
   have ez:=G7 W f g (fun x y=>(g c*x-f c*y) % q);rw [ez] at eD;refine k D Hc sc nD ?_;rw [eD]
   congr 3
   exact uX fun i hi=>(h1 Qe i (e7.mp hi)).symm
variable {B:Nat} {H:Hp} {q a:Int} {v:V}
theorem Zp{b:Int}(ho:qW H q v a b)(hq:az q)(nb:¬q∣b)(ba:a.natAbs≤B)(bb:b.natAbs≤B):∃p:Int×Int,cD B H q v p.1 p.2∧aX q p (a,b):=by
 rcases ho with ⟨rfl,r,rfl,e⟩ | ⟨q2,r,rfl,r0,r1,er⟩
 ·have hb:b≠0:=fun z=>nb (z▸jG 0)
  obtain ⟨l,w,b1,b2⟩:=zA (a:=a) hb;exact ⟨(jU a b,jo a b),.bV e l (av b1 ba) (av b2 bb),⟨0,by dsimp only;lia⟩⟩
 ·have q3:q≤997:=by rcases hq with h | h <;> lia
  refine ⟨(r,1),.rem r0 r1 q3,?_⟩;show q∣r*b-a*1;have h1:Cg q (r*(b % q)) a:=(zQ q _).symm.trans (er▸zQ q a);have h2:Cg q (r*b) (r*(b % q)):=((zQ q b).mulL r).symm;have h3:=h2.trans h1;rw [iC];exact h3
theorem Zq:br ["world","row","lead"] ["world","row","lead"] (aQ Dt):=bJ
theorem Qf(T:Txt K mg t):aK P w K mg base bO 4 t.sC t.wj ["world","row","lead"] (W8 t.cb):=by
 have S:=Zq;have ya:=IQ (P:=P) (w:=w) (base:=base) T;refine T.t5.cC S (fun _ _ _ _ H _ _ _ hr h=>?_);obtain ⟨z,a,q,W,c,f,B,rfl,⟨dz,hd⟩,hq,ea,cW,Zo,nb,mb,bd,k⟩:=h;refine ⟨_,(aw (aN (d4 (N:=["number","world","row","lead"]) (ρ:=(fun σ=>[σ[0]?.join,σ[1]?.join,σ[2]?.join])) (dk [0,1,2] rfl) rfl (dH (pv 1)) (fun _ _ _=>.nil) (fun _ _ _=>(n5 (pv 1) T.gh T.An ya (hr.mono (by decide)) T.IG .nil ig (ae (pv 0) (ae (aC (iy (K:=K)) (pv 2) (pv 3)) ah))))))),?_⟩
 refine fO (eB (xs:=((List.range W).map f).map V.int) (fun R h=>⟨_,rfl,a,rfl,⟨_,.of ea⟩,h _ _ (ag.refl _) (eK (.of ea))⟩) (by rw [aY,aY,fH];exact cT (by lia)) (fun _ i y Hx=>∃p:Int×Int,cD B Hx q y p.1 p.2∧aX q p (f i,f c)) (fun _ _ _ _ _ _ ⟨p,h0,h1⟩ e f=>⟨p,h0.bu e f,h1⟩) ?_ ?_)
 ·intro D i v hi Hc R sc _ kc
  have aR:i<W:=by have:=(aG.mp hi).1;simpa using this
  have ev:v=.int (f i):=by rw [bj,bj] at hi;simp [aR] at hi;exact hi.symm
  subst ev;exact ⟨_,rfl,z,dz,_,rfl,sc _ _ hd,pI (by decide +kernel),_,rfl,_,rfl,_,rfl,a,_,_,_,rfl,rfl,.of (sc _ _ ea),pY cW f,z,q,f i,f c,rfl,⟨dz,sc _ _ hd⟩,hq,mb,fun h=>absurd h (MV nb),fun _ v' H' s' ho=>kc v' H' s' (Zp ho hq nb (bd i aR) (bd c cW))⟩
 ·intro D ys Hc nD sc eP hP eD
  obtain ⟨ps,lp,hp⟩:=pick (R:=fun i y p=>cD B Hc q y (Prod.fst p) (Prod.snd p)∧aX q p (f i,f c)) hP;rw [aY,aY,fH] at eP;refine k D ps Hc sc nD ⟨ys,eD,lp.symm,fun i v p h1 h2=>(hp i v p h1 h2).1⟩ (by lia) fun i hi=>?_
  have i1:i<ys.length:=by lia
  have i2:i<ps.length:=by lia
  rw [getD_at i2];exact (hp i ys[i] ps[i] (by simp [i1]) (by simp [i2])).2
theorem Zr:br ["row","bottom","number"] ["row"] (aQ DS):=bJ
theorem Zs(T:Txt K mg t):aK P w K mg base bO 2 t.sZ t.wN ["row"] XO:=by
 have S:=Zr;refine T.xM.cC S (fun _ _ _ _ H vs _ _ hr h=>?_);obtain ⟨a,ps,B,D,rfl,⟨vs,ea,hl,hn⟩,Qg,hJ,hD,hB,bD,k⟩:=h
 refine ⟨_,(aq (eI 1 S.nd ao)
  (aq (iG fY rfl (dH (pv 0)) (d9 (i:=2) S.nd rfl (Or.inl rfl))
   (aw (eI 1 S.nd (ar mP (ar iu (pv 1) (aA (EE T) hr T.Ai T.oO.kp T.Ah aP (ae (pv 1) (ae (aC cz (pv 2) ao) ah)))) (aC cz (pv 2) ao)))))
  (aw (aN (jf (ae (d4 (N:=["number","bottom"]) (ρ:=(fun σ=>[σ[1]?.join])) (dk [1] rfl) rfl (dH (pv 0)) (fun _ _ _=>.nil) (fun _ _ _=>(ar mP (aC (qZ (K:=K)) (pv 0) ao) (ar iu (pv 1) (aC (qZ (K:=K)) (pv 0) ao))))) (ae (pv 1) ah))))))),?_⟩
 have D1:=hJ.1 rfl;have parts:∀(i:Nat) (v:V),vs[i]?=some v→∃(r:Addr) (x m:Int),v=.ref r∧H r=some (.tup [.int x,.int m])∧ps[i]?=some (x,m)∧gf x m∧x.natAbs≤B∧m∣D:=fun i v e=>by
  have hi:i<ps.length:=by rw [←hl];exact (aG.mp e).1
  have ep:ps[i]?=some ps[i]:=by simp [hi]
  have h1:=hn i v ps[i] e ep;have h2:=hD _ (aE hi);generalize ps[i]=p at h1 ep h2;obtain ⟨x,m⟩:=p;cases h1 with
  | bV er l bx bm=>exact ⟨_,x,m,rfl,er,ep,l,bx,h2⟩
  | rem h0 h1 h2=>lia
 have yc:∀{y:Int},y∣D→cO y:=fun h=>dD (GW h (by lia)) bD
 refine ⟨_,rfl,a,rfl,⟨_,.of ea⟩,?_⟩
 refine qN (K:=K) (a:=a) (xs:=vs) (fun i σ Hc=>Hc=H∧∃(b:Int) (v2:Option V),σ=[some (.ref a),some (.int b),v2]∧1≤b∧b∣D∧∀(j:Nat) (p:Int×Int),j<i→ps[j]?=some p→p.2∣b)
  ⟨rfl,1,none,rfl,by decide,Int.one_dvd D,fun j p hj=>by lia⟩ (fun i σ Hc _ ⟨z,_⟩=>by rw [z];exact .of ea) ?_ ?_
 ·rintro i v σ Hc hi ⟨rfl,b,v2,rfl,b1,bb,hd⟩
  obtain ⟨r,x,m,rfl,er,ep,l,bx,bm⟩:=parts i v hi;have m1:=l.pos;obtain ⟨s1,s2,s3,s4⟩:=Ws b1 m1;have gp:=oi (a:=b) (b:=m) (by lia)
  have gm:cO (Int.gcd b m:Int):=yc (o6 (nE ..) bm);refine ⟨_,rfl,_,rfl,_,rfl,r,_,_,_,rfl,rfl,.of er,rfl,b,m,rfl,yc bm,_,_,rfl,rfl,⟨by lia,gm⟩,_,rfl,r,_,_,_,rfl,rfl,.of er,rfl,_,_,rfl,rfl,⟨?_,yc bm⟩,?_⟩
  ·exact dD (nF ..) (yc bb)
  ·refine ⟨rfl,_,_,rfl,s1,lcm_dvd b1 m1 bb bm,fun j p hj hp=>?_⟩
   by_cases z:j=i
   ·subst z
    rw [ep] at hp;cases hp;exact s2
   ·exact o6 (hd j p (by lia) hp) s3
 ·rintro σ Hc ⟨rfl,b,v2,rfl,b1,bb,hd⟩
  rw [hl] at hd;have mb:cO b:=yc bb;dsimp only;refine fO (GK (eB (xs:=vs) (fun R h=>⟨_,rfl,a,rfl,⟨_,.of ea⟩,h _ _ (ag.refl _) (eK (.of ea))⟩) (by rw [hl];exact cT (by lia)) (fun _ i y _=>∃(p:Int×Int),ps[i]?=some p∧y=.int (p.1*(b / p.2))) (fun _ _ _ _ _ _ h _ _=>h) ?_ ?_))
  ·intro D' i v hi Hd R sd _ kd
   obtain ⟨r,x,m,rfl,er,ep,l,bx,bm⟩:=parts i v hi;have m1:=l.pos;have Zt:cO (b / m):=dD (nF ..) mb;exact ⟨_,rfl,r,_,_,_,rfl,rfl,.of (sd _ _ er),rfl,_,rfl,_,rfl,r,_,_,_,rfl,rfl,.of (sd _ _ er),rfl,_,_,rfl,rfl,⟨by lia,yc bm⟩,_,_,rfl,rfl,⟨dD bx hB,Zt⟩,kd _ Hd (ag.refl _) ⟨(x,m),ep,rfl⟩⟩
  ·intro D' ys Hd nD sd eP hP eD
   have ey:ys=(ps.map fun p=>p.1*(b / p.2)).map V.int:=ox (by rw [eP,hl,aY]) fun i v e=>by obtain ⟨p,e1,e2⟩:=hP i v e;exact ⟨p.1*(b / p.2),by rw [bj,e1];rfl,e2⟩
   refine ⟨_,rfl,by show 2≤sizeLine;decide,fun r fX=>?_⟩
   refine k _ _ (ps.map fun p=>p.1*(b / p.2)) b (sd.trans (b_ fX)) ⟨r,D',rfl,aM,b_ fX _ _ (by rw [eD,ey]),nD⟩ ⟨by rw [aY],⟨fun _=>b1,fun z=>absurd rfl z⟩,bb,fun i hi=>?_⟩
   have IU:i<vs.length:=by lia
   have e1:(ps.map fun p=>p.1*(b / p.2)).getD i 0=ps[i].1*(b / ps[i].2):=by rw [getD_at (by rw [aY];exact hi),i9]
   rw [e1,getD_at hi];obtain ⟨r',x,m,_,_,ep,l,bx,bm⟩:=parts i vs[i] (by simp [IU])
   have kP:ps[i]=(x,m):=by
    rw [show ps[i]?=some ps[i] by simp [hi]] at ep
    exact Option.some.inj ep
   rw [kP];dsimp only;have m1:=l.pos;obtain ⟨c,ec⟩:=hd i (x,m) hi (by rw [←kP];simp [hi])
   dsimp only at ec;have eq:b / m=c:=by rw [ec];exact kX _ (by lia)
   refine ⟨by rw [eq,ec];grind,?_⟩
   rw [bT];exact bI bx (av (nF ..) (GW bb (by lia)))
theorem Zu:br ["self","row"] ["self","row"] (aQ El):=bJ
theorem EH(T:Txt K mg t):aK P w K mg base bO 3 t.tV t.xp ["self","row"] (XQ t.cb):=by
 have S:=Zu;refine T.Ap.cC S (fun _ _ _ _ H vs _ _ hr h=>?_);obtain ⟨z,a,q,ps,B,D,rfl,⟨dx,hx⟩,hq,oQ,Qg,hJ,hD,hB,b1,bD,k⟩:=h
 refine ⟨_,(aq (cH (cI B0 (nY (pv 0) rfl) mH) (aw (aN (aA (Zs T) hr T.Pl T.xM.kp T.Pk aP (ae (pv 1) ah)))) cN)
  (aw (aN (jf (ae (n8 Ga rfl T.x9 boot_list (ae (pv 1) ah)) (ae ao ah)))))),?_⟩
 refine ⟨_,rfl,z,t.cb,dx,_,_,rfl,hx,T.gh,T.kM,oa _,rfl,_,rfl,?_⟩;rcases hq with rfl | ⟨q2,q3,q4⟩
 ·rw [ak rfl]
  exact gd ⟨_,rfl,a,ps,B,D,rfl,oQ,Qg,hJ,hD,hB,bD,k⟩
 ·have hq:q≠0:=by lia
  rw [aj hq] at hx ⊢;obtain ⟨vs,ea,hl,hn⟩:=oQ;have parts:∀(i:Nat) (v:V),vs[i]?=some v→∃x:Int,v=.int x∧ps[i]?=some (x,1)∧0≤x∧x<q:=fun i v e=>by
   have hi:i<ps.length:=by rw [←hl];exact (aG.mp e).1
   have ep:ps[i]?=some ps[i]:=by simp [hi]
   have h1:=hn i v ps[i] e ep;generalize ps[i]=p at h1 ep;obtain ⟨x,m⟩:=p;cases h1 with
   | bV er l bx bm=>exact absurd rfl hq
   | rem h0 h1 h2=>exact ⟨x,rfl,ep,h0,h1⟩
  have ey:vs=(ps.map fun p=>p.1).map V.int:=ox (by rw [hl,aY]) fun i v e=>by obtain ⟨x,e1,e2,_⟩:=parts i v e;exact ⟨x,by rw [bj,e2];rfl,e1⟩
  have eD:=hJ.2 hq;refine eG ⟨_,rfl,a,vs,rfl,.inl (.of ea),fun l nl=>⟨by show 2≤sizeLine;decide,fun r fX=>?_⟩⟩
  refine k _ _ (ps.map fun p=>p.1) 1 ((b_ nl).trans (b_ fX)) ⟨r,l,rfl,aM,b_ fX _ _ (by rw [aM,ey]),nl⟩ ⟨by rw [aY],aH.one,Int.one_dvd D,fun i hi=>?_⟩
  have IU:i<vs.length:=by lia
  rw [getD_at (by rw [aY];exact hi),i9,getD_at hi]
  obtain ⟨x,_,ep,x0,x1⟩:=parts i vs[i] (by simp [IU])
  have kP:ps[i]=(x,1):=by
   rw [show ps[i]?=some ps[i] by simp [hi]] at ep
   exact Option.some.inj ep
  rw [kP];refine ⟨rfl,?_⟩;rw [eD];show x.natAbs≤B*1;lia
theorem Qh:br ["table","wide"] ["table"] (aQ C8):=bJ
theorem uk(T:Txt K mg t):aK P w K mg base (et P w) 1 t.p9 t.r6 ["table"] (W9 t.iB):=by
 have S:=Qh;refine T.iO.dS S (fun _ _ _ _ H vs _ _ hr h L=>?_);obtain ⟨a,q,B,aa,m,rfl,⟨vs,ea,hl,hn⟩,h1,m4,hm,k⟩:=h
 refine ⟨_,(aq (cH (cI gc (bU dI rfl T.de dh (ae (pv 0) ah)) ao) (aw (aN ao)) cN)
  (aq (eI 1 S.nd (bU dI rfl T.de dh (ae (aC dF (pv 0) ao) ah)))
  (aq (cH (jb (bU (M5 (K:=K) rfl) rfl T.IL boot_any (ae (d4 (N:=["row","wide"]) (ρ:=(fun σ=>[σ[1]?.join])) (dk [1] rfl) rfl (dH (pv 0)) (fun _ _ _=>.nil) (fun _ _ _=>(gU je (bU (CA (K:=K)) rfl T.de dh (ae (pv 0) ah)) (pv 1)))) ah))) (aw (n9 L rfl nK T.ug rfl T.ue (ae jJ ah))) cN)
  (aw (aN (pv 1)))))),?_⟩
 have h0:0<vs.length:=by lia
 refine ⟨_,rfl,a,vs,rfl,.inl (.of ea),rfl,false,by rw [jj,h_ (by lia)],eG ?_⟩
 have Zv:0<aa.length:=by lia
 obtain ⟨r,er,us,eu,lu,_⟩:=hn 0 vs[0] aa[0] (by simp [h0]) (by simp [Zv])
 have hm0:=hm aa[0] (aE ..);refine ⟨_,rfl,a,vs,_,vs[0],rfl,rfl,.of ea,(by exact dA (j:=0) (by simp [h0])),r,us,by rw [er],.inl (.of eu),?_⟩
 have em:(us.length:Int)=(m:Int):=by lia
 rw [em];dsimp only [aO];have Zw:∀(i:Nat) (v:V),vs[i]?=some v→∃(r:Addr) (us:List V),v=.ref r∧H r=some (.lst us)∧us.length=m:=fun i v e=>by
  have aR:i<aa.length:=by rw [←hl];exact (aG.mp e).1
  obtain ⟨r,e1,us,e2,e3,_⟩:=hn i v aa[i] e (by simp [aR])
  exact ⟨r,us,e1,e2,by rw [e3];exact hm _ (aE ..)⟩
 refine gY (Wt (Wu (q5 (Ct (xs:=vs) (fun R h=>⟨_,rfl,a,rfl,⟨_,.of ea⟩,h _ _ (ag.refl _) (eK (.of ea))⟩) (by rw [hl];exact cT (by lia)) (fun _ i y _=>y=.bl false) (fun _ _ _ _ _ _ h _ _=>h) ?_ ?_))))
 ·intro D i v hi Hc R sc _ kc
  obtain ⟨r',yd,rfl,e2,e3⟩:=Zw i v hi;refine ⟨_,rfl,r',yd,rfl,.inl (.of (sc _ _ e2)),_,rfl,rfl,?_⟩;have zz:(!decide (V.int (yd.length:Int)=V.int (m:Int)))=false:=by rw [jj,dr (by lia)];rfl
  rw [zz];exact kc _ Hc (ag.refl _) rfl
 ·intro D ys Hc sc eP hP eD
  refine ⟨D,List.replicate ys.length false,rfl,.of (by rw [eD];exact fK _ (fK _ (zN hP))),false,by rw [Wv],eG ?_⟩
  exact ⟨_,rfl,k Hc sc⟩
theorem Zx:br ["world","n","place","row"] ["world","n","place"] (aQ Dm):=bJ
theorem Zy(T:Txt K mg t):aK P w K mg base bO 4 t.su t.vY ["world","n","place"] (WZ t.cb):=by
 have S:=Zx;have ya:=IQ (P:=P) (w:=w) (base:=base) T;obtain ⟨dv,Qi,um⟩:=T.PY;refine T.xx.cC S (fun _ _ _ _ H _ _ _ hr h=>?_);obtain ⟨z,q,n,i,rfl,⟨dz,hd⟩,hq,n4,hi,k⟩:=h
 refine ⟨_,(aq (putL 3 S.nd (ar UR (gH (ae (n5 (pv 0) T.gh T.An ya (hr.mono (by decide)) um Qi ig (ae ao ah)) ah)) (pv 1)))
  (aq (@k9 _ _ _ _ _ _ (n5 (pv 0) T.gh T.An ya (hr.mono (by decide)) um Qi ig (ae ao ah)) (mL (pv 3) (pv 2) set_list) (by rfl) (by rfl) (by rfl))
  (aw (aN (pv 3))))),?_⟩
 have nv:=Wz hq;refine ⟨_,rfl,z,dz,_,rfl,hd,pI (by decide +kernel),z,q,0,1,rfl,⟨dz,hd⟩,hq,cO.of_lt (by decide) (by decide),fun h=>absurd h nv,fun _ v0 H1 s1 ho=>?_⟩
 refine ⟨by show 1≤sizeLine;decide,fun l nl=>?_⟩
 have sl:ag H1 (upd H1 l (.lst [v0])):=b_ nl;have el:upd H1 l (.lst [v0]) l=some (.lst [v0]):=aM;have h0:=Nk (B:=10 ^ 60) (by decide) (ho.mono sl) hq (.inl rfl)
 generalize upd H1 l (.lst [v0])=H2 at sl el h0 ⊢;refine ⟨_,rfl,l,(n:Int),[v0],rfl,rfl,el,by lia,by lia,?_,fun r nr=>?_⟩
 ·rw [eR]
  exact av (show [v0].length*n≤40 by simp;exact n4) (by decide)
 rw [eR,show (List.replicate n [v0]).flatten=List.replicate n v0 by induction n with
  | zero=>rfl
  | succ n ih=>simp [uO]]
 have sr:ag H2 (upd H2 r (.lst (List.replicate n v0))):=b_ nr;have er:upd H2 r (.lst (List.replicate n v0)) r=some (.lst (List.replicate n v0)):=aM;have h0:=h0.mono sr;generalize upd H2 r (.lst (List.replicate n v0))=H3 at sr er h0 ⊢;have s3:=s1.trans (sl.trans sr);refine ⟨_,rfl,z,dz,_,rfl,s3 _ _ hd,pI (by decide +kernel),z,q,1,1,rfl,⟨dz,s3 _ _ hd⟩,hq,cO.of_lt (by decide) (by decide),fun h=>absurd h nv,fun _ v1 H4 s4 Zz=>?_⟩
 have h1:=Nk (B:=10 ^ 60) (by decide) Zz hq (.inr rfl)
 refine ⟨_,rfl,_,rfl,r,_,_,i,rfl,rfl,s4 _ _ er,?_,?_⟩
 ·unfold iJ
  rw [ak (by lia),ak (by simp;exact hi),eR]
 have Qj:H1 r=none:=none_of sl nr;refine ⟨_,rfl,k r _ (ft (s3.trans s4) (none_of s1 Qj)) (none_of s1 Qj) ⟨_,aM,by simp [gZ],fun j v p hv hp=>?_⟩⟩
 have bu:∀b o,b≠r→H4 b=some o→upd H4 r (.lst ((List.replicate n v0).set i v1)) b=some o:=fun b o nb e=>by rw [bE nb];exact e
 have hj:j<n:=by have:=(aG.mp hv).1;simpa using this
 unfold gZ at hp;rw [bj] at hp;simp [hj] at hp;by_cases z:j=i
 ·subst z
  rw [ak rfl] at hp;have ev:v1=v:=by
   rw [ng (by simpa using hj)] at hv
   exact Option.some.inj hv
  subst ev hp;exact h1.bu (s4 _ _ er) bu
 ·rw [aj z] at hp
  have ev:v0=v:=by
   rw [nh (by lia)] at hv
   simpa [hj] using hv
  subst ev hp;exact (h0.mono s4).bu (s4 _ _ er) bu
theorem ZA:br ["world","n"] ["world","n"] (aQ Dn):=bJ
theorem IV(T:Txt K mg t):aK P w K mg base bO 5 t.sv t.vZ ["world","n"] (W0 t.cb):=by
 have S:=ZA;refine T.qj.cC S (fun _ _ _ _ H vs _ _ hr h=>?_);obtain ⟨z,q,n,rfl,hz,hq,n4,k⟩:=h;refine ⟨_,(aw (aN (d4 (N:=["place","world","n"]) (ρ:=(fun σ=>[σ[0]?.join,σ[1]?.join])) (dk [0,1] rfl) rfl (gG rfl T.fe (ae (pv 1) ah)) (fun _ _ _=>.nil) (fun _ _ _=>(aA (Zy T) hr T.OZ T.xx.kp T.OY aP (ae (pv 1) (ae (pv 2) (ae (pv 0) ah)))))))),?_⟩;refine fO (eB (xs:=(List.range n).map fun i:Nat=>V.int (0+(i:Int))) (fun R h=>⟨_,rfl,(n:Int),rfl,by lia,by lia,h _ _ (ag.refl _) (by rw [eR];exact lM)⟩) (by rw [aY,fH];exact cT (by lia)) (fun D i y Hx=>∃r,y=.ref r∧r≠D∧GP Hx q r (gZ n i)) (fun D i y Ha Hb ys ⟨r,h1,h2,vs,e1,e2,e3⟩ e f=>⟨r,h1,h2,vs,f _ _ h2 e1,e2,fun j v p x y=>(e3 j v p x y).bu e f⟩) ?_ ?_)
 ·intro D i v hi Hc R sc ⟨zs,eD⟩ kc
  obtain ⟨aR,rfl⟩:=oy hi;exact ⟨_,rfl,_,rfl,_,rfl,z,q,n,i,rfl,hz.mono sc,hq,n4,aR,fun r H' s' nr fX=>kc _ H' s' ⟨r,rfl,fun z=>by (rw [z,eD] at nr;cases nr),fX⟩⟩
 ·intro D ys Hc nD sc eP hP eD
  refine k D Hc sc nD ⟨ys,eD,by rw [eP,aY,aY],fun i v ps h1 h2=>?_⟩
  obtain ⟨r,e1,_,e3⟩:=hP i v h1;have aR:i<n:=by have:=(aG.mp h2).1;simpa using this
  rw [bj] at h2;simp [aR] at h2;subst h2;exact ⟨r,e1,e3⟩
theorem Qk:br ["table"] ["table"] (aQ C9):=bJ
theorem Ql(T:Txt K mg t):aK P w K mg base (et P w) 2 t.p_ t.r9 ["table"] (W_ t.iB):=by
 have S:=Qk;refine T.mX.dS S (fun _ _ _ _ H vs _ _ hr h L=>?_);obtain ⟨a,q,B,aa,m,rfl,hA,h1,m4,hm,kE,k⟩:=h
 refine ⟨_,(aq (cH (cI je (aA (uk T) hr T.ma T.iO.kp T.l_ (iX L) (ae (pv 0) ah)) (bU dI rfl T.de dh (ae (pv 0) ah))) (aw (n9 L rfl nK T.ug rfl T.ue (ae jJ ah))) cN)
  (aw (aN (bU dI rfl T.de dh (ae (pv 0) ah))))),?_⟩
 refine ⟨_,rfl,a,q,B,aa,m,rfl,hA,h1,m4,hm,fun H1 s1=>?_⟩;obtain ⟨vs,ea,lv,_⟩:=id (hA.mono s1);refine ⟨_,rfl,a,vs,rfl,.inl (.of ea),rfl,_,rfl,c_ (fun iw=>?_) (fun iw=>?_)⟩
 ·have iw:m≠aa.length:=fun z=>by
   have:(m:Int)=(vs.length:Int):=by lia
   rw [jj,dr this] at iw;cases iw
  exact ⟨by show 1≤sizeLine;decide,kE iw H1 s1⟩
 ·have heq:m=aa.length:=by
   by_cases z:(m:Int)=(vs.length:Int);·lia
   ·exact absurd (by rw [jj,h_ z];rfl) iw
  have z:=k heq H1 s1;dsimp only [iE];refine ⟨_,rfl,a,vs,rfl,.inl (.of ea),?_⟩;rw [show (vs.length:Int)=(m:Int) by lia]
  exact z
theorem ZC:br ["table","other"] ["table","other"] (aQ Dv):=bJ
theorem Qm(T:Txt K mg t):aK P w K mg base bO 1 t.sE t.wk ["table","other"] Xa:=by
 have S:=ZC;refine T.t6.cC S (fun _ _ _ _ H vs _ _ hr h=>?_);obtain ⟨a,b,q,B,aa,af,m,u,rfl,hA,hB,ln,eO,hm,hu,j9,uo,k⟩:=h;refine ⟨_,(aw (aN (oo (N:=["row","more"]) (ρ:=(fun σ=>[])) (mR [] rfl) rfl (lT rfl T.kO (ae (pv 0) (ae (pv 1) ah))) (fun _ _ _=>.nil) (fun _ _ _=>(ar Mm (pv 0) (pv 1)))))),?_⟩;obtain ⟨vs,ea,lv,fv⟩:=id hA;obtain ⟨us,eb,lu,fu⟩:=id hB;refine fO (vA (Z:=fun zs Hx=>zs=vs.zip us∧Hx=H) (fun R h=>⟨_,rfl,_,rfl,a,b,rfl,⟨_,.of ea⟩,⟨_,.of eb⟩,h _ _ _ (ag.refl _) (lV (.of ea) (.of eb)) (cT (by rw [ko];lia)) ⟨rfl,rfl⟩⟩) (fun D i y Hx=>∃x:Addr,y=.ref x∧x≠D∧bC B Hx q x (aa.getD i []++af.getD i [])) (fun D i y Ha Hb ys ⟨x,h1,h2,vs,e1,e2,e3⟩ e f=>⟨x,h1,h2,vs,f _ _ h2 e1,e2,fun j v p x y=>(e3 j v p x y).bu e f⟩) ?_ ?_)
 ·rintro zs H1 ⟨rfl,rfl⟩ _ D i x y gi Hc R sc ⟨ys,eD⟩ kc
  obtain ⟨h1,h2⟩:=mh.mp gi;have i1:i<vs.length:=(aG.mp h1).1;have i2:i<us.length:=(aG.mp h2).1;have p1:i<aa.length:=by lia
  have p2:i<af.length:=by lia
  obtain ⟨rx,rfl,xs,ex,lx,fx⟩:=fv i x aa[i] h1 (by simp [p1])
  obtain ⟨ry,rfl,ye,ey,ly,fy⟩:=fu i y af[i] h2 (by simp [p2])
  have l1:=hm _ (aE p1);have l2:=hu _ (aE p2);refine ⟨_,rfl,_,rfl,rx,ry,xs,ye,rfl,rfl,sc _ _ ex,sc _ _ ey,av (show _≤100 by lia) (by decide),fun p np=>?_⟩
  have sp:ag Hc (upd Hc p (.lst (xs++ye))):=b_ np;refine kc _ _ sp ⟨p,rfl,(fun e=>by rw [e,eD] at np;cases np),?_⟩
  rw [getD_at p1,getD_at p2];exact bC.cat (B:=B) aM lx ly (fun j v p' h1 h2=>((fx j v p' h1 h2).mono sc).mono sp) (fun j v p' h1 h2=>((fy j v p' h1 h2).mono sc).mono sp)
 ·rintro zs H1 ⟨rfl,rfl⟩ _ D ws Hc nD sc kT hP eD
  have lz:ws.length=aa.length:=by rw [kT,ko];lia
  refine k D Hc sc nD ⟨ws,eD,by rw [lz,y8];lia,fun i v ps h1 h2=>?_⟩
  have i1:i<ws.length:=(aG.mp h1).1;have p1:i<aa.length:=by lia
  have p2:i<af.length:=by lia
  obtain ⟨x,e1,_,e2⟩:=hP i v h1;refine ⟨x,e1,?_⟩;rw [getD_at p1,getD_at p2] at e2;have e3:ps=aa[i]++af[i]:=by rw [BI] at h2;simp [p1,p2] at h2;exact h2.symm
  rw [e3];exact e2
theorem ZD:br ["table","place"] ["table","place"] (aQ De):=bJ
theorem IW(T:Txt K mg t):aK P w K mg base bO 1 t.sg t.vS ["table","place"] XG:=by
 have S:=ZD;refine T.qh.cC S (fun _ _ _ _ H vs _ _ hr h=>?_);obtain ⟨a,q,B,j,aa,m,rfl,⟨vs,ea,hl,hn⟩,m4,hm,hj,k⟩:=h;refine ⟨_,(aw (aN (d4 (N:=["row","place"]) (ρ:=(fun σ=>[σ[1]?.join])) (dk [1] rfl) rfl (dH (pv 0)) (fun _ _ _=>.nil) (fun _ _ _=>(aC (iy (K:=K)) (pv 0) (pv 1)))))),?_⟩;refine fO (eB (xs:=vs) (fun R h=>⟨_,rfl,a,rfl,⟨_,.of ea⟩,h _ _ (ag.refl _) (eK (.of ea))⟩) (by rw [hl];exact cT (by lia)) (fun D i y Hx=>∃ps,aa[i]?=some ps∧cD B Hx q y (ps.getD j (0,1)).1 (ps.getD j (0,1)).2) (fun _ _ _ _ _ _ ⟨ps,h1,h2⟩ e f=>⟨ps,h1,h2.bu e f⟩) ?_ ?_)
 ·intro D i v hi Hc R sc _ kc
  have aR:i<aa.length:=by rw [←hl];exact (aG.mp hi).1
  have ep:aa[i]?=some aa[i]:=by simp [aR]
  obtain ⟨r,rfl,us,er,lr,f⟩:=hn i v aa[i] hi ep;have hlen:=hm aa[i] (aE ..);have Qn:j<us.length:=by lia
  have Qo:j<aa[i].length:=by lia
  refine ⟨_,rfl,_,rfl,r,us,_,us[j],rfl,rfl,.of (sc _ _ er),dA (by simp [Qn]),kc _ Hc (ag.refl _) ⟨aa[i],ep,?_⟩⟩
  have eg:aa[i].getD j (0,1)=aa[i][j]:=by simp [Qo]
  rw [eg];exact (f j us[j] aa[i][j] (by simp [Qn]) (by simp [Qo])).mono sc
 ·intro D ys Hc nD sc eP hP eD
  refine k D Hc sc nD ⟨ys,eD,by rw [eP,hl,aY],fun i v p h1 h2=>?_⟩
  obtain ⟨ps,e1,e2⟩:=hP i v h1;rw [bj,e1] at h2;cases h2;exact e2
theorem Qp:br ["table"] ["table"] (aQ Df):=bJ
theorem Qq(T:Txt K mg t):aK P w K mg base bO 2 t.qa t.sh ["table"] (XH t.iB):=by
 have S:=Qp;refine T.qi.cC S (fun _ _ _ _ H vs _ _ hr h=>?_);obtain ⟨a,q,B,aa,m,rfl,hA,h1,m4,hm,j9,k⟩:=h;refine ⟨_,(aw (aN (d4 (N:=["place","table"]) (ρ:=(fun σ=>[σ[0]?.join])) (dk [0] rfl) rfl (gG rfl T.fe (ae (aA (uk T) hr T.ma T.iO.kp T.l_ ig (ae (pv 0) ah)) ah)) (fun _ _ _=>.nil) (fun _ _ _=>(aA (IW T) hr T.Er T.qh.kp T.Ep aP (ae (pv 1) (ae (pv 0) ah))))))),?_⟩;refine fO (eB (xs:=(List.range m).map fun i:Nat=>V.int (0+(i:Int))) (fun R h=>⟨_,rfl,a,q,B,aa,m,rfl,hA,h1,m4,hm,fun H1 s1=>⟨(m:Int),rfl,by lia,by lia,h _ _ s1 (by rw [eR];exact lM)⟩⟩) (by rw [aY,fH];exact cT (by lia)) (fun D i y Hx=>∃r,y=.ref r∧r≠D∧bC B Hx q r (aa.map fun ps:List (Int×Int)=>ps.getD i ((0:Int),(1:Int)))) (fun D i y Ha Hb ys ⟨r,h1,h2,vs,e1,e2,e3⟩ e f=>⟨r,h1,h2,vs,f _ _ h2 e1,e2,fun j v p x y=>(e3 j v p x y).bu e f⟩) ?_ ?_)
 ·intro D i v hi Hc R sc ⟨zs,eD⟩ kc
  have aR:i<m:=by have:=(aG.mp hi).1;simpa using this
  have ev:v=.int (i:Int):=by rw [bj] at hi;simp [aR] at hi;exact hi.symm
  subst ev;refine ⟨_,rfl,_,rfl,a,q,B,i,aa,m,rfl,hA.mono sc,m4,hm,aR,fun b H' s' nb hb=>kc _ H' s' ⟨b,rfl,fun z=>by (rw [z,eD] at nb;cases nb),hb⟩⟩
 ·intro D ys Hc nD sc eP hP eD
  refine k D Hc sc nD ⟨ys,eD,by unfold bK;rw [eP,aY,aY],fun i v ps h1 h2=>?_⟩
  obtain ⟨r,e1,_,e3⟩:=hP i v h1;have aR:i<m:=by have:=(aG.mp h2).1;simpa [bK] using this
  unfold bK at h2;rw [bj] at h2;simp [aR] at h2;subst h2;exact ⟨r,e1,e3⟩
theorem Qr:br ["world","table","rows","leads","last","lead","turn","found","head"] ["world","table"] (aQ Du):=bJ
theorem IY(T:Txt K mg t):aK P w K mg base bO 5 t.qb t.sD ["world","table"] (XR t.cb t.iB):=by
 have S:=Qr;have uq:=EH (P:=P) (w:=w) (base:=base) T;refine T.me.cC S (fun _ _ _ _ H vs _ _ hr h=>?_);obtain ⟨z,a,q,B,PP,W,aa,G,rfl,⟨dz,hd⟩,hq,hA,B1,Au,n1,eO,hW,IZ,hE,hG,hP,Av,k⟩:=h
 refine ⟨_,(aq (qX (i0:=2) (N:=["row","world"]) (ρ:=(fun σ=>[σ[0]?.join])) (dk [0] rfl) rfl S.nd rfl (Or.inl rfl) (dH (pv 1)) (fun _ _ _=>.nil) (fun _ _ _=>(aC (qZ (K:=K)) (n5 (pv 1) T.gh T.ud uq (hr.mono (by decide)) T.Aq .nil aP (ae (pv 0) ah)) ao)))
  (aq (putL 3 S.nd (gH ah))
  (aq (eI 4 S.nd ao)
  (aq (iG fY rfl (gG rfl T.fe (ae (aA (uk T) hr T.ma T.iO.kp T.l_ ig (ae (pv 1) ah)) ah)) (d9 (i:=5) S.nd rfl (Or.inr rfl))
   (aq (putL 6 S.nd (bU dI rfl T.de dh (ae (pv 3) ah)))
  (aq (putL 7 S.nd (aA (P9 T) hr T.Ie T.tZ.kp T.Ic aP (ae (pv 2) (ae (pv 6) (ae (pv 5) ah)))))
  (aw (cH (cI LH (pv 7) mH) (aq (putL 2 S.nd (aA (P_ T) hr T.Ih T.t4.kp T.Ig aP (ae (pv 2) (ae (pv 6) (ae (pv 7) ah)))))
  (aq (eI 8 S.nd (aC dF (pv 2) (pv 6)))
  (aq (qX (i0:=2) (N:=["row","world","head","lead","last"]) (ρ:=(fun σ=>[σ[0]?.join,σ[8]?.join,σ[5]?.join,σ[4]?.join])) (dk [0,8,5,4] rfl) rfl S.nd rfl (Or.inl rfl) (dH (pv 2)) (fun _ _ _=>.nil) (fun _ _ _=>(aA (Qa T) hr T.Ib T.tY.kp T.Ia aP (ae (pv 1) (ae (pv 0) (ae (pv 2) (ae (pv 3) (ae (pv 4) ah))))))))
  (aq (@k9 _ _ _ _ _ _ (pv 8) (mL (pv 2) (pv 6) set_list) (by rfl) (by rfl) (by rfl))
  (aq (eI 4 S.nd (aC dF (pv 8) (pv 5)))
  (aw (pA (qS qH y_ za lA (pv 3) (ae (pv 5) ah))))))))) cN)))))
  (aw (aN (jf (ae (oo (N:=["row","lead","world"]) (ρ:=(fun σ=>[σ[0]?.join])) (mR [0] rfl) rfl (lT rfl T.kO (ae (pv 2) (ae (pv 3) ah))) (fun _ _ _=>.nil) (fun _ _ _=>(aA (Qf T) hr T.Ij T.t5.kp T.Ii aP (ae (pv 2) (ae (pv 0) (ae (pv 1) ah)))))) (ae (pv 3) ah))))))))),?_⟩
 obtain ⟨vs,ea,lv,fv⟩:=id hA;refine gY (iK (eB (xs:=vs) (fun R h=>⟨_,rfl,a,rfl,⟨_,.of ea⟩,h _ _ (ag.refl _) (eK (.of ea))⟩) (by rw [lv];exact cT (by lia)) (fun D i y Hx=>∃(x:Addr) (ts:List Int) (b:Int),y=.ref x∧x≠D∧H x=none∧Hx x=some (.lst (ts.map V.int))∧zW q (G i) W (aa.getD i []) ts b) (fun D i y Ha Hb ys ⟨x,ts,b,h1,h2,h3,h4,h5⟩ e f=>⟨x,ts,b,h1,h2,h3,f _ _ h2 h4,h5⟩) ?_ ?_))
 ·intro D i v hi Hc R sc ⟨zs,eD⟩ kc
  have aR:i<vs.length:=(aG.mp hi).1;have hp:i<aa.length:=by lia
  obtain ⟨r,rfl,fX⟩:=fv i v aa[i] hi (by simp [hp])
  obtain ⟨D',x,hJ,bD,dv,hx⟩:=hE i hp;have ep:aa.getD i []=aa[i]:=getD_at hp;rw [ep] at dv hx kc;have lW:=hW _ (aE hp);refine ⟨_,rfl,z,dz,_,rfl,sc _ _ hd,pI (by decide +kernel),_,rfl,z,r,q,aa[i],B,D',rfl,⟨dz,sc _ _ hd⟩,hq,fX.mono sc,by rw [lW];exact IZ,hJ,dv,Au,B1,dD bD (hG i).2,fun v H' ts b s' hn wd=>?_⟩
  obtain ⟨tp,l,rfl,ZE,el,nl⟩:=hn;exact ⟨tp,_,_,_,rfl,rfl,.of ZE,rfl,kc _ H' s' ⟨l,ts,b,rfl,(fun e=>by rw [e,eD] at nl;cases nl),none_of sc nl,el,NK hq wd lW fX hJ hx⟩⟩
 intro D ys H1 nD s1 dM ZF eD;have hn:ys.length=aa.length:=by rw [dM,lv]
 obtain ⟨f,hf⟩:=oB (n:=aa.length) (α:=List Int×Int) (R:=fun i y=>∃x:Addr,ys[i]?=some (.ref x)∧x≠D∧H1 x=some (.lst (y.1.map V.int))∧zW q (G i) W (aa.getD i []) y.1 y.2) fun i hi=>by
  have aR:i<ys.length:=by lia
  obtain ⟨x,ts,b,e1,h2,h3,h4,h5⟩:=ZF i ys[i] (by simp [aR])
  exact ⟨(ts,b),x,by rw [←e1];simp [aR],h2,h4,h5⟩
 obtain ⟨AA,m5,ZG⟩:∃AA:Nat→Nat→Int,(∀i,i<aa.length→∀k,AA i k=(f i).1.getD k 0)∧∀i k,aa.length≤i→AA i k=0:=⟨fun i k=>if i<aa.length then (f i).1.getD k 0 else 0,fun i hi k=>ak hi,fun i k hi=>aj (by lia)⟩
 dsimp only [aO];simp only [L2.start,dN,ku,iP,jE,List.replicate,kv,jC,a8,a9];refine ⟨by show 0≤sizeLine;decide,fun l nl=>?_⟩
 have s2:ag H (upd H1 l (.lst [])):=s1.trans (b_ nl);have el:upd H1 l (.lst []) l=some (.lst (aZ [])):=aM;have iR:jZ (upd H1 l (.lst [])) D l aa.length W AA:=by
  refine ⟨ys,b_ nl _ _ eD,hn,(fun e=>by rw [e,nl] at eD;cases eD),fun i v hv=>?_⟩
  have aR:i<aa.length:=by rw [←hn];exact (aG.mp hv).1
  obtain ⟨x,e1,e2,e3,e4⟩:=hf i aR;rw [e1] at hv;cases hv;refine ⟨x,rfl,e2,(fun e=>by rw [e,nl] at e3;cases e3),?_⟩
  rw [show AA i=fun k=>(f i).1.getD k 0 from funext fun k=>m5 i aR k,NJ _ e4.len];exact b_ nl _ _ e3
 generalize upd H1 l (.lst [])=H2 at s2 el iR ⊢;dsimp only [aO];simp only [a8,a9];have I_:H l=none:=none_of s1 nl;refine ⟨_,rfl,a,q,B,aa,W,rfl,hA.mono s2,n1,eO,hW,fun H3 s3=>⟨(W:Int),rfl,by lia,by lia,?_⟩⟩
 rw [eR];obtain ⟨A0,ZH,ZI⟩:∃A0:Nat→Nat→Int,A0=AA∧∀i k,(A0 i k).natAbs≤G i:=⟨AA,rfl,fun i k=>by
  by_cases hi:i<aa.length
  ·obtain ⟨x,e1,e2,e3,e4⟩:=hf i hi
   rw [m5 i hi k];exact e4.bd k
  ·rw [ZG i k (by lia)]
   exact fh _⟩
 have I0:g9 q PP aa.length W AA AA [] 1 0:=by refine g9.start hq (G:=G) (ZH▸ZI) (fun i=>(hG i).1) hP Av n1 fun z i k hi hk=>?_;obtain ⟨x,e1,e2,e3,e4⟩:=hf i hi;rw [m5 i hi k];exact e4.rem z k hk
 refine pC (fun i σ Hc=>ag H Hc∧∃(rr:Addr) (M:ax) (L:List Nat) (last:Int) (v5 v6 v7 v8:Option V),σ=[some (.ref z),some (.ref a),some (.ref rr),some (.ref l),some (.int last),v5,v6,v7,v8]∧Hc l=some (.lst (aZ L))∧jZ Hc rr l aa.length W M∧g9 q PP aa.length W AA M L last i) ⟨s2.trans s3,D,AA,[],1,none,none,none,none,rfl,s3 _ _ el,iR.mono s3,I0⟩ ?_ ?_
 ·rintro i σ Hc hi ⟨sc,rr,M,L,last,v5,v6,v7,v8,rfl,el,iR,I⟩
  rw [show (0:Int)+(i:Int)=(i:Int) by lia]
  refine ⟨_,rfl,l,aZ L,rfl,.inl (.of el),?_⟩;rw [show ((aZ L).length:Int)=(L.length:Int) by simp [aZ]]
  dsimp only [aO];simp only [a8,a9];refine ⟨_,rfl,_,rfl,_,rfl,rr,aa.length,W,L.length,i,M,rfl,iR.rows,I.rd.len,by lia,hi,fun s' hs sn ns=>?_,fun hz=>?_⟩
  ·dsimp only [aO]
   simp only [a8,a9];obtain ⟨Ef,Ja,I'⟩:=I.next hq hi hs sn ns;obtain ⟨ml,ZJ⟩:=I.last hq;have md:∀i' k',i'<aa.length→k'<W→cO (bZ M L.length s' i' k'):=fun i' k' h1 h2=>by
    have b:∀j,j<aa.length→cO (M j k'):=fun j hj=>dD (I.bd hq hj h2) I.mid;unfold bZ
    split
    ·exact b _ (by lia)
    ·split
     ·exact b _ sn
     ·exact b _ h1
   have rn:L.length<aa.length:=by lia
   refine ⟨_,rfl,rfl,_,rfl,gd ?_⟩;refine ⟨_,rfl,_,rfl,_,rfl,rr,l,aa.length,W,L.length,s',M,rfl,iR,⟨_,el⟩,rn,sn,fun b H4 s4 nb ur=>?_⟩;dsimp only [aO];simp only [a8,a9];have yf:=s4 _ _ el;generalize bZ M L.length s'=M1 at Ja I' ur md;obtain ⟨Aw,eb,Qs,bl,Qt⟩:=id ur;have Qu:L.length<Aw.length:=by lia
   obtain ⟨hx,ZK,p4,ZL,eh⟩:=Qt L.length Aw[L.length] (by simp [Qu])
   refine ⟨_,rfl,_,rfl,b,Aw,_,.ref hx,rfl,rfl,.of eb,dA (by rw [←ZK];simp [Qu]),?_⟩
   dsimp only [aO];simp only [a8,a9];have Jb:=sc.trans s4;refine gY (iK (eB (xs:=Aw) (fun R h=>⟨_,rfl,b,rfl,⟨_,.of eb⟩,h _ _ (ag.refl _) (eK (.of eb))⟩) (by rw [Qs];exact cT (by lia)) (fun D i y Hx=>∃x:Addr,y=.ref x∧x≠D∧x≠l∧Hx x=some (.lst (((List.range W).map (Ef i)).map V.int))) (fun D i y Ha Hb ys ⟨x,h1,h2,h3,h4⟩ e f=>⟨x,h1,h2,h3,f _ _ h2 h4⟩) ?_ ?_))
   ·intro D i' v aR Hd R sd ⟨zs,eD⟩ kd
    have fc:i'<Aw.length:=(aG.mp aR).1;have hp:i'<aa.length:=by lia
    obtain ⟨x,rfl,_,_,ex⟩:=Qt i' v aR;exact ⟨_,rfl,_,rfl,_,rfl,_,rfl,_,rfl,z,x,hx,q,last,W,i,M1 i',M1 L.length,Ef i',rfl,⟨dz,sd _ _ (Jb _ _ hd)⟩,hq,sd _ _ ex,sd _ _ eh,hi,IZ,fun k' fJ=>⟨md i' k' hp fJ,md _ k' rn fJ⟩,ml,ZJ,fun z k' _=>(Ja i' hp).1 z k',fun z k' _=>(Ja i' hp).2 z k',fun r H' s' nr er=>kd _ H' s' ⟨r,rfl,(fun e=>by rw [e,eD] at nr;cases nr),(fun e=>by rw [e,sd _ _ yf] at nr;cases nr),er⟩⟩
   intro D uu H5 EI s5 ZM ZN ZO;dsimp only [aO];simp only [a8,a9];have ZP:L.length<uu.length:=by lia
   have Dl:D≠l:=fun e=>by rw [e,yf] at EI;cases EI
   refine ⟨_,rfl,_,rfl,_,rfl,D,uu,_,L.length,rfl,rfl,ZO,(by unfold iJ;rw [ak (by lia),ak (by lia),eR]),?_⟩
   have ZQ:H D=none:=none_of Jb EI;have s6:ag H (upd H5 D (.lst (uu.set L.length (.ref hx)))):=ft (Jb.trans s5) ZQ;have Qv:hx≠D:=fun e=>by rw [e,EI] at eh;cases eh
   have Jc:upd H5 D (.lst (uu.set L.length (.ref hx))) hx=some (.lst (((List.range W).map (M1 L.length)).map V.int)):=by rw [bE Qv];exact s5 _ _ eh
   have Jd:upd H5 D (.lst (uu.set L.length (.ref hx))) l=some (.lst (aZ L)):=by rw [bE (Ne.symm Dl)];exact s5 _ _ yf
   have Qw:jZ (upd H5 D (.lst (uu.set L.length (.ref hx)))) D l aa.length W (fun i=>if i=L.length then M1 L.length else Ef i):=by
    refine ⟨_,aM,by rw [kj,ZM,Qs],Dl,fun j v hv=>?_⟩
    by_cases ej:j=L.length
    ·subst ej
     rw [ng ZP] at hv;cases hv;refine ⟨hx,rfl,Qv,ZL,?_⟩;dsimp only;rw [ak rfl];exact Jc
    ·rw [nh (fun e=>ej e.symm)] at hv
     obtain ⟨x,e1,e2,e3,e4⟩:=ZN j v hv;refine ⟨x,e1,e2,e3,?_⟩;dsimp only;rw [aj ej,bE e2];exact e4
   dsimp only;generalize upd H5 D (.lst (uu.set L.length (.ref hx)))=H6 at s6 Jc Jd Qw ⊢;refine ⟨_,rfl,_,rfl,hx,_,_,_,rfl,rfl,.of Jc,pY hi (M1 L.length),?_⟩;dsimp only [aO];simp only [a8,a9];refine ⟨_,rfl,.inl ⟨rfl,_,.of Jd⟩,_,rfl,l,aZ L,_,rfl,rfl,Jd,dD (show (aZ L).length≤100 by simp [aZ];lia) (by decide),?_⟩
   have eN:aZ L++[.int (i:Int)]=aZ (L++[i]):=by simp [aZ]
   rw [eN];exact ⟨ft s6 I_,D,_,L++[i],M1 L.length i,_,_,_,_,rfl,aM,Qw.off _,I'⟩
  ·dsimp only [aO]
   simp only [a8,a9];refine ⟨_,rfl,rfl,_,rfl,eG ?_⟩;exact ⟨sc,rr,M,L,last,_,_,_,_,rfl,el,iR,I.skip hz⟩
 ·rintro σ Hc ⟨sc,rr,M,L,last,v5,v6,v7,v8,rfl,el,iR,I⟩
  obtain ⟨ZR,er,lv6,rl,ZS⟩:=id iR;have lN:(aZ L).length=L.length:=by simp [aZ]
  have ln:=I.rd.len;dsimp only;refine fO (GK (vA (Z:=fun zs Hx=>zs=ZR.zip (aZ L)∧Hx=Hc) (fun R h=>⟨_,rfl,_,rfl,rr,l,rfl,⟨_,.of er⟩,⟨_,.of el⟩,h _ _ _ (ag.refl _) (lV (.of er) (.of el)) (cT (by rw [ko];lia)) ⟨rfl,rfl⟩⟩) (fun D j y Hx=>∃(x:Addr) (ps:a_),y=.ref x∧x≠D∧bC (aa.length*(cp aa.length*PP)) Hx q x ps∧ps.length=W∧∀k,k<W→aX q (ps.getD k o1) (M j k,M j (L.getD j 0))) (fun D j y Ha Hb ys ⟨x,ps,h1,h2,⟨ws,e1,e2,e3⟩,h4,h5⟩ e f=>⟨x,ps,h1,h2,⟨ws,f _ _ h2 e1,e2,fun j v p x y=>(e3 j v p x y).bu e f⟩,h4,h5⟩) ?_ ?_))
  ·rintro zs Je ⟨rfl,rfl⟩ _ D' j x y gi Hd R sd ⟨ws,i3⟩ kd
   obtain ⟨h1,h2⟩:=mh.mp gi;have j2:j<L.length:=by rw [←lN];exact (aG.mp h2).1
   have j1:j<aa.length:=by lia
   obtain ⟨rx,rfl,_,_,ex⟩:=ZS j x h1;have ey:y=.int ((L.getD j 0:Nat):Int):=by unfold aZ at h2;rw [bj,bj] at h2;simp [j2] at h2;rw [getD_at j2];exact h2.symm
   subst ey;have cW:L.getD j 0<W:=I.rd.lt _ (by rw [getD_at j2];exact aE _)
   exact ⟨_,rfl,_,rfl,_,rfl,z,rx,q,W,L.getD j 0,M j,aa.length*(cp aa.length*PP),rfl,⟨dz,sd _ _ (sc _ _ hd)⟩,hq,sd _ _ ex,cW,IZ,I.rd.lead j j2,dD (I.bd hq j1 cW) I.mid,fun k' fJ=>I.bd hq j1 fJ,fun r ps H' s' nr fX lp hw=>kd _ H' s' ⟨r,ps,rfl,(fun e=>by rw [e,i3] at nr;cases nr),fX,lp,hw⟩⟩
  ·rintro zs Je ⟨rfl,rfl⟩ _ D' ws H7 EJ s7 kT Jf yg
   have lz:ws.length=L.length:=by rw [kT,ko];lia
   obtain ⟨af,lr,Jg⟩:=pick (R:=fun(j:Nat) (y:V) (ps:a_)=>∃x:Addr,y=.ref x∧bC (aa.length*(cp aa.length*PP)) H7 q x ps∧ps.length=W∧∀k,k<W→aX q (ps.getD k o1) (M j k,M j (L.getD j 0))) (fun j y hy=>by obtain ⟨x,ps,h1,_,h3,h4,h5⟩:=Jf j y hy;exact ⟨ps,x,h1,h3,h4,h5⟩)
   refine ⟨_,rfl,by show 2≤sizeLine;decide,fun p np=>?_⟩
   have sp:ag H7 (upd H7 p (.tup [.ref D',.ref l])):=b_ np;refine k p D' l _ AA M (fun i=>(f i).2) L last af (sc.trans (s7.trans sp)) aM (sp _ _ (s7 _ _ el)) ⟨ws,sp _ _ yg,lr.symm,fun j v ps h1 h2=>?_⟩ ⟨I,fun i hi=>?_,fun i k' hi fJ=>?_,by lia,fun ps oM=>?_,fun j k' hj fJ=>?_⟩
   ·obtain ⟨x,e1,e2,_⟩:=Jg j v ps h1 h2
    exact ⟨x,e1,e2.mono sp⟩
   ·obtain ⟨x,e1,e2,e3,e4⟩:=hf i hi
    exact e4.ok
   ·obtain ⟨x,e1,e2,e3,e4⟩:=hf i hi
    rw [m5 i hi k'];exact e4.eq k' fJ
   ·obtain ⟨j,hj,e⟩:=gQ.mp oM
    have j1:j<ws.length:=by lia
    obtain ⟨x,_,_,e3,_⟩:=Jg j ws[j] ps (by simp [j1]) (by simp [hj,e])
    exact e3
   ·have j1:j<ws.length:=by lia
    have j2:j<af.length:=by lia
    obtain ⟨x,_,_,_,e4⟩:=Jg j ws[j] af[j] (by simp [j1]) (by simp [j2])
    unfold atT;rw [getD_at j2];exact e4 k' fJ
theorem Qx:br ["world","table","other","n","told"] ["world","table","other"] (aQ Dw):=bJ
theorem ZT(T:Txt K mg t):aK P w K mg base (et P w) 6 t.qc t.sF ["world","table","other"] (XS t.cb t.iB):=by
 have S:=Qx;refine T.qk.dS S (fun _ _ _ _ H vs _ _ hr h L=>?_);obtain ⟨z,a,b,q,B,PP,u,aa,l7,G,rfl,hz,hq,hA,hU,B1,Au,n1,eO,lu,hm,hu,uo,hw,hE,hG,hP,Av,kN,k⟩:=h;have jv:=hr.units
 refine ⟨_,(aq (eI 3 S.nd (aA (Ql T) hr T.Ag T.mX.kp T.Af (iX L) (ae (pv 1) ah)))
  (aq (putL 4 S.nd (aA (IY T) hr T.xA T.me.kp T.xy aP (ae (pv 0) (ae (aA (Qm T) hr T.Il T.t6.kp T.Ik aP (ae (pv 1) (ae (pv 2) ah))) ah))))
  (aq (cH (cI (NC jv) (aC cz (pv 4) ao) (n8 (ME rfl) rfl T.x9 boot_list (ae (n8 MD rfl T.fe MG (ae (pv 3) ah)) ah))) (aw (aN mH)) cN)
  (aw (aN (d4 (N:=["row","n"]) (ρ:=(fun σ=>[σ[3]?.join])) (dk [3] rfl) rfl (dH (aC cz (pv 4) ao)) (fun _ _ _=>.nil) (fun _ _ _=>(B7 (NL (K:=K)) (pv 0) (B6 (pv 1)) B5)))))))),?_⟩
 have lz:(List.zipWith (·++·) aa l7).length=aa.length:=by rw [y8,lu,Nat.min_self]
 refine ⟨_,rfl,a,q,B,aa,aa.length,rfl,hA,n1,eO,hm,fun h=>absurd rfl h,fun _ H1 s1=>?_⟩;dsimp only [aO];simp only [L2.start,dN,ku,iP,jE,List.replicate,kv,jC,a8,a9];refine ⟨_,rfl,_,rfl,_,rfl,a,b,q,B,aa,l7,aa.length,u,rfl,hA.mono s1,hU.mono s1,lu.symm,eO,hm,hu,eO,uo,fun r H2 s2 nr hT=>?_⟩;refine ⟨z,r,q,B,PP,aa.length+u,List.zipWith (·++·) aa l7,G,rfl,(hz.mono s1).mono s2,hq,hT,B1,Au,by lia,by lia,hw,by lia,fun i hi=>hE i (by lia),hG,by rw [lz];exact hP,by rw [lz];exact Av,fun p rr l H3 AA M c LL last af s3 ep el hR R=>?_⟩
 rw [lz] at hR;dsimp only [aO];simp only [a8,a9];have j_:=s1.trans (s2.trans s3);refine ⟨_,rfl,p,_,_,_,rfl,rfl,.of ep,rfl,_,rfl,(aa.length:Int),rfl,fun pr Jh=>?_⟩;have s4:ag H3 (upd H3 pr (.gv 0 (aa.length:Int))):=b_ Jh;have Ax:upd H3 pr (.gv 0 (aa.length:Int)) pr=some (.gv 0 (aa.length:Int)):=aM;generalize upd H3 pr (.gv 0 (aa.length:Int))=H4 at s4 Ax ⊢;refine ⟨pr,aa.length,rfl,Ax,by lia,fun lr Ji=>?_⟩
 have s5:ag H4 (upd H4 lr (.lst (iY aa.length))):=b_ Ji;have kU:upd H4 lr (.lst (iY aa.length)) lr=some (.lst (iY aa.length)):=aM;generalize upd H4 lr (.lst (iY aa.length))=H5 at s5 kU ⊢;rw [NS] at kU;have jw:=s4.trans s5;refine ⟨l,lr,LL.map (fun j:Nat=>(j:Int)),(List.range aa.length).map (fun j:Nat=>(j:Int)),rfl,rfl,.of (jw _ _ el),.of kU,_,rfl,c_ (fun iw=>?_) (fun iw=>?_)⟩
 ·refine kN H5 AA M c LL last af (j_.trans jw) R fun e=>?_
  rw [e] at iw;simp at iw
 ·have eL:LL=List.range aa.length:=Xq (by simpa using iw)
  subst eL;have ZU:=hR.mono jw;obtain ⟨vs,er,lv,fv⟩:=id ZU;have lr:af.length=aa.length:=by rw [R.len,fH]
  dsimp only [iE];refine fO (eB (xs:=vs) (fun R h=>⟨_,rfl,p,_,_,_,rfl,rfl,.of (jw _ _ ep),rfl,rr,rfl,⟨_,.of er⟩,h _ _ (ag.refl _) (eK (.of er))⟩) (by rw [lv];exact cT (by lia)) (fun D j y Hx=>∃x:Addr,y=.ref x∧x≠D∧H x=none∧bC (aa.length*(cp aa.length*PP)) Hx q x ((af.getD j []).drop aa.length)) (fun D j y Ha Hb ys ⟨x,h1,h2,h3,⟨ws,e1,e2,e3⟩⟩ e f=>⟨x,h1,h2,h3,⟨ws,f _ _ h2 e1,e2,fun j v p x y=>(e3 j v p x y).bu e f⟩⟩) ?_ ?_)
  ·intro D j v hj Hc R' sc ⟨zs,eD⟩ kc
   have j1:j<vs.length:=(aG.mp hj).1;have j2:j<af.length:=by lia
   obtain ⟨x,rfl,ws,ew,lw,fw⟩:=fv j v af[j] hj (by simp [j2])
   have lW:=R.g_ _ (aE j2);refine ⟨_,rfl,_,rfl,_,rfl,x,ws,rfl,.of (sc _ _ ew),fun r' oR=>?_⟩;rw [NR _ _ (by lia)]
   have s6:ag Hc (upd Hc r' (.lst (ws.drop aa.length))):=b_ oR;refine kc _ _ s6 ⟨r',rfl,(fun e=>by rw [e,eD] at oR;cases oR),none_of (j_.trans (jw.trans sc)) oR,?_⟩
   rw [getD_at j2];exact bC.drop aM lw fun i v p h1 h2=>((fw i v p h1 h2).mono sc).mono s6
  ·intro D ys H6 nD s6 dM ZV eD
   refine k H6 AA M c last af D (j_.trans (jw.trans s6)) R ⟨H3,rr,hR⟩ ⟨ys,eD,by rw [dM,lv,aY],none_of (j_.trans jw) nD,fun j v ps h1 h2=>?_⟩
   obtain ⟨x,e1,e2,e3,e4⟩:=ZV j v h1;have j2:j<af.length:=by have:=(aG.mp h2).1;simpa using this
   rw [bj] at h2;simp [j2] at h2;rw [getD_at j2] at e4;subst h2;exact ⟨x,e1,e2,e3,e4⟩
theorem Qy:br ["world","table"] ["world","table"] (aQ Dz):=bJ
theorem ZW(T:Txt K mg t):aK P w K mg base (et P w) 7 t.qd t.sG ["world","table"] (XT t.cb t.iB):=by
 have S:=Qy;refine T.t7.dS S (fun _ _ _ _ H vs _ _ hr h L=>?_);obtain ⟨z,a,q,B,m,aa,rfl,hz,hq,hA,B1,Au,n1,eO,hm,kE,kk⟩:=h;refine ⟨_,(aw (aN (aA (ZT T) hr T.Io T.qk.kp T.Im (iX L) (ae (pv 0) (ae (pv 1) (ae (aA (IV T) hr T.Et T.qj.kp T.Es aP (ae (pv 0) (ae (aA (Ql T) hr T.Ag T.mX.kp T.Af (iX L) (ae (pv 1) ah)) ah))) ah)))))),?_⟩;refine ⟨_,rfl,_,rfl,_,rfl,_,rfl,a,q,B,aa,m,rfl,hA,n1,eO,hm,fun ne H1 s1=>kE ne H1 s1,fun em H1 s1=>?_⟩;obtain ⟨PP,G,hE,hG,hP,Av,kN,k⟩:=kk em;subst em;refine ⟨z,q,aa.length,rfl,hz.mono s1,hq,eO,fun r H2 s2 nr hU=>?_⟩;have gB:=s1.trans s2;have nums:=hA.nums hq;have hb:∀ps∈aa,∀p∈ps,aH q p.2:=fun ps h1 p h2=>(nums ps h1 p h2).2.1;refine ⟨z,a,r,q,B,PP,aa.length,aa,zX aa.length,G,rfl,hz.mono gB,hq,hA.mono gB,(CF.b hU).weak B1,av (by decide) B1,Au,n1,eO,by unfold zX;simp,hm,fun ps hp=>?_,eO,Xo rfl hm,fun i hi=>?_,hG,hP,Av,fun H' AA M c LL last af s' R ne=>?_,fun H' AA M c last af rr s' R ⟨Hx,x,hR⟩ hF=>?_⟩
 ·obtain ⟨i,_,e⟩:=du.mp hp
  rw [←e];exact vz
 ·have z:=CP (n:=aa.length) (i:=i) (aa:=aa) rfl hi
  unfold j6 at z;rw [z];exact Xl (hE i hi)
 ·exact kN (dm.none hq R rfl hm hb ne) H' (gB.trans s')
 ·have Jj:=hR.nums hq
  have lr:af.length=aa.length:=by rw [R.len,fH]
  have ZX:rf (aa.length*(cp aa.length*PP)) H H' q rr (af.map fun ps=>ps.drop aa.length):=by obtain ⟨vs,e1,e2,e3,e4⟩:=hF;exact ⟨vs,e1,e2,none_of gB e3,fun i v ps h1 h2=>by obtain ⟨x,f1,f2,f3,f4⟩:=e4 i v ps h1 h2;exact ⟨x,f1,f2,none_of gB f3,f4⟩⟩
  refine k rr H' _ (gB.trans s') ZX (by rw [aY,lr]) (fun ps hp=>?_) (dm.inv hq R rfl hm hb fun ps h1 p h2=>(Jj ps h1 p h2).2.1) (fun j hj=>?_) (fun j hj=>?_)
  ·obtain ⟨Qz,h1,e⟩:=du.mp hp
   rw [←e,nj,R.g_ _ h1];lia
  ·have z:=dm.NQ hq (n:=aa.length) R (fun ps h1 p h2=>(Jj ps h1 p h2).1) (j:=j) (by simpa using hj)
   have lz:=oE (n:=aa.length) (aa:=aa) rfl;unfold j6 at lz;rw [lz] at z;exact z
  ·have z:=dm.NZ hq R (fun ps h1 p h2=>(Jj ps h1 p h2).1) (k:=aa.length+j) (by lia)
   have lz:=oE (n:=aa.length) (aa:=aa) rfl;unfold j6 at lz;rw [lz] at z;have e:((af.map fun ps=>ps.drop aa.length).map fun ps=>ps.getD j ((0:Int),(1:Int)))=af.map fun ps=>ps.getD (aa.length+j) (0,1):=by rw [y7];refine uX fun ps _=>?_;show (ps.drop aa.length).getD j (0,1)=ps.getD (aa.length+j) (0,1);rw [dg,uW,←dg]
   rw [e];exact z
theorem ZY:br ["world","one","other","total"] ["world","one","other"] (aQ Dg):=bJ
theorem ZZ(T:Txt K mg t):aK P w K mg base bO 4 t.si t.vT ["world","one","other"] (Wr t.cb):=by
 have S:=ZY;have ya:=IQ (P:=P) (w:=w) (base:=base) T;refine T.xr.cC S (fun _ _ _ _ H vs _ _ hr h=>?_);obtain ⟨z,q,v,u,ts,us,b,c,rfl,⟨dz,hd⟩,hq,⟨tp,l,rfl,e1,e2⟩,⟨QA,l',rfl,gL,Ay⟩,ht,MZ,mt,mu,mb,mc,Z0,nz,k⟩:=h
 refine ⟨_,(aq (putL 3 S.nd (bU (M6 (K:=K) rfl) rfl T.IM boot_sum (ae (oo (N:=["a","b"]) (ρ:=(fun σ=>[])) (mR [] rfl) rfl (lT rfl T.kO (ae (aC cz (pv 1) ao) (ae (aC cz (pv 2) ao) ah))) (fun _ _ _=>.nil) (fun _ _ _=>(ar mP (pv 0) (pv 1)))) ah)))
  (aw (aN (n5 (pv 0) T.gh T.An ya (hr.mono (by decide)) T.IG .nil ig (ae (pv 3) (ae (ar mP (aC cz (pv 1) ao) (aC cz (pv 2) ao)) ah)))))),?_⟩
 have hlen:((ts.map V.int).zip (us.map V.int)).length=min ts.length us.length:=by simp
 refine gY (iK (q5 (Nb (zs:=(ts.map V.int).zip (us.map V.int)) (fun R h=>⟨_,rfl,tp,_,_,_,rfl,rfl,.of e1,rfl,_,rfl,QA,_,_,_,rfl,rfl,.of gL,rfl,l,l',rfl,⟨_,.of e2⟩,⟨_,.of Ay⟩,h _ _ (ag.refl _) (lV (.of e2) (.of Ay))⟩) (by rw [hlen];exact cT (by lia)) (fun i v=>∃w:Int,(List.zipWith (· * ·) ts us)[i]?=some w∧v=.int w) ?_ ?_)))
 ·intro i x y gi Hc R sc kc
  obtain ⟨t0,u0,rfl,rfl,a1,a2⟩:=Nc gi;exact ⟨_,rfl,_,rfl,_,_,rfl,rfl,⟨mt t0 (o4 a1),mu u0 (o4 a2)⟩,kc _ Hc (ag.refl _) ⟨t0*u0,by rw [BI,a1,a2],rfl⟩⟩
 ·intro D vs Hc sc hl hP eD
  have ev:vs=(List.zipWith (· * ·) ts us).map V.int:=ox (by rw [hl,hlen,y8]) hP
  subst ev;refine ⟨D,_,rfl,.of eD,?_⟩;refine ⟨_,rfl,z,dz,_,rfl,sc _ _ hd,pI (by decide +kernel),_,rfl,_,rfl,tp,_,_,_,rfl,rfl,.of (sc _ _ e1),rfl,_,rfl,QA,_,_,_,rfl,rfl,.of (sc _ _ gL),rfl,_,_,rfl,rfl,⟨mb,mc⟩,z,q,_,_,rfl,⟨dz,sc _ _ hd⟩,hq,Z0,fun h=>absurd h (MV nz),fun _ v' H' s' ho=>k v' H' (sc.trans s') (V_ ho hq nz)⟩
theorem Z1:br ["world","rows","row"] ["world","rows","row"] (aQ Dh):=bJ
theorem Z2(T:Txt K mg t):aK P w K mg base bO 5 t.sj t.vU ["world","rows","row"] (XY t.cb):=by
 have S:=Z1;refine T.xt.cC S (fun _ _ _ _ H vs _ _ hr h=>?_);obtain ⟨z,a,q,u,ws,us,c,E',F,rfl,hz,hq,⟨vs,ea,hl,hn⟩,m4,hb,jv,lu,Z3,Z4,bc,E2,F2,EF,k⟩:=h;refine ⟨_,(aw (aN (d4 (N:=["each","world","row"]) (ρ:=(fun σ=>[σ[0]?.join,σ[2]?.join])) (dk [0,2] rfl) rfl (dH (pv 1)) (fun _ _ _=>.nil) (fun _ _ _=>(aA (ZZ T) hr T.OR T.xr.kp T.OQ aP (ae (pv 1) (ae (pv 0) (ae (pv 2) ah)))))))),?_⟩;refine fO (eB (xs:=vs) (fun R h=>⟨_,rfl,a,rfl,⟨_,.of ea⟩,h _ _ (ag.refl _) (eK (.of ea))⟩) (by rw [hl];exact cT (by lia)) (fun D i y Hx=>∃w,ws[i]?=some w∧cU Hx q y (jq (Prod.fst w) us) (Prod.snd w*c)) (fun _ _ _ _ _ _ ⟨w,h1,h2⟩ e f=>⟨w,h1,h2.bu e f⟩) ?_ ?_)
 ·intro D i v hi Hc R sc _ kc
  have aR:i<ws.length:=by rw [←hl];exact (aG.mp hi).1
  have ep:ws[i]?=some ws[i]:=by simp [aR]
  have hw:=hn i v ws[i] hi ep;have Z5:=hb ws[i] (aE ..);obtain ⟨lw,ht,EK,bb⟩:=Z5;refine ⟨_,rfl,_,rfl,_,rfl,z,q,v,u,ws[i].1,us,ws[i].2,c,rfl,hz.mono sc,hq,hw.mono sc,jv.mono sc,by lia,by lia,fun t h=>dD (ht t h) E2,fun t h=>dD (Z3 t h) F2,dD bb E2,dD bc F2,?_,iL hq (EK.nz hq) (Z4.nz hq),fun v' H' s' hv=>kc v' H' s' ⟨ws[i],ep,hv⟩⟩
  refine dD ?_ EF;rw [bT];exact bI bb bc
 ·intro D ys Hc nD sc eP hP eD
  refine k D Hc sc nD ⟨ys,eD,by rw [eP,hl,aY],fun i v p h1 h2=>?_⟩
  obtain ⟨w',e1,e2⟩:=hP i v h1;rw [bj,e1] at h2;cases h2;exact e2
theorem Z6:br ["world","rows"] ["world","rows"] (aQ Di):=bJ
theorem Z7(T:Txt K mg t):aK P w K mg base bO 4 t.sk t.vV ["world","rows"] (XX t.cb):=by
 have S:=Z6;have uq:=EH (P:=P) (w:=w) (base:=base) T;refine T.xu.cC S (fun _ _ _ _ H vs _ _ hr h=>?_);obtain ⟨z,a,q,B,E',aa,rfl,⟨dz,hd⟩,hq,⟨vs,ea,hl,hn⟩,B1,B2,E2,m4,oM,k⟩:=h;refine ⟨_,(aw (aN (d4 (N:=["row","world"]) (ρ:=(fun σ=>[σ[0]?.join])) (dk [0] rfl) rfl (dH (pv 1)) (fun _ _ _=>.nil) (fun _ _ _=>(n5 (pv 1) T.gh T.ud uq (hr.mono (by decide)) T.Aq .nil aP (ae (pv 0) ah)))))),?_⟩
 refine fO (eB (xs:=vs) (fun R h=>⟨_,rfl,a,rfl,⟨_,.of ea⟩,h _ _ (ag.refl _) (eK (.of ea))⟩) (by rw [hl];exact cT (by lia)) (fun D i y Hx=>∃ps w,aa[i]?=some ps∧pP D Hx y (Prod.fst w) (Prod.snd w)∧CV q E' ps (Prod.fst w) (Prod.snd w)) (fun _ _ _ _ _ _ ⟨ps,w,h1,h2,h3⟩ e f=>⟨ps,w,h1,h2.keep e f,h3⟩) ?_ ?_)
 ·intro D i v hi Hc R sc ⟨zs,eD⟩ kc
  have aR:i<aa.length:=by rw [←hl];exact (aG.mp hi).1
  have ep:aa[i]?=some aa[i]:=by simp [aR]
  obtain ⟨r,rfl,oQ⟩:=hn i v aa[i] hi ep;obtain ⟨pX,D',x,hJ,bD,dv,hx⟩:=oM _ (aE aR);exact ⟨_,rfl,z,dz,_,rfl,sc _ _ hd,pI (by decide +kernel),_,rfl,z,r,q,aa[i],B,D',rfl,⟨dz,sc _ _ hd⟩,hq,oQ.mono sc,by lia,hJ,dv,B2,B1,dD bD E2,fun v' H' ts b s' hw ho=>kc v' H' s' ⟨aa[i],(ts,b),ep,hw.bu eD,N6 hq ho oQ hJ bD hx⟩⟩
 ·intro D ys Hc nD sc eP hP eD
  obtain ⟨ws,lw,hw⟩:=pick (R:=fun i y w=>∃ps,aa[i]?=some ps∧pP D Hc y (Prod.fst w) (Prod.snd w)∧CV q E' ps (Prod.fst w) (Prod.snd w)) (fun i y e=>by obtain ⟨ps,w,h1,h2,h3⟩:=hP i y e;exact ⟨w,ps,h1,h2,h3⟩)
  refine k D Hc ws sc nD ⟨⟨ys,eD,lw.symm,fun i v w' h1 h2=>?_⟩⟩ (by rw [lw,eP,hl]) fun i ps w' h1 h2=>?_
  ·obtain ⟨ps,_,h4,_⟩:=hw i v w' h1 h2
   exact h4.at
  ·have hi:i<ys.length:=by rw [←lw];exact (aG.mp h2).1
   obtain ⟨Qz,h3,_,h5⟩:=hw i ys[i] w' (by simp [hi]) h2
   rw [h1] at h3;cases h3;exact h5
theorem Z8:br ["world","rows","others","wholes"] ["world","rows","others"] (aQ Dj):=bJ
theorem QB(T:Txt K mg t):aK P w K mg base bO 6 t.so t.vW ["world","rows","others"] (N7 t.cb):=by
 have S:=Z8;have uq:=EH (P:=P) (w:=w) (base:=base) T;refine T.tX.cC S (fun _ _ _ _ H vs _ _ hr h=>?_);obtain ⟨z,a,o,q,Ba,Bo,E',F,aa,af,rfl,hz,hq,hA,hO,a1,a2,l6,o2,E2,F2,EF,m4,QC,oM,QD,k⟩:=h
 refine ⟨_,(aq (eI 3 S.nd (aA (Z7 T) hr T.OV T.xu.kp T.OU aP (ae (pv 0) (ae (pv 2) ah))))
  (aw (aN (d4 (N:=["row","world","wholes"]) (ρ:=(fun σ=>[σ[0]?.join,σ[3]?.join])) (dk [0,3] rfl) rfl (dH (pv 1)) (fun _ _ _=>.nil) (fun _ _ _=>(aA (Z2 T) hr T.OT T.xt.kp T.OS aP (ae (pv 1) (ae (pv 2) (ae (n5 (pv 1) T.gh T.ud uq (hr.mono (by decide)) T.Aq .nil aP (ae (pv 0) ah)) ah))))))))),?_⟩
 refine ⟨_,rfl,_,rfl,z,o,q,Bo,F,af,rfl,hz,hq,hO,l6,o2,F2,QC,QD,fun wa H1 ws s1 nwa Z9 kT aF=>?_⟩;have Z_:∀ps∈af,∀p∈ps,aH q p.2:=fun ps h1 p h2=>(hO.nums hq ps h1 p h2).2.1;have hz1:=hz.mono s1;obtain ⟨dz,hd⟩:=hz1;obtain ⟨vs,ea,hl,hn⟩:=hA.mono s1;have wb:∀x∈ws,x.1.length≤40∧(∀t∈x.1,t.natAbs≤F)∧aH q x.2∧x.2.natAbs≤F:=fun x hx=>by
  obtain ⟨i,hi,ei⟩:=nJ hx;have aR:i<af.length:=by lia
  have w:=aF i af[i] x (by simp [aR]) (by rw [←ei];simp [hi])
  exact ⟨by rw [w.len];exact (QD _ (aE ..)).1,w.bd,w.ok,w.bb⟩
 dsimp only [aO];refine fO (eB (xs:=vs) (fun R h=>⟨_,rfl,a,rfl,⟨_,.of ea⟩,h _ _ (ag.refl _) (eK (.of ea))⟩) (by rw [hl];exact cT (by lia)) (fun D i y Hx=>∃ps r,aa[i]?=some ps∧y=.ref r∧H r=none∧CB D Hx q r (af.map fun rs=>aW rs ps (0,1))) (fun _ _ _ _ _ _ ⟨ps,r,h1,h2,h3,h4⟩ e f=>⟨ps,r,h1,h2,h3,h4.keep e f⟩) ?_ ?_)
 ·intro D i v hi Hc R sc ⟨zs,eD⟩ kc
  have aR:i<aa.length:=by rw [←hl];exact (aG.mp hi).1
  have ep:aa[i]?=some aa[i]:=by simp [aR]
  obtain ⟨r,rfl,oQ⟩:=hn i v aa[i] hi ep;have aab:∀p∈aa[i],aH q p.2:=fun p hp=>(oQ.nums hq p hp).2.1;obtain ⟨pX,D',x,hJ,bD,dv,hx⟩:=oM aa[i] (aE ..);refine ⟨_,rfl,_,rfl,_,rfl,z,dz,_,rfl,sc _ _ hd,pI (by decide +kernel),_,rfl,z,r,q,aa[i],Ba,D',rfl,⟨dz,sc _ _ hd⟩,hq,oQ.mono sc,by lia,hJ,dv,a2,a1,dD bD E2,fun u H2 us c s2 hu2 hwd=>?_⟩
  have yh:=N6 hq hwd oQ hJ bD hx;refine ⟨z,wa,q,u,ws,us,c,F,E',rfl,⟨dz,s2 _ _ (sc _ _ hd)⟩,hq,Z9.mono (sc.trans s2),by lia,wb,hu2.at,by rw [yh.len];exact pX,yh.bd,yh.ok,yh.bb,F2,E2,EF,fun b H3 s3 nb hN=>?_⟩
  have Hb:H b=none:=by
   cases e:H b with
   | none=>rfl
   | some o'=>rw [s2 _ _ (sc _ _ (s1 _ _ e))] at nb;cases nb
  refine kc _ H3 (s2.trans s3) ⟨aa[i],b,ep,rfl,Hb,⟨(fun z'=>by (rw [z',s2 _ _ eD] at nb;cases nb)),?_⟩⟩
  obtain ⟨ys,eb,ly,f⟩:=hN;refine ⟨ys,eb,by rw [ly,aY,aY,kT],fun j y p h1 h2=>?_⟩
  have hj:j<ws.length:=by rw [←aY (f:=fun x:List Int×Int=>(jq x.1 us,x.2*c)),←ly];exact (aG.mp h1).1
  have cK:j<af.length:=by lia
  have er:af[j]?=some af[j]:=by simp [cK]
  have ew:ws[j]?=some ws[j]:=by simp [hj]
  rw [bj,er] at h2;cases h2;have v1:=f j y _ h1 (by rw [bj,ew];rfl)
  have ok:=aF j af[j] ws[j] er ew;have e:=GL (ps:=af[j]) (rs:=aa[i]) (ts:=ws[j].1) (us:=us) (B:=ws[j].2) (C:=c) (S:=0) (acc:=(0,1)) ok.len yh.len ok.eq yh.eq (by simp)
  rw [mj] at e;exact v1.to hq e (zM (Z_ _ (aE ..)) aab ⟨fun _=>by decide,fun _=>rfl⟩)
 ·intro D ys Hc nD sc eP hP eD
  have HD:H D=none:=by
   cases e:H D with
   | none=>rfl
   | some o'=>rw [s1 _ _ e] at nD;cases nD
  refine k D Hc ys (s1.trans sc) HD eD (by rw [eP,hl]) fun i v ps h1 h2=>?_
  obtain ⟨Qz,r,e1,e2,e3,e4⟩:=hP i v h1;rw [h2] at e1;cases e1;exact ⟨r,e2,e3,e4.2⟩
theorem aae:br ["table","n","m"] ["table","n","m"] (aQ C_):=bJ
theorem Jk(T:Txt K mg t):aK P w K mg base bO 1 t.r_ t.vR ["table","n","m"] X2:=by
 have S:=aae;refine T.qg.cC S (fun _ _ _ _ H _ _ _ hr h=>?_);obtain ⟨a,n,m,xs,rfl,ea,lx,eO,hx,k⟩:=h;refine ⟨_,(aw (aN (ky (gU gc (bU dI rfl T.de dh (ae (pv 0) ah)) (pv 1)) (mJ (bU (zx (K:=K) rfl) rfl T.x_ boot_all (ae (d4 (N:=["row","m"]) (ρ:=(fun σ=>[σ[2]?.join])) (dk [2] rfl) rfl (dH (pv 0)) (fun _ _ _=>.nil) (fun _ _ _=>(gU gc (bU (CA (K:=K)) rfl T.de dh (ae (pv 0) ah)) (pv 1)))) ah)))))),?_⟩;refine ⟨_,rfl,a,xs,rfl,.inl (.of ea),_,rfl,rfl,true,by rw [jj,dr (by lia)],gd ?_⟩
 refine q5 (Ct (xs:=xs) (fun R h=>⟨_,rfl,a,rfl,⟨_,.of ea⟩,h _ _ (ag.refl _) (eK (.of ea))⟩) (cT (by lia)) (fun _ i y _=>y=.bl true) (fun _ _ _ _ _ _ h _ _=>h) ?_ ?_)
 ·intro D i v hi Hc R sc _ kc
  obtain ⟨r,us,rfl,e2,e3⟩:=hx v (o4 hi);refine ⟨_,rfl,r,us,rfl,.inl (.of (sc _ _ e2)),_,rfl,rfl,?_⟩;rw [jj,dr (by lia)]
  exact kc _ Hc (ag.refl _) rfl
 ·intro D ys Hc sc eP hP eD
  refine ⟨D,List.replicate ys.length true,rfl,.of (by rw [eD];exact fK _ (fK _ (zN hP))),?_⟩
  rw [CD];exact k Hc sc
theorem aaf:br ["world","table"] ["world","table"] (aQ DH):=bJ
theorem Jl(T:Txt K mg t):aK P w K mg base bO 6 t.sN t.wA ["world","table"] (X5 t.cb t.iB):=by
 have S:=aaf;refine T.ql.cC S (fun _ _ _ _ H _ _ _ hr h=>?_);obtain ⟨z,a,q,B,PP,W,aa,G,rfl,hz,hq,hA,sz,k⟩:=h;refine ⟨_,(aw (aN (bU dI rfl T.de dh (ae (aC cz (aA (IY T) hr T.xA T.me.kp T.xy aP (ae (pv 0) (ae (pv 1) ah))) ao) ah)))),?_⟩;have N9:=sz.N9;refine ⟨_,rfl,_,rfl,z,a,q,B,PP,W,aa,G,rfl,hz,hq,hA,sz.b1,sz.b2,sz.n1,sz.eO,sz.g_,by lia,sz.row,sz.g,sz.pr,sz.mid,fun p rr l H1 AA M c L last af s1 ep el hR R=>?_⟩
 refine ⟨p,_,_,_,rfl,rfl,.of ep,rfl,l,aZ L,rfl,.inl (.of el),?_⟩;rw [fF];exact k L H1 s1 (R.N3 hq rfl rfl sz.g_ (fun _ _ _ _=>rfl) (aI _) (fun ps h1 p h2=>(hA.nums hq ps h1 p h2).2.1) R.red.rd.lt) R.red.rd.len
theorem EL(T:Txt K mg t):aK P w K mg base (et P w) 1 t.p9 t.r6 ["table"] X3:=by
 have S:=Qh;refine T.iO.dS S (fun _ _ _ _ H _ _ _ hr h L=>?_);obtain ⟨a,rfl,ea,k⟩:=h
 refine ⟨_,(aq (cH (cI gc (bU dI rfl T.de dh (ae (pv 0) ah)) ao) (aw (aN ao)) cN)
  (aq (eI 1 S.nd (bU dI rfl T.de dh (ae (aC dF (pv 0) ao) ah)))
  (aq (cH (jb (bU (M5 (K:=K) rfl) rfl T.IL boot_any (ae (d4 (N:=["row","wide"]) (ρ:=(fun σ=>[σ[1]?.join])) (dk [1] rfl) rfl (dH (pv 0)) (fun _ _ _=>.nil) (fun _ _ _=>(gU je (bU (CA (K:=K)) rfl T.de dh (ae (pv 0) ah)) (pv 1)))) ah))) (aw (n9 L rfl nK T.ug rfl T.ue (ae jJ ah))) cN)
  (aw (aN (pv 1)))))),?_⟩
 exact ⟨_,rfl,a,[],rfl,.inl (.of ea),rfl,true,rfl,gd k⟩
theorem QE(T:Txt K mg t):aK P w K mg base bO 5 t.qb t.sD ["world","table"] X4:=by
 have S:=Qr;have uq:=EH (P:=P) (w:=w) (base:=base) T;refine T.me.cC S (fun _ _ _ _ H _ _ _ hr h=>?_);obtain ⟨z,a,rfl,ea,k⟩:=h
 refine ⟨_,(aq (qX (i0:=2) (N:=["row","world"]) (ρ:=(fun σ=>[σ[0]?.join])) (dk [0] rfl) rfl S.nd rfl (Or.inl rfl) (dH (pv 1)) (fun _ _ _=>.nil) (fun _ _ _=>(aC (qZ (K:=K)) (n5 (pv 1) T.gh T.ud uq (hr.mono (by decide)) T.Aq .nil aP (ae (pv 0) ah)) ao)))
  (aq (putL 3 S.nd (gH ah))
  (aq (eI 4 S.nd ao)
  (aq (iG fY rfl (gG rfl T.fe (ae (aA (EL T) hr T.ma T.iO.kp T.l_ ig (ae (pv 1) ah)) ah)) (d9 (i:=5) S.nd rfl (Or.inr rfl))
   (aq (putL 6 S.nd (bU dI rfl T.de dh (ae (pv 3) ah)))
  (aq (putL 7 S.nd (aA (P9 T) hr T.Ie T.tZ.kp T.Ic aP (ae (pv 2) (ae (pv 6) (ae (pv 5) ah)))))
  (aw (cH (cI LH (pv 7) mH) (aq (putL 2 S.nd (aA (P_ T) hr T.Ih T.t4.kp T.Ig aP (ae (pv 2) (ae (pv 6) (ae (pv 7) ah)))))
  (aq (eI 8 S.nd (aC dF (pv 2) (pv 6)))
  (aq (qX (i0:=2) (N:=["row","world","head","lead","last"]) (ρ:=(fun σ=>[σ[0]?.join,σ[8]?.join,σ[5]?.join,σ[4]?.join])) (dk [0,8,5,4] rfl) rfl S.nd rfl (Or.inl rfl) (dH (pv 2)) (fun _ _ _=>.nil) (fun _ _ _=>(aA (Qa T) hr T.Ib T.tY.kp T.Ia aP (ae (pv 1) (ae (pv 0) (ae (pv 2) (ae (pv 3) (ae (pv 4) ah))))))))
  (aq (@k9 _ _ _ _ _ _ (pv 8) (mL (pv 2) (pv 6) set_list) (by rfl) (by rfl) (by rfl))
  (aq (eI 4 S.nd (aC dF (pv 8) (pv 5)))
  (aw (pA (qS qH y_ za lA (pv 3) (ae (pv 5) ah))))))))) cN)))))
  (aw (aN (jf (ae (oo (N:=["row","lead","world"]) (ρ:=(fun σ=>[σ[0]?.join])) (mR [0] rfl) rfl (lT rfl T.kO (ae (pv 2) (ae (pv 3) ah))) (fun _ _ _=>.nil) (fun _ _ _=>(aA (Qf T) hr T.Ij T.t5.kp T.Ii aP (ae (pv 2) (ae (pv 0) (ae (pv 1) ah)))))) (ae (pv 3) ah))))))))),?_⟩
 refine gY (iK (eB (xs:=[]) (fun R h=>⟨_,rfl,a,rfl,⟨_,.of ea⟩,h _ _ (ag.refl _) (eK (.of ea))⟩) (by decide) (fun _ _ _ _=>True) (fun _ _ _ _ _ _ _ _ _=>trivial) (fun D i v hi=>by simp at hi) ?_))
 intro D ys H1 nD s1 dM _ eD;have ey:ys=[]:=i8.mp dM;subst ey;dsimp only [aO];simp only [L2.start,dN,ku,iP,jE,List.replicate,kv,jC,a8,a9];refine ⟨by show 0≤sizeLine;decide,fun l nl=>?_⟩
 have sl:ag H1 (upd H1 l (.lst [])):=b_ nl;have el:upd H1 l (.lst []) l=some (.lst []):=aM;generalize upd H1 l (.lst [])=H2 at sl el ⊢;have s2:=s1.trans sl;dsimp only [aO];simp only [a8,a9];refine ⟨_,rfl,a,rfl,s2 _ _ ea,(0:Int),rfl,by decide,by decide,?_⟩
 refine pC (fun i σ Hc=>Hc=H2∧σ=[some (.ref z),some (.ref a),some (.ref D),some (.ref l),some (.int 1),none,none,none,none]) ⟨rfl,rfl⟩ (fun i σ Hc hi=>absurd hi (qF _)) ?_;rintro σ Hc ⟨rfl,rfl⟩;dsimp only;refine fO (GK (vA (Z:=fun zs Hx=>zs=[]∧Hx=Hc) (fun R h=>⟨_,rfl,_,rfl,D,l,rfl,⟨_,.of (sl _ _ eD)⟩,⟨_,.of el⟩,h _ _ _ (ag.refl _) (lV (.of (sl _ _ eD)) (.of el)) (by decide) ⟨rfl,rfl⟩⟩) (fun _ _ _ _=>True) (fun _ _ _ _ _ _ _ _ _=>trivial) ?_ ?_))
 ·rintro zs Je ⟨rfl,rfl⟩ _ D' j x y gi
  simp at gi
 ·rintro zs Je ⟨rfl,rfl⟩ _ D' ws H7 EJ s7 kT _ yg
  have ey:ws=[]:=i8.mp kT;subst ey;refine ⟨_,rfl,by show 2≤sizeLine;decide,fun p np=>?_⟩
  have sp:ag H7 (upd H7 p (.tup [.ref D',.ref l])):=b_ np;exact k p D' l _ (s2.trans (s7.trans sp)) aM (sp _ _ yg) (sp _ _ (s7 _ _ el))
theorem aag:br ["row","places"] ["row","places"] (aQ DI):=bJ
theorem Jm(T:Txt K mg t):aK P w K mg base bO 1 t.sO t.wB ["row","places"] Yb:=by
 have S:=aag;refine T.qm.cC S (fun _ _ _ _ H _ _ _ hr h=>?_);obtain ⟨a,l,xs,L,rfl,ea,el,hL,Jn,k⟩:=h;refine ⟨_,(aw (aN (d4 (N:=["place","row"]) (ρ:=(fun σ=>[σ[0]?.join])) (dk [0] rfl) rfl (dH (pv 1)) (fun _ _ _=>.nil) (fun _ _ _=>(aC (iy (K:=K)) (pv 1) (pv 0)))))),?_⟩;refine fO (eB (xs:=aZ L) (fun R h=>⟨_,rfl,l,rfl,⟨_,.of el⟩,h _ _ (ag.refl _) (eK (.of el))⟩) (by rw [fF];exact cT (by lia)) (fun D i y Hx=>y=xs.getD (L.getD i 0) .aV) (fun _ _ _ _ _ _ h _ _=>h) ?_ ?_)
 ·intro D i v hi Hc R sc _ kc
  have i1:i<L.length:=by rw [←fF];exact (aG.mp hi).1
  have ev:v=.int ((L.getD i 0:Nat):Int):=by unfold aZ at hi;rw [bj,bj] at hi;simp [i1] at hi;rw [getD_at i1];exact hi.symm
  subst ev;have li:L.getD i 0<xs.length:=hL _ (by rw [getD_at i1];exact aE _)
  refine ⟨_,rfl,_,rfl,a,xs,_,_,rfl,rfl,.of (sc _ _ ea),dA (j:=L.getD i 0) (gu li),kc _ Hc (ag.refl _) ?_⟩;generalize L.getD i 0=c at li;simp [li]
 ·intro D ys Hc nD sc eP hP eD
  rw [fF] at eP;have e:ys=L.map fun i=>xs.getD i .aV:=by
   refine nI (by simp [eP]) fun j h1 h2=>?_
   have j1:j<L.length:=by lia
   have:=hP j ys[j] (by simp [h1])
   rw [this,i9,getD_at j1]
  rw [e] at eD;exact k D Hc sc nD eD
theorem QF(T:Txt K mg t):aK P w K mg base (et P w) 2 t.p_ t.r9 ["table"] Yc:=by
 have S:=Qk;refine T.mX.dS S (fun _ _ _ _ H _ _ _ hr h L=>?_);obtain ⟨a,rfl,ea,k⟩:=h
 refine ⟨_,(aq (cH (cI je (aA (EL T) hr T.ma T.iO.kp T.l_ (iX L) (ae (pv 0) ah)) (bU dI rfl T.de dh (ae (pv 0) ah))) (aw (n9 L rfl nK T.ug rfl T.ue (ae jJ ah))) cN)
  (aw (aN (bU dI rfl T.de dh (ae (pv 0) ah))))),?_⟩
 refine ⟨_,rfl,a,rfl,ea,_,rfl,a,[],rfl,.inl (.of ea),rfl,false,rfl,eG ?_⟩;dsimp only [iE];exact ⟨_,rfl,a,[],rfl,.inl (.of ea),k⟩
theorem aah(T:Txt K mg t):aK P w K mg base (et P w) 6 t.qc t.sF ["world","table","other"] Yd:=by
 have S:=Qx;refine T.qk.dS S (fun _ _ _ _ H vs _ _ hr h L=>?_);obtain ⟨z,a,b,rfl,ea,eb,k⟩:=h;have jv:=hr.units
 refine ⟨_,(aq (eI 3 S.nd (aA (QF T) hr T.Ag T.mX.kp T.Af (iX L) (ae (pv 1) ah)))
  (aq (putL 4 S.nd (aA (QE T) hr T.xA T.me.kp T.xy aP (ae (pv 0) (ae (aA (Qm T) hr T.Il T.t6.kp T.Ik aP (ae (pv 1) (ae (pv 2) ah))) ah))))
  (aq (cH (cI (NC jv) (aC cz (pv 4) ao) (n8 (ME rfl) rfl T.x9 boot_list (ae (n8 MD rfl T.fe MG (ae (pv 3) ah)) ah))) (aw (aN mH)) cN)
  (aw (aN (d4 (N:=["row","n"]) (ρ:=(fun σ=>[σ[3]?.join])) (dk [3] rfl) rfl (dH (aC cz (pv 4) ao)) (fun _ _ _=>.nil) (fun _ _ _=>(B7 (NL (K:=K)) (pv 0) (B6 (pv 1)) B5)))))))),?_⟩
 refine ⟨_,rfl,a,rfl,ea,?_⟩;dsimp only [aO];simp only [L2.start,dN,ku,iP,jE,List.replicate,kv,jC,a8,a9];have t0:∀{x:Addr},H x=some (.lst [])→aT 0 H 0 x []:=fun e=>⟨[],e,rfl,fun i v ps h=>by simp at h⟩
 refine ⟨_,rfl,_,rfl,_,rfl,a,b,0,0,[],[],0,0,rfl,t0 ea,t0 eb,rfl,by decide,(fun ps h=>by cases h),(fun ps h=>by cases h),by decide,by decide,fun r H2 s2 nr hT=>?_⟩
 have er:H2 r=some (.lst []):=by obtain ⟨vs,e,l,_⟩:=hT;rw [e,i8.mp l]
 refine ⟨z,r,rfl,er,fun p rr l H3 s3 ep err el=>?_⟩;dsimp only [aO];simp only [a8,a9];have j_:=s2.trans s3;refine ⟨_,rfl,p,_,_,_,rfl,rfl,.of ep,rfl,_,rfl,(0:Int),rfl,fun pr Jh=>?_⟩;have s4:ag H3 (upd H3 pr (.gv 0 (0:Int))):=b_ Jh;have Ax:upd H3 pr (.gv 0 (0:Int)) pr=some (.gv 0 (0:Int)):=aM;generalize upd H3 pr (.gv 0 (0:Int))=H4 at s4 Ax ⊢;refine ⟨pr,0,rfl,Ax,by lia,fun lr Ji=>?_⟩
 have s5:ag H4 (upd H4 lr (.lst (iY 0))):=b_ Ji;have kU:upd H4 lr (.lst (iY 0)) lr=some (.lst (iY 0)):=aM;generalize upd H4 lr (.lst (iY 0))=H5 at s5 kU ⊢;rw [NS] at kU;have jw:=s4.trans s5;refine ⟨l,lr,[],[],rfl,rfl,.of (jw _ _ el),.of kU,_,rfl,eG ?_⟩;dsimp only [iE];refine fO (eB (xs:=[]) (fun R h=>⟨_,rfl,p,_,_,_,rfl,rfl,.of (jw _ _ ep),rfl,rr,rfl,⟨_,.of (jw _ _ err)⟩,h _ _ (ag.refl _) (eK (.of (jw _ _ err)))⟩) (by decide) (fun _ _ _ _=>True) (fun _ _ _ _ _ _ _ _ _=>trivial) (fun D i v hi=>by simp at hi) ?_)
 intro D ys H6 nD s6 dM _ eD;have ey:ys=[]:=i8.mp dM;subst ey;exact k D H6 (j_.trans (jw.trans s6)) (none_of (j_.trans jw) nD) eD
theorem aai(T:Txt K mg t):aK P w K mg base (et P w) 7 t.qd t.sG ["world","table"] (Ye t.cb):=by
 have S:=Qy;refine T.t7.dS S (fun _ _ _ _ H vs _ _ hr h L=>?_);obtain ⟨z,a,q,rfl,hz,hq,ea,k⟩:=h;refine ⟨_,(aw (aN (aA (aah T) hr T.Io T.qk.kp T.Im (iX L) (ae (pv 0) (ae (pv 1) (ae (aA (IV T) hr T.Et T.qj.kp T.Es aP (ae (pv 0) (ae (aA (QF T) hr T.Ag T.mX.kp T.Af (iX L) (ae (pv 1) ah)) ah))) ah)))))),?_⟩;refine ⟨_,rfl,_,rfl,_,rfl,_,rfl,a,rfl,ea,z,q,0,rfl,hz,hq,by decide,fun r H2 s2 nr hU=>?_⟩
 have er:H2 r=some (.lst []):=by
  obtain ⟨vs,e,l,_⟩:=hU;have ev:vs=[]:=i8.mp (by simpa using l)
  rw [e,ev]
 exact ⟨z,a,r,rfl,s2 _ _ ea,er,fun r' H3 s3 oR e3=>k r' H3 (s2.trans s3) (none_of s2 oR) e3⟩
theorem aaj:br ["world","table","told","right","across","left","down","back"] ["world","table"] (aQ DJ):=bJ
theorem QG(T:Txt K mg t):aK P w K mg base bO 8 t.sP t.wD ["world","table"] (Yg t.cb t.iB):=by
 have S:=aaj;have QH:=My.aK.or (IY (P:=P) (w:=w) (base:=base) T) (QE (P:=P) (w:=w) (base:=base) T);have aak:=My.aK.or (ZW (P:=P) (w:=w) (base:=base) T) (aai (P:=P) (w:=w) (base:=base) T);refine T.t8.cC S (fun _ _ _ _ H vs _ _ hr h=>?_);obtain ⟨z,a,q,B,E',F,m,aa,rfl,hz,hq,hA,QI,B2,n1,n30,hm,m30,hE,hF,E1,E2,F1,F2,ubn,Az,uv,k⟩:=h
 refine ⟨_,(aq (putL 2 S.nd (aA QH hr T.xA T.me.kp T.xy aP (ae (pv 0) (ae (pv 1) ah))))
  (aq (putL 3 S.nd (aC cz (pv 2) ao))
  (aq (eI 4 S.nd (aC cz (pv 2) ao))
  (aq (qX (i0:=5) (N:=["row","across"]) (ρ:=(fun σ=>[σ[4]?.join])) (dk [4] rfl) rfl S.nd rfl (Or.inl rfl) (dH (pv 1)) (fun _ _ _=>.nil) (fun _ _ _=>(aA (Jm T) hr T.Ey T.qm.kp T.Ex aP (ae (pv 0) (ae (pv 1) ah)))))
  (aq (putL 6 S.nd (aC cz (aA QH hr T.xA T.me.kp T.xy aP (ae (pv 0) (ae (aA (Qq T) hr T.HY T.qi.kp T.HX aP (ae (pv 5) ah)) ah))) ao))
  (aq (putL 7 S.nd (aA aak hr T.O1 T.t7.kp T.O0 ig (ae (pv 0) (ae (aA (Jm T) hr T.Ey T.qm.kp T.Ex aP (ae (pv 5) (ae (pv 6) ah))) ah))))
  (aw (aN (jf (ae (pv 5) (ae (pv 3) (ae (pv 6) (ae (pv 4) (ae (pv 7) ah)))))))))))))),?_⟩
 have B1:1000≤B:=av (by decide) QI
 have uh:∀ps∈aa,∀p∈ps,aH q p.2:=fun ps h1 p h2=>(hA.nums hq ps h1 p h2).2.1;have rT:=hA.rep hq rfl hm;have eO:aa.length≤40:=by lia
 refine ⟨_,rfl,_,rfl,.inl ⟨z,a,q,B,E' ^ aa.length,m,aa,fun _=>E',rfl,hz,hq,hA,B1,B2,n1,eO,hm,by lia,fun i hi=>by rw [getD_at hi];exact hE _ (aE _),fun _=>⟨E1,E2⟩,jy (C2 _ _),ubn _ (aI _),fun p rr l H1 AA M c L last af s1 ep el hR R=>?_⟩⟩
 have hL:∀x∈L,x<m:=R.red.rd.lt;have lL:=R.red.rd.len;have Lm:L.length≤m:=by have:=HB R.red.rd.up hL;lia
 have rq:∀ps∈af,∀p∈ps,aH q p.2:=fun ps h1 p h2=>(hR.nums hq ps h1 p h2).2.1;have LP:=R.N3 hq rfl rfl hm (fun _ _ _ _=>rfl) (aI _) uh hL;dsimp only [aO];simp only [L2.start,dN,ku,iP,jE,List.replicate,kv,jC,a8,a9];refine ⟨_,rfl,p,_,_,_,rfl,rfl,.of ep,rfl,?_⟩;dsimp only [aO];simp only [a8,a9];refine ⟨_,rfl,p,_,_,_,rfl,rfl,.of ep,rfl,?_⟩;dsimp only [aO];simp only [a8,a9];obtain ⟨vs,ea,lv,fv⟩:=id hA;refine gY (iK (eB (xs:=vs) (fun R h=>⟨_,rfl,a,rfl,⟨_,.of (s1 _ _ ea)⟩,h _ _ (ag.refl _) (eK (.of (s1 _ _ ea)))⟩) (by rw [lv];exact cT (by lia)) (fun D i y Hx=>∃x:Addr,y=.ref x∧x≠D∧bC B Hx q x (L.map fun c=>(aa.getD i []).getD c o1)) (fun D i y Ha Hb ys ⟨x,h1,h2,ws,e1,e2,e3⟩ e f=>⟨x,h1,h2,ws,f _ _ h2 e1,e2,fun j v p x y=>(e3 j v p x y).bu e f⟩) ?_ ?_))
 ·intro D i v hi Hc R' sc ⟨zs,eD⟩ kc
  have i1:i<aa.length:=by rw [←lv];exact (aG.mp hi).1
  obtain ⟨r,rfl,xs,ex,lx,fx⟩:=fv i v aa[i] hi (by simp [i1])
  have lm:=hm _ (aE i1);have QJ:=s1.trans sc;refine ⟨_,rfl,_,rfl,r,l,xs,L,rfl,QJ _ _ ex,sc _ _ el,fun c hc=>by rw [lx,lm];exact hL c hc,by lia,fun b H' s' nb eb=>kc _ H' s' ⟨b,rfl,(fun e=>by rw [e,eD] at nb;cases nb),?_⟩⟩
  rw [getD_at i1];exact Oe eb lx (fun j v p h1 h2=>(fx j v p h1 h2).mono (QJ.trans s')) fun c hc=>by rw [lm];exact hL c hc
 intro lf ys H2 nlf s2 dM hP2 QK;have oS:=s1.trans s2;have jx:aT B H2 q lf (a7 L aa):=⟨ys,QK,by rw [dM,lv,fU],fun i v ps h1 h2=>by
  obtain ⟨x,e1,_,e3⟩:=hP2 i v h1;have i1:i<aa.length:=by rw [←fU (L:=L)];exact (aG.mp h2).1
  unfold a7 at h2;rw [bj,gu i1] at h2;cases h2;rw [getD_at i1] at e3;exact ⟨x,e1,e3⟩⟩
 dsimp only [aO];simp only [a8,a9];have lP:(a7 L aa).length=aa.length:=fU;refine ⟨_,rfl,_,rfl,lf,q,B,a7 L aa,L.length,rfl,jx,by lia,by lia,l8,by lia,fun cs H3 s3 ncs hC=>?_⟩
 have j_:=oS.trans s3;have lC:(bK L.length (a7 L aa)).length=L.length:=j7 _ _;have wC:∀ps∈bK L.length (a7 L aa),ps.length=aa.length:=fun ps hp=>by rw [z8 ps hp,lP]
 have eC:∀i,i<L.length→b5 q F ((bK L.length (a7 L aa)).getD i []):=fun i hi=>by
  have lm:L.getD i 0<m:=hL _ (by rw [getD_at hi];exact aE _)
  have e:(bK L.length (a7 L aa)).getD i []=(bK m aa).getD (L.getD i 0) []:=by
   rw [rz hi,rz lm];unfold a7;rw [y7];refine uX fun ps _=>?_;show (L.map fun c=>ps.getD c o1).getD i (0,1)=ps.getD (L.getD i 0) (0,1);rw [getD_at (by simpa using hi),i9,getD_at hi]
   rfl
  rw [e];have lm':L.getD i 0<(bK m aa).length:=by rw [j7];exact lm
  rw [getD_at lm'];exact hF _ (aE _)
 have rE:∀ps∈af,b5 q (aa.length*(cp aa.length*E' ^ aa.length)) ps:=fun ps hp=>by
  obtain ⟨j,hj,e⟩:=gQ.mp hp;have z:=dm.NQ hq (n:=0) R (fun ps h1 p h2=>(hR.nums hq ps h1 p h2).1) (j:=j) (by rw [←R.len];exact hj)
  rw [show (af.map fun ps=>ps.drop 0)=af by simp,getD_at hj,e] at z
  exact z
 have cE:∀ps∈bK m af,b5 q (aa.length*(cp aa.length*E' ^ aa.length)) ps:=fun ps hp=>by unfold bK at hp;obtain ⟨k',fJ,e⟩:=du.mp hp;rw [←e];exact R.NZ hq (fun ps h1 p h2=>(hR.nums hq ps h1 p h2).1) (e7.mp fJ)
 have EM:∀T F R' Jo,b6 q aa.length m (atT aa) T F→b6 q L.length m (atT af) R' Jo→∀t k,t<aa.length→k<m→Cg q (ai L.length fun j=>T t (L.getD j 0)*R' j k) (T t k*Jo):=fun T F R' Jo r1 r2 t k ht hk=>R.Oc hq rfl hm uh rq r1 r2 ht hk;by_cases r0:L.length=0
 ·have eL:L=[]:=i8.mp r0
  have ecs:H3 cs=some (.lst []):=by
   obtain ⟨ws,e,l',_⟩:=id hC;have ev:ws=[]:=i8.mp (by rw [l',lC];exact r0)
   rw [e,ev]
  refine .inr ⟨z,cs,rfl,ecs,fun p' r' l' H4 s4 qL QL qr=>?_⟩;refine ⟨p',_,_,_,rfl,rfl,.of qL,rfl,?_⟩;dsimp only [aO];simp only [a8,a9];have AB:=s3.trans s4;refine ⟨_,rfl,_,rfl,_,rfl,lf,l',ys,[],rfl,AB _ _ QK,qr,(fun i hi=>by cases hi),by decide,fun b H5 s5 nb eb=>?_⟩
  have yi:=AB.trans s5;have uw:=oS.trans yi;refine .inr ⟨z,b,q,rfl,hz.mono uw,hq,eb,fun bk H6 s6 nbk ebk=>?_⟩;have AD:=yi.trans s6;have oT:=oS.trans AD;dsimp only [aO];simp only [a8,a9];refine ⟨_,rfl,_,rfl,_,rfl,_,rfl,_,rfl,by show 5≤sizeLine;decide,fun pt Jp=>?_⟩
  have sp:=b_ (o:=.tup [.ref lf,.ref rr,.ref l',.ref l,.ref bk]) Jp;have ux:=AD.trans sp;refine k pt lf rr l' l bk L [] af [] _ (oT.trans sp) aM (ux _ _ (s2 _ _ el)) (sp _ _ (s6 _ _ (s5 _ _ qr))) (jx.mono ux) (hR.mono (s2.trans ux)) ⟨[],sp _ _ ebk,rfl,fun i v ps h=>by simp at h⟩ LP lL (by rw [r0];rfl) List.Pairwise.nil (fun d hd=>by cases hd) R.len R.g_ (by rw [r0];rfl) (fun ps hp=>by cases hp) EM (fun ne=>absurd r0 ne) rE (fun ps hp=>by cases hp) cE (fun ps hp=>by rw [r0] at hp;cases hp)
 ·refine .inl ⟨z,cs,q,B,F ^ L.length,aa.length,bK L.length (a7 L aa),fun _=>F,rfl,hz.mono j_,hq,hC,B1,B2,by lia,by lia,wC,by lia,fun i hi=>eC i (by lia),fun _=>⟨F1,F2⟩,by rw [lC];exact jy (C2 _ _),by rw [lC];exact Az _ Lm,fun p' r' l' H4 A2 M2 c2 D HH vN s4 qL qr EN R2=>?_⟩
  have oH:∀ps∈bK L.length (a7 L aa),∀p∈ps,aH q p.2:=fun ps h1 p h2=>(hC.nums hq ps h1 p h2).2.1;have HI:∀ps∈vN,∀p∈ps,aH q p.2:=fun ps h1 p h2=>(EN.nums hq ps h1 p h2).2.1;have dl:=R.Od hq R2 rfl hm uh oH rT;have hD:∀d∈D,d<aa.length:=R2.red.rd.lt;have r2:=EN.rep hq R2.len R2.g_;refine ⟨p',_,_,_,rfl,rfl,.of qL,rfl,?_⟩;dsimp only [aO];simp only [a8,a9];have AB:=s3.trans s4;obtain ⟨ye,aas,Jq,fys⟩:=id jx;refine ⟨_,rfl,_,rfl,_,rfl,lf,l',ye,D,rfl,AB _ _ aas,qr,(fun i hi=>by rw [Jq,lP];exact hD i hi),by lia,fun b H5 s5 nb eb=>?_⟩
  have yi:=AB.trans s5;have uw:=oS.trans yi;have hS:aT B H5 q b (cR D (a7 L aa)):=Yf eb Jq (fun i v ps h1 h2=>by obtain ⟨r,e,h⟩:=fys i v ps h1 h2;exact ⟨r,e,h.mono yi⟩) fun i hi=>by rw [lP];exact hD i hi
  have lS:(cR D (a7 L aa)).length=L.length:=by rw [rD,dl]
  have wS:∀ps∈cR D (a7 L aa),ps.length=L.length:=CZ l8 fun i hi=>by rw [lP];exact hD i hi
  refine .inl ⟨z,b,q,B,L.length,cR D (a7 L aa),rfl,hz.mono uw,hq,hS,QI,B2,by lia,by lia,wS,fun ne=>absurd lS.symm ne,fun _=>⟨E' ^ L.length,fun _=>E',fun i hi=>?_,fun _=>⟨E1,E2⟩,by rw [lS];exact jy (C2 _ _),by rw [lS];exact uv _ Lm,fun q_=>(R.Ya hq R2 rfl hm uh oH HI rT r2 q_).elim,fun bk H6 cZ s6 hFs AE wfs inv fE fC=>?_⟩⟩
  ·have i1:i<D.length:=by lia
   have d1:D.getD i 0<aa.length:=hD _ (by rw [getD_at i1];exact aE _)
   rw [CW i1,vM d1];refine Of ?_ fun c hc=>?_;·rw [getD_at d1];exact hE _ (aE _)
   ·rw [getD_at d1,hm _ (aE _)];exact hL c hc
  ·have AD:=yi.trans s6
   have oT:=oS.trans AD;dsimp only [aO];simp only [a8,a9];refine ⟨_,rfl,_,rfl,_,rfl,_,rfl,_,rfl,by show 5≤sizeLine;decide,fun pt Jp=>?_⟩
   have sp:=b_ (o:=.tup [.ref lf,.ref rr,.ref l',.ref l,.ref bk]) Jp;have ux:=AD.trans sp;have hFb:aT (L.length*(cp L.length*E' ^ L.length)) H6 q bk cZ:=by obtain ⟨ws,e1,e2,e3,e4⟩:=hFs;exact ⟨ws,e1,e2,fun i v ps h1 h2=>by obtain ⟨x,f1,_,_,f4⟩:=e4 i v ps h1 h2;exact ⟨x,f1,f4⟩⟩
   refine k pt lf rr l' l bk L D af cZ _ (oT.trans sp) aM (ux _ _ (s2 _ _ el)) (sp _ _ (s6 _ _ (s5 _ _ qr))) (jx.mono ux) (hR.mono (s2.trans ux)) (hFb.mono sp) LP lL dl R2.red.rd.up hD R.len R.g_ AE wfs EM (fun _=>inv) rE (fun ps hp=>?_) cE (fun ps hp=>by unfold bK at hp;obtain ⟨k',fJ,e⟩:=du.mp hp;rw [←e];exact fC k' (e7.mp fJ))
   obtain ⟨j,hj,e⟩:=gQ.mp hp;have z:=fE j (by lia)
   rw [getD_at hj,e] at z;exact z
theorem aax:br ["world","left","right","wide"] ["world","left","right","wide"] (aQ DK):=bJ
theorem aay(T:Txt K mg t):aK P w K mg base bO 7 t.sQ t.wF ["world","left","right","wide"] (Yj t.cb):=by
 have S:=aax;refine T.xF.cC S (fun _ _ _ _ H vs _ _ hr h=>?_);obtain ⟨z,a,o,q,Ba,Bo,E',F,r,m,aa,af,rfl,hz,hq,hA,hO,a1,a2,l6,o2,E2,F2,EF,eO,oU,j9,lr,wr,hp,hc,k⟩:=h;refine ⟨_,(aw (aN (aA (QB T) hr T.H_ T.tX.kp T.HZ aP (ae (pv 0) (ae (pv 1) (ae (d4 (N:=["place","right"]) (ρ:=(fun σ=>[σ[2]?.join])) (dk [2] rfl) rfl (gG rfl T.fe (ae (pv 3) ah)) (fun _ _ _=>.nil) (fun _ _ _=>(aA (IW T) hr T.Er T.qh.kp T.Ep aP (ae (pv 1) (ae (pv 0) ah))))) ah)))))),?_⟩;refine ⟨_,rfl,_,rfl,eB (xs:=(List.range m).map fun i:Nat=>V.int (0+(i:Int))) (fun R h=>⟨_,rfl,(m:Int),rfl,by lia,by lia,h _ _ (ag.refl _) (by rw [eR];exact lM)⟩) (by rw [aY,fH];exact cT (by lia)) (fun D i y Hx=>∃r,y=.ref r∧r≠D∧bC Bo Hx q r (af.map fun ps:List (Int×Int)=>ps.getD i ((0:Int),(1:Int)))) (fun D i y Ha Hb ys ⟨r,h1,h2,vs,e1,e2,e3⟩ e f=>⟨r,h1,h2,vs,f _ _ h2 e1,e2,fun j v p x y=>(e3 j v p x y).bu e f⟩) ?_ ?_⟩
 ·intro D i v hi Hc R sc ⟨zs,eD⟩ kc
  obtain ⟨aR,rfl⟩:=oy hi;exact ⟨_,rfl,_,rfl,o,q,Bo,i,af,m,rfl,hO.mono sc,oU,wr,aR,fun b H' s' nb hb=>kc _ H' s' ⟨b,rfl,fun z=>by (rw [z,eD] at nb;cases nb),hb⟩⟩
 ·intro D ys Hc nD sc eP hP eD
  rw [aY,fH] at eP;have hC:aT Bo Hc q D (bK m af):=⟨ys,eD,by rw [eP,j7],fun i v ps h1 h2=>by
   obtain ⟨r,e1,_,e3⟩:=hP i v h1;have aR:i<m:=by rw [←j7 m af];exact (aG.mp h2).1
   unfold bK at h2;rw [bj] at h2;simp [aR] at h2;subst h2;exact ⟨r,e1,e3⟩⟩
  refine ⟨z,a,D,q,Ba,Bo,E',F,aa,bK m af,rfl,hz.mono sc,hq,hA.mono sc,hC,a1,a2,l6,o2,E2,F2,EF,eO,by rw [j7];exact j9,fun ps h=>⟨by rw [(hp ps h).1];lia,(hp ps h).2⟩,fun ps h=>⟨by rw [z8 ps h];exact oU,hc ps h⟩,fun b H' vs s' nb eb lb hb=>k b H' vs (sc.trans s') (none_of sc nb) eb lb fun i v ps h1 h2=>?_⟩
  obtain ⟨r',e1,e2,e3⟩:=hb i v ps h1 h2;exact ⟨r',e1,none_of sc e2,e3⟩
theorem aaz:br ["things"] ["things"] (aQ DG):=bJ
theorem aaA(T:Txt K mg t):aK P w K mg base bO 1 t.sM t.wz ["things"] Yh:=by
 have S:=aaz;refine T.xD.cC S (fun _ _ _ _ H _ _ _ hr h=>?_);obtain ⟨l,L,rfl,el,Jn,up,k⟩:=h;refine ⟨_,(aw (aN (bU (zx (K:=K) rfl) rfl T.x_ boot_all (ae (oo (N:=["one","other"]) (ρ:=(fun σ=>[])) (mR [] rfl) rfl (lT rfl T.kO (ae (pv 0) (ae (B7 F9 (pv 0) (B6 ao) B5) ah))) (fun _ _ _=>.nil) (fun _ _ _=>(gU jN (pv 0) (pv 1)))) ah)))),?_⟩;refine fO (q5 (vA (Z:=fun zs _=>zs=(aZ L).zip ((aZ L).drop 1)) (fun R h=>⟨_,rfl,_,rfl,_,rfl,l,aZ L,rfl,.of el,fun r nr=>by
  have ec:jQ (aZ L) (some (1:Int)) none=(aZ L).drop 1∨L=[]:=by
   by_cases y:L=[];·exact .inr y
   ·have:0<L.length:=List.length_pos_iff.mpr y
    exact .inl (NR _ 1 (by rw [fF];lia))
  have ec:jQ (aZ L) (some (1:Int)) none=(aZ L).drop 1:=ec.elim id fun y=>by subst y;rfl
  rw [ec];have sr:ag H (upd H r (.lst ((aZ L).drop 1))):=b_ nr;exact ⟨l,r,rfl,⟨_,.of (sr _ _ el)⟩,⟨_,.of aM⟩,h _ _ _ sr (lV (.of (sr _ _ el)) (.of aM)) (cT (by rw [ko,fF];lia)) rfl⟩⟩) (fun _ _ y _=>y=.bl true) (fun _ _ _ _ _ _ h _ _=>h) ?_ ?_))
 ·rintro zs H1 rfl s1 D j x y gi Hc R sc _ kc
  obtain ⟨h1,h2⟩:=mh.mp gi;have j2:1+j<L.length:=by have:=(aG.mp h2).1;simp [aZ] at this;lia
  have j1:j<L.length:=by lia
  have ex:x=.int ((L.getD j 0:Nat):Int):=by unfold aZ at h1;rw [bj,bj] at h1;simp [j1] at h1;rw [getD_at j1];exact h1.symm
  have ey:y=.int ((L.getD (1+j) 0:Nat):Int):=by unfold aZ at h2;rw [uW,bj,bj] at h2;simp [j2] at h2;rw [getD_at j2];exact h2.symm
  subst ex ey;have lt:L.getD j 0<L.getD (1+j) 0:=by rw [getD_at j1,getD_at j2];exact BH.mp up j (1+j) j1 j2 (by lia)
  refine ⟨_,rfl,_,rfl,_,_,rfl,rfl,?_⟩;dsimp only;rw [dr (by lia)]
  exact kc _ Hc (ag.refl _) rfl
 ·rintro zs H1 rfl s1 D ys Hc nD sc eP hP eD
  refine ⟨D,List.replicate ys.length true,rfl,.of (by rw [eD];exact fK _ (fK _ (zN hP))),?_⟩
  rw [CD];exact k Hc (s1.trans sc)
theorem aaB:br ["places","many","bound"] ["places","many","bound"] (aQ DL):=bJ
theorem QM(T:Txt K mg t):aK P w K mg base bO 2 t.sR t.wG ["places","many","bound"] Yi:=by
 have S:=aaB;refine T.t9.cC S (fun _ _ _ _ H _ _ _ hr h=>?_);obtain ⟨l,L,n,b,rfl,el,lL,eO,up,hL,k⟩:=h;refine ⟨_,(aw (aN (ky (gU gc (bU dI rfl T.de dh (ae (pv 0) ah)) (pv 1)) (ky (aA (aaA T) hr T.O7 T.xD.kp T.O6 aP (ae (pv 0) ah)) (mJ (bU (zx (K:=K) rfl) rfl T.x_ boot_all (ae (d4 (N:=["place","bound"]) (ρ:=(fun σ=>[σ[2]?.join])) (dk [2] rfl) rfl (dH (pv 0)) (fun _ _ _=>.nil) (fun _ _ _=>(FY zh jN ao (pv 0) (pv 1)))) ah))))))),?_⟩;refine ⟨_,rfl,l,aZ L,rfl,.inl (.of el),_,rfl,rfl,true,by rw [jj,dr (by rw [fF];lia)],gd ?_⟩
 refine ⟨_,rfl,l,L,rfl,el,by lia,up,fun H1 s1=>⟨true,rfl,gd ?_⟩⟩
 refine q5 (Ct (xs:=aZ L) (fun R h=>⟨_,rfl,l,rfl,⟨_,.of (s1 _ _ el)⟩,h _ _ (ag.refl _) (eK (.of (s1 _ _ el)))⟩) (by rw [fF];exact cT (by lia)) (fun _ i y _=>y=.bl true) (fun _ _ _ _ _ _ h _ _=>h) ?_ ?_)
 ·intro D i v hi Hc R sc _ kc
  have i1:i<L.length:=by rw [←fF];exact (aG.mp hi).1
  have ev:v=.int ((L[i]:Nat):Int):=by unfold aZ at hi;rw [bj,bj] at hi;simp [i1] at hi;exact hi.symm
  subst ev;have lb:=hL _ (aE i1);refine ⟨_,rfl,_,_,rfl,rfl,true,by (dsimp only;rw [dr (by lia)]),gd ?_⟩
  refine ⟨_,rfl,_,_,rfl,rfl,?_⟩;dsimp only;rw [dr (by lia)]
  exact kc _ Hc (ag.refl _) rfl
 ·intro D ys Hc sc eP hP eD
  refine ⟨D,List.replicate ys.length true,rfl,.of (by rw [eD];exact fK _ (fK _ (zN hP))),?_⟩
  rw [CD];exact k Hc (s1.trans sc)
theorem aaC(T:Txt K mg t):aK P w K mg base bO 2 t.qa t.sh ["table"] Yk:=by
 have S:=Qp;refine T.qi.cC S (fun _ _ _ _ H _ _ _ hr h=>?_);obtain ⟨a,rfl,ea,k⟩:=h;refine ⟨_,(aw (aN (d4 (N:=["place","table"]) (ρ:=(fun σ=>[σ[0]?.join])) (dk [0] rfl) rfl (gG rfl T.fe (ae (aA (EL T) hr T.ma T.iO.kp T.l_ ig (ae (pv 0) ah)) ah)) (fun _ _ _=>.nil) (fun _ _ _=>(aA (IW T) hr T.Er T.qh.kp T.Ep aP (ae (pv 1) (ae (pv 0) ah))))))),?_⟩;refine fO (eB (xs:=[]) (fun R h=>⟨_,rfl,a,rfl,ea,(0:Int),rfl,by decide,by decide,h _ _ (ag.refl _) (lM (n:=0))⟩) (by decide) (fun _ _ _ _=>True) (fun _ _ _ _ _ _ _ _ _=>trivial) (fun D i v hi=>by simp at hi) ?_)
 intro D ys Hc nD sc eP _ eD;have ey:ys=[]:=i8.mp eP;subst ey;exact k D Hc sc nD eD
theorem aaD:br ["world","one","other"] ["world","one","other"] (aQ Dk):=bJ
theorem aaE(T:Txt K mg t):aK P w K mg base (et P w) 7 t.sq t.vX ["world","one","other"] (Yl t.cb):=by
 have S:=aaD;have aaF:=My.aK.or (uk (P:=P) (w:=w) (base:=base) T) (EL (P:=P) (w:=w) (base:=base) T);have aaG:=My.aK.or (Qq (P:=P) (w:=w) (base:=base) T) (aaC (P:=P) (w:=w) (base:=base) T);refine T.xv.dS S (fun _ _ _ _ H vs Q _ hr h L=>?_);obtain ⟨z,a,o,q,Ba,Bo,E',F,r,aa,af,rfl,hz,hq,hA,hO,a1,a2,l6,o2,E2,F2,EF,oU,lp,lr,hp,wr,hc,k⟩:=h
 refine ⟨_,(aq (cH (cI je (aA aaF hr T.ma T.iO.kp T.l_ (iX L) (ae (pv 1) ah)) (bU dI rfl T.de dh (ae (pv 2) ah))) (aw (n9 L rfl nK T.ug rfl T.ue (ae jJ ah))) cN)
  (aw (aN (aA (QB T) hr T.H_ T.tX.kp T.HZ aP (ae (pv 0) (ae (pv 1) (ae (aA aaG hr T.HY T.qi.kp T.HX aP (ae (pv 2) ah)) ah))))))),?_⟩
 obtain ⟨va,ea,QN,fva⟩:=id hA;obtain ⟨vo,eo,lvo,fvo⟩:=id hO;have rest:∀(H1:Hp),ag H H1→∀(c:Addr) (H2:Hp),ag H1 H2→aT Bo H2 q c (bK r af)→N7 t.cb [.ref z,.ref a,.ref c] H2 Q E0:=fun H1 s1 c H2 s2 hC=>by
  have gB:=s1.trans s2;refine ⟨z,a,c,q,Ba,Bo,E',F,aa,bK r af,rfl,hz.mono gB,hq,hA.mono gB,hC,a1,a2,l6,o2,E2,F2,EF,by lia,by rw [j7];exact oU,fun ps h=>⟨by rw [(hp ps h).1];lia,(hp ps h).2⟩,fun ps h=>⟨by rw [z8 ps h,lr];exact oU,hc ps h⟩,fun b H' vs s' nb eb lb hb=>k b H' vs (gB.trans s') (none_of gB nb) eb lb fun i v ps h1 h2=>?_⟩
  obtain ⟨r',e1,e2,e3⟩:=hb i v ps h1 h2;exact ⟨r',e1,none_of gB e2,e3⟩
 by_cases r0:r=0
 ·subst r0
  have ev:va=[]:=i8.mp (by lia)
  have ew:vo=[]:=i8.mp (by lia)
  subst ev ew;refine ⟨_,rfl,.inr ⟨a,rfl,ea,_,rfl,o,[],rfl,.inl (.of eo),rfl,false,rfl,eG ?_⟩⟩;dsimp only [iE];refine ⟨_,rfl,_,rfl,_,rfl,.inr ⟨o,rfl,eo,fun c H2 s2 nc ec=>?_⟩⟩;exact rest H (ag.refl H) c H2 s2 ⟨[],ec,rfl,fun i v ps h=>by simp at h⟩
 ·have f1:(!decide (V.int (r:Int)=V.int (vo.length:Int)))=false:=by rw [jj,dr (by lia)];rfl
  refine ⟨_,rfl,.inl ⟨a,q,Ba,aa,r,rfl,hA,by lia,by lia,fun ps h=>(hp ps h).1,fun H1 s1=>⟨_,rfl,o,vo,rfl,.inl (.of (s1 _ _ eo)),rfl,false,by rw [f1],eG ?_⟩⟩⟩
  dsimp only [iE];refine ⟨_,rfl,_,rfl,_,rfl,.inl ⟨o,q,Bo,af,r,rfl,hO.mono s1,by lia,by lia,wr,oU,fun c H2 s2 nc hC=>?_⟩⟩
  exact rest H1 s1 c H2 s2 hC
theorem aaH:br ["world","table","paper","left","right","back","wide","many","inner"] ["world","table","paper"] (aQ DM):=bJ
theorem aaI(T:Txt K mg t):aK P w K mg base bO 8 t.sS t.wH ["world","table","paper"] (Ym t.cb t.iB):=by
 have S:=aaH;refine T.xG.cC S (fun _ _ _ _ H vs _ _ hr h=>?_);obtain ⟨z,a,p,lf,rt,dn,ac,bk,q,B,Bx,By,E',Fx,Fy,m,aa,af,cZ,L,D,rfl,hz,hq,hA,ep,uy,qs,jx,hR,hF,B1,B2,x1,x2,y1,y2,E2,Fx2,Fy2,xE,yE,n1,n30,hm,m30,hE,LP,Ln,dl,Dup,hD,lr,wr,AE,wf,EM,inv,cx,cy,k⟩:=h;have jv:=hr.units
 refine ⟨_,(aq (putL 3 S.nd (aC cz (pv 2) ao))
  (aq (putL 4 S.nd (aC cz (pv 2) ao))
  (aq (putL 5 S.nd (aC cz (pv 2) ao))
  (aq (putL 6 S.nd (aA (uk T) hr T.ma T.iO.kp T.l_ ig (ae (pv 1) ah)))
  (aq (putL 7 S.nd (bU dI rfl T.de dh (ae (pv 4) ah)))
  (aq (cH (PW.pt (pw_or (mI (jb (aA (Jk T) hr T.Eo T.qg.kp T.En aP (ae (pv 3) (ae (bU dI rfl T.de dh (ae (pv 1) ah)) (ae (pv 7) ah)))))) (pw_or (mI (jb (aA (Jk T) hr T.Eo T.qg.kp T.En aP (ae (pv 4) (ae (pv 7) (ae (pv 6) ah)))))) (pw_or1 (mI (jb (aA (Jk T) hr T.Eo T.qg.kp T.En aP (ae (pv 5) (ae (pv 7) (ae (pv 7) ah)))))))))) (aw (aN mG)) cN)
  (aq (cH (PW.pt (pw_or (mI (jb (aA (QM T) hr T.Iu T.t9.kp T.Ir aP (ae (aC cz (pv 2) ao) (ae (pv 7) (ae (bU dI rfl T.de dh (ae (pv 1) ah)) ah)))))) (pw_or1 (mI (jb (aA (QM T) hr T.Iu T.t9.kp T.Ir aP (ae (aC cz (pv 2) ao) (ae (pv 7) (ae (pv 6) ah))))))))) (aw (aN mG)) cN)
  (aq (qX (i0:=8) (N:=["place","table","paper"]) (ρ:=(fun σ=>[σ[1]?.join,σ[2]?.join])) (dk [1,2] rfl) rfl S.nd rfl (Or.inl rfl) (dH (aC cz (pv 2) ao)) (fun _ _ _=>.nil) (fun _ _ _=>(aA (Jm T) hr T.Ey T.qm.kp T.Ex aP (ae (aC (iy (K:=K)) (pv 1) (pv 0)) (ae (aC (qZ (K:=K)) (pv 2) ao) ah)))))
  (aw (aN (ky (gU (GI (n:=2) jv) (aA (aay T) hr T.O9 T.xF.kp T.O8 aP (ae (pv 0) (ae (pv 3) (ae (pv 4) (ae (pv 6) ah))))) (pv 1)) (mJ (gU (GI (n:=2) jv) (aA (aaE T) hr T.OX T.xv.kp T.OW ig (ae (pv 0) (ae (pv 8) (ae (pv 5) ah)))) (aA (IV T) hr T.Et T.qj.kp T.Es aP (ae (pv 0) (ae (pv 7) ah)))))))))))))))),?_⟩
 have hL:=LP.2.1;have Lm:L.length≤m:=by have:=HB LP.1 hL;lia
 have lP:(a7 L aa).length=aa.length:=fU;obtain ⟨va,ea,QN,hva⟩:=hA.has hm;obtain ⟨vl,el,lvl,hvl⟩:=jx.has l8;obtain ⟨vr,er,lvr,hvr⟩:=hR.has wr;obtain ⟨vb,eb,lvb,hvb⟩:=hF.has wf;refine ⟨_,rfl,p,_,_,_,rfl,rfl,.of ep,rfl,?_⟩;dsimp only [aO];simp only [L2.start,dN,ku,iP,jE,List.replicate,kv,jC,a8,a9];refine ⟨_,rfl,p,_,_,_,rfl,rfl,.of ep,rfl,?_⟩;dsimp only [aO];simp only [a8,a9];refine ⟨_,rfl,p,_,_,_,rfl,rfl,.of ep,rfl,?_⟩;dsimp only [aO];simp only [a8,a9];refine ⟨_,rfl,a,q,B,aa,m,rfl,hA,n1,by lia,hm,fun H1 s1=>?_⟩
 dsimp only [aO];simp only [a8,a9];refine ⟨_,rfl,rt,vr,rfl,.inl (.of (s1 _ _ er)),?_⟩;rw [show ((vr.length:Nat):Int)=(L.length:Int) by lia]
 dsimp only [aO];simp only [a8,a9];have up:∀{H':Hp} (s':ag H H') {xs:List V} {w:Nat},(∀v∈xs,∃(r:Addr) (us:List V),v=.ref r∧H r=some (.lst us)∧us.length=w)→∀v∈xs,∃(r:Addr) (us:List V),v=.ref r∧H' r=some (.lst us)∧us.length=w:=fun{H'} s' {xs} {w} h v hv=>by obtain ⟨r,us,e1,e2,e3⟩:=h v hv;exact ⟨r,us,e1,s' _ _ e2,e3⟩
 refine ⟨_,rfl,_,rfl,a,va,rfl,.inl (.of (s1 _ _ ea)),_,rfl,lf,va.length,L.length,vl,rfl,s1 _ _ el,by lia,by lia,up s1 hvl,fun H2 s2=>⟨true,rfl,eG ?_⟩⟩
 have oS:=s1.trans s2;refine ⟨_,rfl,_,rfl,_,rfl,rt,L.length,m,vr,rfl,oS _ _ er,by lia,by lia,up oS hvr,fun H3 s3=>⟨true,rfl,eG ?_⟩⟩
 have j_:=oS.trans s3;refine ⟨_,rfl,_,rfl,_,rfl,bk,L.length,L.length,vb,rfl,j_ _ _ eb,by lia,by lia,up j_ hvb,fun H4 s4=>⟨true,rfl,eG ?_⟩⟩
 have EO:=j_.trans s4;dsimp only [iE];refine ⟨_,rfl,p,_,_,_,rfl,rfl,.of (EO _ _ ep),rfl,_,rfl,_,rfl,a,va,rfl,.inl (.of (EO _ _ ea)),dn,D,L.length,va.length,rfl,EO _ _ qs,dl,by lia,Dup,fun i hi=>by rw [QN];exact hD i hi,fun H5 s5=>⟨true,rfl,eG ?_⟩⟩
 have uw:=EO.trans s5;refine ⟨_,rfl,p,_,_,_,rfl,rfl,.of (uw _ _ ep),rfl,_,rfl,_,rfl,ac,L,L.length,m,rfl,uw _ _ uy,rfl,by lia,LP.1,hL,fun H6 s6=>⟨true,rfl,eG ?_⟩⟩
 have oT:=uw.trans s6;dsimp only [iE];have rT:=hA.rep hq rfl hm;have uh:∀ps∈aa,∀p∈ps,aH q p.2:=fun ps h1 p h2=>(hA.nums hq ps h1 p h2).2.1;obtain ⟨wa,qt,lwa,fa⟩:=id hA;have pE:∀ps∈a7 L aa,ps.length=L.length∧b5 q E' ps:=fun ps hp=>by refine ⟨l8 ps hp,?_⟩;unfold a7 at hp;obtain ⟨rs,h1,e⟩:=du.mp hp;rw [←e];exact Of (hE rs h1) fun c hc=>by rw [hm rs h1];exact hL c hc
 refine gY (iK (eB (xs:=aZ D) (fun R h=>⟨_,rfl,p,_,_,_,rfl,rfl,.of (oT _ _ ep),rfl,dn,rfl,⟨_,.of (oT _ _ qs)⟩,h _ _ (ag.refl _) (eK (.of (oT _ _ qs)))⟩) (by rw [fF];exact cT (by lia)) (fun D' i y Hx=>∃x:Addr,y=.ref x∧x≠D'∧bC B Hx q x ((cR D (a7 L aa)).getD i [])) (fun D' i y Ha Hb ys ⟨x,h1,h2,ws,e1,e2,e3⟩ e f=>⟨x,h1,h2,ws,f _ _ h2 e1,e2,fun j v p x y=>(e3 j v p x y).bu e f⟩) ?_ ?_))
 ·intro D' i v hi Hc R sc ⟨zs,i3⟩ kc
  have i1:i<D.length:=by rw [←fF];exact (aG.mp hi).1
  have ev:v=.int ((D.getD i 0:Nat):Int):=by unfold aZ at hi;rw [bj,bj] at hi;simp [i1] at hi;rw [getD_at i1];exact hi.symm
  subst ev;have di:D.getD i 0<aa.length:=hD _ (by rw [getD_at i1];exact aE _)
  have QO:D.getD i 0<wa.length:=by lia
  obtain ⟨r,QL,us,eu,lu,fu⟩:=fa (D.getD i 0) wa[D.getD i 0] aa[D.getD i 0] (gu QO) (gu di);have AF:=oT.trans sc;have lm:=hm _ (aE di);refine ⟨_,rfl,_,rfl,a,wa,_,_,rfl,rfl,.of (AF _ _ qt),dA (j:=D.getD i 0) (gu QO),_,rfl,p,_,_,_,rfl,rfl,.of (AF _ _ ep),rfl,?_⟩;rw [QL];refine ⟨r,ac,us,L,rfl,AF _ _ eu,AF _ _ uy,fun c hc=>by rw [lu,lm];exact hL c hc,by lia,fun b H' s' nb yj=>kc _ H' s' ⟨b,rfl,(fun e=>by rw [e,i3] at nb;cases nb),?_⟩⟩
  rw [CW i1,vM di];refine Oe yj (by rw [getD_at di];exact lu) (fun j v p h1 h2=>(fu j v p h1 (by rw [getD_at di] at h2;exact h2)).mono (AF.trans s')) fun c hc=>by rw [getD_at di,lm];exact hL c hc
 intro ir ys H7 nir s7 dM Jf eir;rw [fF] at dM;have ER:=oT.trans s7;have hI:aT B H7 q ir (cR D (a7 L aa)):=⟨ys,eir,by rw [dM,rD],fun i v ps h1 h2=>by obtain ⟨x,e1,_,e3⟩:=Jf i v h1;have i2:i<(cR D (a7 L aa)).length:=(aG.mp h2).1;rw [gu i2] at h2;cases h2;rw [getD_at i2] at e3;exact ⟨x,e1,e3⟩⟩
 dsimp only [aO];simp only [a8,a9];have rR:=hR.rep hq lr wr;refine ⟨_,rfl,_,rfl,_,rfl,_,rfl,z,lf,rt,q,B,Bx,E',Fx,L.length,m,a7 L aa,af,rfl,hz.mono ER,hq,jx.mono ER,hR.mono ER,B1,B2,x1,x2,E2,Fx2,xE,by lia,by lia,by lia,lr,wr,pE,cx,fun b H8 vs s8 nb yj lb hb=>?_⟩
 have yk:=ER.trans s8;refine ⟨_,rfl,b,a,vs,wa,rfl,rfl,.of yj,.of (yk _ _ qt),by lia,fun j x y h1 h2=>?_,true,rfl,gd ?_⟩
 ·have j1:j<vs.length:=(aG.mp h1).1
  have j2:j<aa.length:=by lia
  have j3:j<(a7 L aa).length:=by lia
  obtain ⟨r',rfl,_,ws,ew,lw,fw⟩:=hb j x (a7 L aa)[j] h1 (gu j3);obtain ⟨ra,rfl,us,eu,lu,fu⟩:=fa j y aa[j] h2 (gu j2);rw [aY,j7] at lw;have lm:=hm _ (aE j2);have f1:fR H8 q r' m (fun c=>atT aa j c):=⟨ws,ew,lw,fun c w hw=>by
   have c1:c<ws.length:=(aG.mp hw).1;have c2:c<(bK m af).length:=by rw [j7];lia
   have z:=fw c w _ hw (by rw [bj,gu c2];rfl)
   have w2:=Og hq hm hL lr wr rT rR EM j2 (show c<m by lia)
   rw [getD_at c2,getD_at j3] at w2;obtain ⟨ps,p1,p2⟩:=rg rfl hm j2 (show c<m by lia)
   exact z.CG w2 (uh ps p1 _ p2)⟩
  have f2:fR H8 q ra m (fun c=>atT aa j c):=⟨us,yk _ _ eu,by lia,fun c w hw=>by
   have c1:c<us.length:=(aG.mp hw).1;have c2:c<aa[j].length:=by lia
   have z:=(fu c w aa[j][c] hw (gu c2)).vk hq;have e:atT aa j c=aa[j][c]:=by unfold atT;rw [getD_at j2,getD_at c2]
   dsimp only;rw [e];exact z.mono yk⟩
  exact Nh f1 f2 0
 ·have hI8:=hI.mono s8
  have lS:(cR D (a7 L aa)).length=L.length:=by rw [rD,dl]
  have wS:∀ps∈cR D (a7 L aa),ps.length=L.length:=CZ l8 fun i hi=>by rw [lP];exact hD i hi
  have pS:∀ps∈cR D (a7 L aa),ps.length=L.length∧b5 q E' ps:=fun ps hp=>by
   refine ⟨wS ps hp,?_⟩;unfold cR at hp;obtain ⟨d,hd,e⟩:=du.mp hp;have d1:d<(a7 L aa).length:=by rw [lP];exact hD d hd
   rw [←e,getD_at d1];exact (pE _ (aE _)).2
  refine ⟨_,rfl,_,rfl,_,rfl,z,ir,bk,q,B,By,E',Fy,L.length,cR D (a7 L aa),cZ,rfl,hz.mono yk,hq,hI8,hF.mono yk,B1,B2,y1,y2,E2,Fy2,yE,by lia,lS,AE,pS,wf,cy,fun b2 H9 ws s9 nb2 EG lb2 oH=>?_⟩
  have QP:=yk.trans s9;refine ⟨_,rfl,_,rfl,z,q,L.length,rfl,hz.mono QP,hq,by lia,fun ot m6 kW not hOt=>?_⟩
  obtain ⟨vo,eo,lo,fo⟩:=hOt;rw [aY,fH] at lo;have aaT:=QP.trans kW;refine ⟨b2,ot,ws,vo,rfl,rfl,.of (kW _ _ EG),.of eo,by lia,fun j x y h1 h2=>?_,k m6 aaT⟩
  have j1:j<ws.length:=(aG.mp h1).1;have j2:j<L.length:=by lia
  have j3:j<(cR D (a7 L aa)).length:=by lia
  obtain ⟨r',rfl,_,us,eu,lu,fu⟩:=oH j x (cR D (a7 L aa))[j] h1 (gu j3);obtain ⟨ro,rfl,yd,eu',QQ,fu'⟩:=fo j y (gZ L.length j) h2 (by simp [j2])
  rw [aY,j7] at lu;rw [vz] at QQ;have f1:fR m6 q r' L.length (fun c=>if j=c then ((1:Int),(1:Int)) else (0,1)):=⟨us,kW _ _ eu,lu,fun c w hw=>by
   have c1:c<us.length:=(aG.mp hw).1;have c2:c<(bK L.length cZ).length:=by rw [j7];lia
   have z:=fu c w _ hw (by rw [bj,gu c2];rfl)
   have w2:=Oh hq lS wS AE (hI.rep hq lS wS) (hF.rep hq AE wf) (inv (by lia)) j2 (show c<L.length by lia)
   rw [getD_at c2,getD_at j3] at w2;have bo:aH q (if j=c then ((1:Int),(1:Int)) else (0,1)).2:=by
    by_cases y:j=c;·rw [ak y];exact aH.one
    ·rw [aj y];exact aH.one
   exact (z.CG w2 bo).mono kW⟩
  have f2:fR m6 q ro L.length (fun c=>if j=c then ((1:Int),(1:Int)) else (0,1)):=⟨yd,eu',QQ,fun c w hw=>by
   have c1:c<yd.length:=(aG.mp hw).1;have c2:c<(gZ L.length j).length:=by rw [vz];lia
   have z:=(fu' c w (gZ L.length j)[c] hw (gu c2)).vk hq;have e:=CH (n:=L.length) (i:=j) (j:=c) (by lia)
   rw [getD_at c2] at e;rw [e] at z;dsimp only at z ⊢;by_cases y:j=c
   ·rw [ak y]
    rw [ak y.symm] at z;exact z
   ·rw [aj y]
    rw [aj (fun e=>y e.symm)] at z;exact z⟩
  exact Nh f1 f2 0
def aaW(N:Addr):Sp:=fun vs H Q E=>∃(a b:Addr) (q:Int) (B:Nat) (aa af:aD) (m u:Nat),vs=[.ref a,.ref b]∧aT B H q a aa∧aT B H q b af∧1≤aa.length∧aa.length≤40∧1≤af.length∧af.length≤40∧(∀ps∈aa,ps.length=m)∧(∀ps∈af,ps.length=u)∧m≤40∧u≤40 ∧
 (40<aa.length*af.length∨40<m*u→∀H',ag H H'→E (.ref N) none H')∧(aa.length*af.length≤40→m*u≤40→∀H',ag H H'→Q .aV H')
theorem aaX:br ["one","other"] ["one","other"] (aQ DN):=bJ
theorem aaY(T:Txt K mg t):aK P w K mg base (et P w) 2 t.sU t.wI ["one","other"] (aaW t.iB):=by
 have S:=aaX;obtain ⟨uM,hM,rM⟩:=T.P7;refine T.xH.dS S (fun _ _ _ _ H vs _ _ hr h L=>?_);obtain ⟨a,b,q,B,aa,af,m,u,rfl,hA,hB,n1,eO,k1,uz,hm,hu,j9,uo,kE,k⟩:=h;refine ⟨_,(aw (cH (PW.pt (pw_or (cI zi (ar f_ (bU dI rfl T.de dh (ae (pv 0) ah)) (bU dI rfl T.de dh (ae (pv 1) ah))) (BR (v:=.int 40) rfl hM rM)) (pw_or1 (cI zi (ar f_ (aA (uk T) hr T.ma T.iO.kp T.l_ (iX L) (ae (pv 0) ah)) (aA (uk T) hr T.ma T.iO.kp T.l_ (iX L) (ae (pv 1) ah))) (BR (v:=.int 40) rfl hM rM))))) (aw (n9 L rfl nK T.ug rfl T.ue (ae jJ ah))) cN)),?_⟩;obtain ⟨vs,ea,la,_⟩:=id hA;obtain ⟨us,eb,lb,_⟩:=id hB;refine ⟨_,rfl,a,vs,rfl,.inl (.of ea),_,rfl,b,us,rfl,.inl (.of eb),_,_,rfl,rfl,.inl ⟨by lia,by lia⟩,_,_,rfl,rfl,_,rfl,c_ (fun hc=>?_) (fun hc=>?_)⟩
 ·have hc:(40:Int)<(vs.length:Int)*(us.length:Int):=ie hc
  rw [la,lb,←nH] at hc;exact gd ⟨by show 1≤sizeLine;decide,kE (.inl (by lia)) H (ag.refl H)⟩
 ·have hc:¬(40:Int)<(vs.length:Int)*(us.length:Int):=fun z=>hc (dr z)
  rw [la,lb,←nH] at hc;refine ⟨_,rfl,a,q,B,aa,m,rfl,hA,n1,eO,hm,fun H1 s1=>⟨_,rfl,b,q,B,af,u,rfl,hB.mono s1,k1,uz,hu,fun H2 s2=>⟨_,_,rfl,rfl,.inl ⟨by lia,by lia⟩,_,_,rfl,rfl,_,rfl,c_ (fun hd=>?_) (fun hd=>?_)⟩⟩⟩
  ·have hd:(40:Int)<(m:Int)*(u:Int):=ie hd
   rw [←nH] at hd;exact ⟨by show 1≤sizeLine;decide,kE (.inr (by lia)) H2 (s1.trans s2)⟩
  ·have hd:¬(40:Int)<(m:Int)*(u:Int):=fun z=>hd (dr z)
   rw [←nH] at hd;exact k (by lia) (by lia) H2 (s1.trans s2)
theorem aaZ:br ["world","row","more","told","number"] ["world","row","more"] (aQ DO):=bJ
theorem aa0(T:Txt K mg t):aK P w K mg base bO 6 t.sV t.wJ ["world","row","more"] (XI t.cb):=by
 have S:=aaZ;have aa1:=Zj (P:=P) (w:=w) (base:=base) T;refine T.xI.cC S (fun _ _ _ _ H vs _ E hr h=>?_);obtain ⟨z,a,b,q,B,ps,rs,rfl,hz,hq,hA,hB,bl,bh,p40,oU,r1,k⟩:=h
 refine ⟨_,(aq (putL 3 S.nd (gH ah))
  (aq (iG fY rfl (dH (pv 1)) (d9 (i:=4) S.nd rfl (Or.inr rfl))
   (aw (pA (qS qH PySem.F.slot_list_extend PySem.F.type_list_extend Ml (pv 3) (ae (d4 (N:=["other","world","number"]) (ρ:=(fun σ=>[σ[0]?.join,σ[4]?.join])) (dk [0,4] rfl) rfl (dH (pv 2)) (fun _ _ _=>.nil) (fun _ _ _=>(n5 (pv 1) T.gh T.ED aa1 (hr.mono (by decide)) T.PZ .nil aP (ae (pv 2) (ae (pv 0) ah))))) ah)))))
  (aw (aN (pv 3))))),?_⟩
 obtain ⟨vs,ea,la,fa⟩:=id hA;obtain ⟨dz,hdz⟩:=id hz;obtain ⟨us,eb,lb,fb⟩:=id hB;refine ⟨by show 0≤sizeLine;decide,fun l nl=>?_⟩
 have sl:ag H (upd H l (.lst [])):=b_ nl;refine ⟨_,rfl,a,rfl,⟨_,.of (sl _ _ ea)⟩,?_⟩
 refine qN (K:=K) (a:=a) (xs:=vs) (fun i σ Hc=>ag H Hc∧∃(v4:Option V) (ys:List V),σ=[some (.ref z),some (.ref a),some (.ref b),some (.ref l),v4]∧Hc l=some (.lst ys)∧ys.length=i*rs.length∧∀(j:Nat) (y:V),ys[j]?=some y→cU Hc q y (pQ (ps.getD (j / rs.length) o1) (rs.getD (j % rs.length) o1)).1 (pQ (ps.getD (j / rs.length) o1) (rs.getD (j % rs.length) o1)).2)
  ⟨sl,none,[],rfl,aM,by simp,fun j y e=>by simp at e⟩ (fun i σ Hc _ ⟨z,_⟩=>.of (z _ _ ea)) ?_ ?_
 ·rintro i v σ Hc hi ⟨sc,v4,ys,rfl,el,ly,hy⟩
  have aR:i<ps.length:=by rw [←la];exact (aG.mp hi).1
  have hv:=fa i v ps[i] hi (by simp [aR])
  refine GO ⟨_,rfl,.inl ⟨rfl,_,.of el⟩,eB (xs:=us) (fun R h=>⟨_,rfl,b,rfl,⟨_,.of (sc _ _ eb)⟩,h _ _ (ag.refl _) (eK (.of (sc _ _ eb)))⟩) (cT (by lia)) (fun _ j y Hx=>cU Hx q y (pQ (ps.getD i o1) (rs.getD j o1)).1 (pQ (ps.getD i o1) (rs.getD j o1)).2) (fun _ _ _ _ _ _ h1 e f=>h1.bu e f) ?_ ?_⟩
  ·intro D j u hj Hd R sd _ kd
   have cK:j<rs.length:=by rw [←lb];exact (aG.mp hj).1
   have hu:=fb j u rs[j] hj (by simp [cK])
   rw [getD_at aR,getD_at cK] at kd;have bg:∀{v:V} {x y:Int},cD B H q v x y→eA x∧eA y:=fun{v x y} h=>by obtain ⟨h1,h2⟩:=h.both bl;exact ⟨av h1 bh,av h2 bh⟩
   exact ⟨_,rfl,z,dz,_,rfl,(sc.trans sd) _ _ hdz,pI (by decide +kernel),_,rfl,_,rfl,V9 (E:=E0) (hz.mono (sc.trans sd)) hq ((hv.mono (sc.trans sd)).vk hq) ((hu.mono (sc.trans sd)).vk hq) (bg hv).1 (bg hv).2 (bg hu).1 (bg hu).2 fun v' H' s' hN=>kd v' H' s' hN⟩
  ·intro D zs Hd nD sd lz hP eD
   refine ⟨l,D,ys,zs,rfl,rfl,sd _ _ el,eD,?_,?_⟩
   ·have:i*rs.length≤40*40:=bI (by lia) oU
    exact av (show _≤2000 by lia) (by decide)
   have bu:∀b o,b≠l→Hd b=some o→upd Hd l (.lst (ys++zs)) b=some o:=fun b o nb e=>by rw [bE nb];exact e
   refine ⟨ft (sc.trans sd) nl,_,_,rfl,aM,by rw [ni,ly,lz,lb,ib],fun j y e=>?_⟩
   by_cases hj:j<ys.length
   ·rw [iS hj] at e
    exact ((hy j y e).mono sd).bu (sd _ _ el) bu
   ·rw [iQ (by lia)] at e
    have QR:j-ys.length<rs.length:=by rw [←lb,←lz];exact (aG.mp e).1
    have ej:j=i*rs.length+(j-ys.length):=by lia
    have z1:=(hP _ y e).bu (sd _ _ el) bu;rw [ej,lY QR,mS QR];exact z1
 ·rintro σ Hc ⟨sc,v4,ys,rfl,el,ly,hy⟩
  exact ⟨_,rfl,k l Hc sc nl ⟨ys,el,by rw [ly,la],hy⟩⟩
theorem aa4:br ["world","one","other","told","row"] ["world","one","other"] (aQ DP):=bJ
theorem ES(T:Txt K mg t):aK P w K mg base (et P w) 7 t.sW t.wK ["world","one","other"] (YJ t.cb t.iB):=by
 have S:=aa4;refine T.oP.dS S (fun _ _ _ _ H vs _ _ hr h L=>?_);obtain ⟨z,a,b,q,B,aa,af,m,u,rfl,hz,hq,hA,hB,b1,aa5,n1,eO,k1,uz,hm,hu,j9,u1,uo,g1',g2',k⟩:=h
 refine ⟨_,(aq (pA (aA (aaY T) hr T.Pc T.xH.kp T.Pb (iX L) (ae (pv 1) (ae (pv 2) ah))))
  (fZ.pk (aq (putL 3 S.nd (gH ah))
  (aq (iG fY rfl (dH (pv 1)) (d9 (i:=4) S.nd rfl (Or.inr rfl))
   (aw (pA (qS qH PySem.F.slot_list_extend PySem.F.type_list_extend Ml (pv 3) (ae (d4 (N:=["more","world","row"]) (ρ:=(fun σ=>[σ[0]?.join,σ[4]?.join])) (dk [0,4] rfl) rfl (dH (pv 2)) (fun _ _ _=>.nil) (fun _ _ _=>(aA (aa0 T) hr T.Pe T.xI.kp T.Pd aP (ae (pv 1) (ae (pv 2) (ae (pv 0) ah)))))) ah)))))
  (aw (aN (pv 3))))))),?_⟩
 refine ⟨_,rfl,_,rfl,a,b,q,B,aa,af,m,u,rfl,hA,hB,n1,eO,k1,uz,hm,hu,j9,uo,fun h=>absurd h (by lia),fun g1 g2 H0 s0=>?_⟩
 have kk:=k;obtain ⟨vs,ea,la,fa⟩:=id (hA.mono s0);obtain ⟨us,eb,lb,fb⟩:=id (hB.mono s0);refine ⟨by show 0≤sizeLine;decide,fun l nl=>?_⟩
 have sl:ag H0 (upd H0 l (.lst [])):=b_ nl;refine ⟨_,rfl,a,rfl,⟨_,.of (sl _ _ ea)⟩,?_⟩
 refine qN (K:=K) (a:=a) (xs:=vs) (fun i σ Hc=>ag H0 Hc∧∃(v4:Option V) (ys:List V),σ=[some (.ref z),some (.ref a),some (.ref b),some (.ref l),v4]∧Hc l=some (.lst ys)∧ys.length=i*af.length∧∀(j:Nat) (y:V),ys[j]?=some y→∃r:Addr,y=.ref r∧r≠l∧H r=none∧fR Hc q r (m*u) (cellOf aa af af.length u j))
  ⟨sl,none,[],rfl,aM,by simp,fun j y e=>by simp at e⟩ (fun i σ Hc _ ⟨z,_⟩=>.of (z _ _ ea)) ?_ ?_
 ·rintro i v σ Hc hi ⟨sc,v4,ys,rfl,el,ly,hy⟩
  have aR:i<aa.length:=by rw [←la];exact (aG.mp hi).1
  obtain ⟨ra,rfl,AG⟩:=fa i v aa[i] hi (by simp [aR])
  have mi:=hm _ (aE aR);refine GO ⟨_,rfl,.inl ⟨rfl,_,.of el⟩,eB (xs:=us) (fun R h=>⟨_,rfl,b,rfl,⟨_,.of (sc _ _ eb)⟩,h _ _ (ag.refl _) (eK (.of (sc _ _ eb)))⟩) (cT (by lia)) (fun D j y Hx=>∃r:Addr,y=.ref r∧r≠D∧r≠l∧H r=none∧fR Hx q r (m*u) (cellOf aa af af.length u (i*af.length+j))) (fun D _ _ _ _ _ ⟨r,e1,e2,e3,e4,e5⟩ e f=>⟨r,e1,e2,e3,e4,e5.bu e2 e f⟩) ?_ ?_⟩
  ·intro D j v hj Hd R sd ⟨xs,eD⟩ kd
   have cK:j<af.length:=by rw [←lb];exact (aG.mp hj).1
   obtain ⟨rb,rfl,Jr⟩:=fb j v af[j] hj (by simp [cK])
   have uj:=hu _ (aE cK);have s2:=sc.trans sd;refine ⟨_,rfl,_,rfl,_,rfl,z,ra,rb,q,B,aa[i],af[j],rfl,hz.mono (s0.trans s2),hq,AG.mono s2,Jr.mono s2,b1,aa5,by lia,by lia,by lia,fun r H' s' nr fX=>kd _ H' s' ⟨r,rfl,fun z=>by (rw [z,eD] at nr;cases nr),fun z=>by (rw [z,sd _ _ el] at nr;cases nr),none_of (s0.trans s2) nr,?_⟩⟩
   rw [mi,uj] at fX;obtain ⟨ws,e1,e2,e3⟩:=fX;refine ⟨ws,e1,e2,fun j' w hw=>?_⟩;have z:=e3 j' w hw;unfold cellOf;rw [lY cK,mS cK,getD_at aR,getD_at cK];exact z
  ·intro D zs Hd nD sd lz hP eD
   refine ⟨l,D,ys,zs,rfl,rfl,sd _ _ el,eD,?_,?_⟩
   ·have:i*af.length≤40*40:=bI (by lia) uz
    exact av (show _≤2000 by lia) (by decide)
   have bu:∀b o,b≠l→Hd b=some o→upd Hd l (.lst (ys++zs)) b=some o:=fun b o nb e=>by rw [bE nb];exact e
   refine ⟨ft (sc.trans sd) nl,_,_,rfl,aM,by rw [ni,ly,lz,lb,ib],fun j y e=>?_⟩
   by_cases hj:j<ys.length
   ·rw [iS hj] at e
    obtain ⟨r,e1,e2,e3,e4⟩:=hy j y e;exact ⟨r,e1,e2,e3,(e4.mono sd).bu e2 (sd _ _ el) bu⟩
   ·rw [iQ (by lia)] at e
    have ej:i*af.length+(j-ys.length)=j:=by lia
    obtain ⟨r,e1,_,e2,e3,e4⟩:=hP _ y e;rw [ej] at e4;exact ⟨r,e1,e2,e3,e4.bu e2 (sd _ _ el) bu⟩
 ·rintro σ Hc ⟨sc,v4,ys,rfl,el,ly,hy⟩
  exact ⟨_,rfl,kk l Hc (s0.trans sc) (none_of s0 nl) ⟨ys,el,by rw [ly,la],hy⟩⟩
theorem aa6:br ["script","k","mixed","cell"] ["script","k"] (aQ DX):=bJ
theorem AH(T:Txt K mg t):aK P w K mg base bO 1 t.tx t.wV ["script","k"] (VO K):=by
 have S:=aa6;refine T.mY.cC S (fun _ _ _ _ H _ _ _ hr h=>?_);obtain ⟨a,ns,j,rfl,hS,h0,h1,k⟩:=h
 refine ⟨_,(aq (cH (cI jN (pv 1) (bU dI rfl T.de dh (ae (pv 0) ah))) (aw (aN (ar cX (aC dF (pv 0) (pv 1)) (ar TJ ao ao)))) cN)
  (aq (putL 2 S.nd (ar f_ ao (ar gT (pv 1) ao)))
  (aq (iG fY rfl (dH (B7 F9 (pv 0) B5 (B6 ao))) (d9 (i:=3) S.nd rfl (Or.inl rfl))
   (aw (putL 2 S.nd (ar cX (ar gT (ar gT (ar f_ (pv 2) ao) (ar cX (pv 3) ao)) ao) ao))))
  (aq (putL 2 S.nd (ar cX (ar f_ (pv 2) (pv 2)) ao))
  (aq (putL 2 S.nd (ar cX (ar f_ (ar gT (pv 2) (ar f_ (ar f_ ao (pv 1)) (pv 1))) ao) ao))
  (aw (aN (ar pF (ar cX (ar f_ (pv 2) (pv 2)) ao) ao)))))))),?_⟩
 refine ⟨_,rfl,_,rfl,a,_,rfl,.inl hS,_,_,rfl,rfl,_,rfl,c_ (fun hj=>?_) (fun hj=>?_)⟩
 ·have hj:j<(ns.map V.int).length:=ie hj
  rw [aY] at hj;have hz:d_ (ns.map V.int) j=some (.int (ns.getD j.toNat 0)):=by
   have e:j=(j.toNat:Int):=by lia
   rw [e];refine dA ?_;rw [bj,gu (by lia),eR,dg,gu (by lia)]
   rfl
  refine ⟨_,rfl,_,rfl,a,_,j,_,rfl,rfl,hS,hz,_,_,rfl,rfl,⟨by decide,by decide,by decide⟩,_,_,rfl,rfl,(by show (0:Int)<10 ^ 40;decide),?_⟩
  have z:=k H (ag.refl H);unfold lI at z;rw [ak hj] at z;exact z
 ·have hj:¬j<ns.length:=fun z=>hj (dr (by rw [aY];exact z))
  refine ⟨_,rfl,_,_,rfl,rfl,_,_,rfl,rfl,.inl ⟨by decide,by decide⟩,?_⟩
  refine ⟨_,rfl,_,rfl,a,_,rfl,hS,fun c nc=>⟨c,rfl,⟨_,.of aM⟩,?_⟩⟩
  refine qN (K:=K) (a:=c) (xs:=(ns.take 7).map V.int) (fun i σ H'=>H'=upd H c (.lst (jQ (ns.map V.int) none (some 7)))∧∃(m:Int) (v:Option V),σ=[some (.ref a),some (.int j),some (.int m),v]∧m=((ns.take 7).take i).foldl MM (1000003*(j+1))∧-(2 ^ 64)<m∧m<2 ^ 64)
   ⟨rfl,_,_,rfl,rfl,by lia,by lia⟩ ?_ ?_ ?_
  ·rintro i σ H' _ ⟨rfl,_⟩
   have e:jQ (ns.map V.int) none (some 7)=(ns.take 7).map V.int:=by have:=VU (ns.map V.int) 7;rw [←List.map_take] at this;exact this
   rw [e];exact .of aM
  ·rintro i y σ H' hi ⟨rfl,m,v,rfl,hm,_,_⟩
   rw [bj] at hi;cases ez:(ns.take 7)[i]? with
   | none=>rw [ez] at hi;cases hi
   | some z=>
    rw [ez] at hi;cases hi;refine ⟨_,rfl,_,_,rfl,rfl,.inr ⟨by decide,by decide⟩,_,rfl,_,_,rfl,rfl,(by show (0:Int)<998244353;decide),_,_,rfl,rfl,_,_,rfl,rfl,_,_,rfl,rfl,(by show (0:Int)<1000000007;decide),rfl,_,_,rfl,?_,?_,?_⟩
    ·rw [List.take_succ,ez,Option.toList_some,List.foldl_append,←hm]
     rfl
    ·have:=eE (m*69621+z % 998244353+1) (show (1000000007:Int)≠0 by decide)
     show -(2 ^ 64)<(m*69621+z % 998244353+1) % 1000000007;lia
    ·have:=eW (m*69621+z % 998244353+1) (show (0:Int)<1000000007 by decide)
     show (m*69621+z % 998244353+1) % 1000000007<2 ^ 64;lia
  ·rintro σ H' ⟨rfl,m,v,rfl,hm,hm1,hm2⟩
   rw [aY,List.take_length] at hm;refine ⟨_,rfl,_,rfl,_,_,rfl,rfl,.inl ⟨hm1,hm2⟩,_,_,rfl,rfl,(by show (0:Int)<1000000007;decide),?_⟩
   refine ⟨_,rfl,_,rfl,_,_,rfl,rfl,.inl ⟨by decide,by decide⟩,_,rfl,_,_,rfl,rfl,.inr ⟨by lia,by lia⟩,_,_,rfl,rfl,_,_,rfl,rfl,.inr ⟨by decide,by decide⟩,_,_,rfl,rfl,(by show (0:Int)<2147483647;decide),?_⟩
   have b0:=eE ((m*m % 1000000007+7919*j*j)*48271) (show (2147483647:Int)≠0 by decide)
   have b1:=eW ((m*m % 1000000007+7919*j*j)*48271) (show (0:Int)<2147483647 by decide)
   refine ⟨_,rfl,_,rfl,_,_,rfl,rfl,.inl ⟨?_,?_⟩,_,_,rfl,rfl,(by show (0:Int)<2147483647;decide),_,_,rfl,rfl,⟨by decide,by decide⟩,?_⟩
   ·show -(2 ^ 64)<(m*m % 1000000007+7919*j*j)*48271 % 2147483647
    lia
   ·show (m*m % 1000000007+7919*j*j)*48271 % 2147483647<2 ^ 64
    lia
   ·have z:=k (upd H c (.lst (jQ (ns.map V.int) none (some 7)))) (b_ nc)
    unfold lI Ci at z;rw [aj hj,←hm] at z;exact z
theorem aa9:br ["top","bottom","one","other"] ["top","bottom"] (aQ DY):=bJ
theorem Js(T:Txt K mg t):aK P w K mg base bO 1 t.tD t.wW ["top","bottom"] NT:=by
 have S:=aa9;refine T.qo.cC S (fun _ _ _ _ H _ Q _ hr h=>?_);obtain ⟨a,b,rfl,hb,mb,k⟩:=h
 refine ⟨_,(aq (putL 2 S.nd (bU B3 rfl T.As boot_abs (ae (pv 0) ah)))
  (aq (putL 3 S.nd (bU B3 rfl T.As boot_abs (ae (pv 1) ah)))
  (aq (zf fY (qO (pv 3) (fun _=>rfl)) (aw (Tg (i:=2) (j:=3) rfl S.nd rfl rfl (by decide) rfl rfl (ae (pv 3) (ae (ar cX (pv 2) (pv 3)) ah)) rfl)))
  (aq (cH (cI jN (pv 1) ao) (aw (putL 2 S.nd (ar k_ ao (pv 2)))) cN)
  (aw (aN (jf (ae (ar Ho (pv 0) (pv 2)) (ae (ar Ho (pv 1) (pv 2)) ah))))))))),?_⟩
 have ok:=Xr (a:=a) hb mb;refine ⟨_,rfl,a,rfl,_,rfl,b,rfl,fun m σ H'=>H'=H∧∃(x y:Nat),σ=[some (.int a),some (.int b),some (.int (x:Int)),some (.int (y:Int))]∧m=y∧Nat.gcd x y=Int.gcd a b,⟨b.natAbs,rfl,a.natAbs,b.natAbs,?_,rfl,rfl⟩,?_⟩
 ·show [some (V.int a),some (V.int b),some (V.int (if a<0 then -a else a)),some (V.int (if b<0 then -b else b))]=_
  rw [Cf,Cf]
 ·rintro m σ H' ⟨rfl,x,y,rfl,em,hg⟩
  refine ⟨_,rfl,_,rfl,c_ (fun hy=>?_) (fun hy=>?_)⟩
  ·have hy:y≠0:=fun z=>by subst z;cases hy
   refine ⟨fun σ' H2=>H2=H'∧σ'=[some (.int a),some (.int b),some (.int (y:Int)),some (.int (((x % y:Nat)):Int))],?_,?_⟩
   ·rintro σ' H2 ⟨rfl,rfl⟩
    exact ⟨x % y,by rw [em];exact Nat.mod_lt _ (by lia),rfl,y,x % y,rfl,rfl,by rw [MK];exact hg⟩
   ·exact ⟨_,rfl,_,rfl,_,rfl,_,_,rfl,rfl,(show (0:Int)<y by lia),_,_,rfl,rfl,rfl⟩
  ·have y0:y=0:=by
    by_cases z:y=0;·exact z
    ·exact absurd (by simpa using z) hy
   subst y0;rw [Nat.gcd_zero_right] at hg;have AI:∀(g:Int),g=lowG a b→∀(p:Addr),H' p=none→Q (.ref p) (upd H' p (.tup [.int (a.fdiv g),.int (b.fdiv g)])):=fun g e p hp=>by rw [e];exact k p _ (b_ hp) aM
   refine ⟨_,rfl,_,_,rfl,rfl,_,rfl,c_ (fun hn=>?_) (fun hn=>?_)⟩
   ·have hn:b<0:=ie hn
    have eg:0-(x:Int)=lowG a b:=by unfold lowG;rw [ak hn,hg]
    have rY:CQ 0 (0-(x:Int)):=by rw [eg];exact ok
    exact ⟨_,rfl,_,_,rfl,rfl,_,rfl,_,rfl,_,_,rfl,rfl,rY,_,rfl,_,rfl,_,_,rfl,rfl,rY,by show 2≤sizeLine;decide,AI _ eg⟩
   ·have hn:¬b<0:=fun z=>hn (dr z)
    have eg:(x:Int)=lowG a b:=by unfold lowG;rw [aj hn,hg]
    have rY:CQ 0 (x:Int):=by rw [eg];exact ok
    exact ⟨_,rfl,_,rfl,_,_,rfl,rfl,rY,_,rfl,_,rfl,_,_,rfl,rfl,rY,by show 2≤sizeLine;decide,AI _ eg⟩
theorem aa_:br ["cell","at"] ["cell"] (aQ DZ):=bJ
theorem aba(T:Txt K mg t):aK P w K mg base bO 1 t.tE t.wX ["cell"] VN:=by
 have S:=aa_;refine T.xT.cC S (fun _ _ _ _ H _ _ _ hr h=>?_);obtain ⟨c,rfl,k⟩:=h
 refine ⟨_,(aq (eI 1 S.nd (ar gT ao (ar cX (pv 0) ao)))
  (aq (zf fY (mI (jb (bU (zx (K:=K) rfl) rfl T.x_ boot_all (ae (d4 (N:=["by","at"]) (ρ:=(fun σ=>[σ[1]?.join])) (dk [1] rfl) rfl (BX rfl T.fe (ae ao (ae ao ah))) (fun _ _ _=>(.one (cI jN (pv 0) (pv 1)))) (fun _ _ _=>(gU je (ar cX (pv 1) (pv 0)) ao))) ah)))) (aw (eI 1 S.nd (ar gT (pv 1) ao))))
  (aw (aN (pv 1))))),?_⟩
 have c0:=eE c (show (996:Int)≠0 by decide)
 have c1:=eW c (show (0:Int)<996 by decide)
 refine ⟨_,rfl,_,_,rfl,rfl,(by show (0:Int)<996;decide),_,_,rfl,rfl,fun m σ H'=>ag H H'∧∃v:Int,σ=[some (.int c),some (.int v)]∧2≤v∧v≤997∧m=(997-v).toNat,
  ⟨_,ag.refl H,2+c % 996,rfl,by lia,by lia,rfl⟩,?_⟩
 rintro m σ H' ⟨sH,v,rfl,h1,h2,rfl⟩;refine ⟨2,32,rfl,⟨by decide,by decide,by decide,by decide⟩,fun D nD=>⟨fun i m ys Hc=>Hc=upd H' D (.lst ys)∧i+m=30∧ys=(jk v i).map V.bl,⟨30,rfl,rfl,rfl⟩,?_⟩⟩
 rintro i m ys Hc ⟨rfl,hm,rfl⟩;refine ⟨aM,?_⟩;have hl:((jk v i).map V.bl).length<sizeLine:=by rw [aY];have:=VR v i;exact cT (by lia)
 by_cases hi:i<30
 ·refine .inr ⟨hi,fun x H2 y=>?_⟩
  obtain ⟨rfl,rfl⟩:=y;refine ⟨_,rfl,_,rfl,_,_,rfl,rfl,_,rfl,c_ (fun hx=>?_) (fun hx=>?_)⟩
  ·have hx:2+(i:Int)<v:=ie hx
   refine ⟨_,rfl,_,rfl,_,_,rfl,rfl,(show (0:Int)<2+(i:Int) by lia),rfl,aM,hl,m-1,by lia,SO,by lia,?_⟩
   rw [VP hx,yV];show _++[V.bl (!decide (V.int (v % (2+(i:Int)))=V.int 0))]=_;rw [jj];rfl
  ·have hx:¬2+(i:Int)<v:=fun z=>hx (dr z)
   exact ⟨m-1,by lia,rfl,by lia,by rw [VQ hx]⟩
 ·have i30:i=30:=by lia
  subst i30;refine .inl ⟨aI _,D,jk v 30,rfl,.of aM,_,rfl,?_⟩;rw [VS];have s2:ag H (upd H' D (.lst ((jk v 30).map V.bl))):=sH.trans (b_ nD);refine c_ (fun hb=>?_) (fun hb=>?_)
  ·have hb:n_ v=false:=by simpa using hb
   have hv:v≠997:=fun z=>by rw [z,VT] at hb;cases hb
   refine ⟨fun σ' H2=>ag H H2∧σ'=[some (.int c),some (.int (v+1))],?_,?_⟩
   ·rintro σ' H2 ⟨s3,rfl⟩
    exact ⟨(997-(v+1)).toNat,by lia,s3,v+1,rfl,by lia,by lia,rfl⟩
   ·exact ⟨_,rfl,_,_,rfl,rfl,s2,rfl⟩
  ·have hb:n_ v=true:=by simpa using hb
   exact ⟨_,rfl,k v _ s2 h1 h2 (by rw [Vr h1 h2];exact hb)⟩
theorem abc:br ["draw","way"] ["draw"] (aQ D3):=bJ
theorem abd(T:Txt K mg t):aK P w K mg base bO 2 t.tF t.wY ["draw"] VY:=by
 have S:=abc;refine T.xU.cC S (fun _ _ _ _ H _ _ _ hr h=>?_);obtain ⟨c,rfl,k⟩:=h
 refine ⟨_,(aq (putL 1 S.nd (ar cX (pv 0) ao))
  (aq (cH (cI jN (pv 1) ao) (aw (aN ao)) cN)
  (aq (cH (cI jN (pv 1) ao) (aw (aN (aC dF (gH (ae ao (ae ao (ae ao ah)))) (ar k_ (pv 1) ao)))) cN)
  (aw (aN (aA (aba T) hr T.Px T.xT.kp T.Pw aP (ae (ar pF (pv 0) ao) ah))))))),?_⟩
 refine ⟨_,rfl,_,_,rfl,rfl,(by show (0:Int)<8;decide),?_⟩
 refine ⟨_,rfl,_,_,rfl,rfl,_,rfl,c_ (fun _=>k 0 H (ag.refl H) (.inl rfl)) (fun h3=>?_)⟩;refine ⟨_,rfl,_,_,rfl,rfl,_,rfl,c_ (fun h6=>⟨by show 3≤sizeLine;decide,fun l hl=>?_⟩) (fun _=>?_)⟩
 ·have h3:¬c % 8<3:=fun z=>h3 (dr z)
  have h6:c % 8<6:=ie h6;obtain ⟨v,hv,mv⟩:=VE (xs:=([.int 2,.int 3,.int 5]:List V)) (i:=c % 8-3) (by lia) (by show c % 8-3<3;lia)
  refine ⟨_,rfl,_,_,rfl,rfl,l,_,_,v,rfl,rfl,.of aM,hv,?_⟩;simp only [fg,qD,or_false] at mv;rcases mv with e | e | e;·rw [e];exact k 2 _ (b_ hl) (.inr ⟨by decide,by decide,by decide +kernel⟩)
  ·rw [e];exact k 3 _ (b_ hl) (.inr ⟨by decide,by decide,by decide +kernel⟩)
  ·rw [e];exact k 5 _ (b_ hl) (.inr ⟨by decide,by decide,by decide +kernel⟩)
 ·exact ⟨_,rfl,_,_,rfl,rfl,⟨by decide,by decide⟩,_,rfl,fun p H' s' h1 h2 h3=>k p H' s' (.inr ⟨h1,h2,h3⟩)⟩
theorem abe{p:Int}(h1:2≤p)(h2:p≤997)(h3:ik p=true):(Td.b "wheel" p).good=true:=by simp [Td.good,Td.zt,Td.kH,h1,h2,h3]
theorem abf:(Td.a "fractions").good=true:=by simp [Td.good,Td.zt]
theorem abg:br ["p"] ["p"] (aQ D4):=bJ
theorem abh(T:Txt K mg t):aK P w K mg base bO 5 t.tG t.wZ ["p"] (VZ t.cb):=by
 have S:=abg;have QS:=Y8 (P:=P) (w:=w) (base:=base) T;refine T.xV.cC S (fun _ _ _ _ H _ _ _ hr h=>?_);obtain ⟨p,rfl,hp,k⟩:=h
 refine ⟨_,(aq (cH (qO (pv 0) (fun _=>rfl)) (aw (aN (L3 T.Am QS (hr.mono (by decide)) rfl T.IH T.IF .nil ig (ae (jf (ae jJ (ae (pv 0) ah))) ah)))) cN)
  (aw (aN (L3 T.Am QS (hr.mono (by decide)) rfl T.IH T.IF .nil ig (ae (jf (ae jJ ah)) ah))))),?_⟩
 refine ⟨_,rfl,_,rfl,c_ (fun hq=>?_) (fun hq=>?_)⟩
 ·have hq:p≠0:=by simpa using hq
  obtain ⟨QT,Jt,QU⟩:2≤p∧p≤997∧ik p=true:=hp.resolve_left hq;refine ⟨_,rfl,by show 2≤sizeLine;decide,fun q nq xw dw nx AJ nex=>⟨xw,dw,q,.b "wheel" p,rfl,aM,?_,fun _=>⟨rfl,k xw _ ?_ ⟨dw,by rw [aM,aj hq];rfl⟩⟩,fun hg=>absurd ((abe QT Jt QU).symm.trans hg) (by decide)⟩⟩
  ·rw [bE (gw aM nx),bE (gw aM AJ)]
   exact aM
  ·intro b o e
   have e1:=b_ (o:=.tup [.str "wheel",.int p]) nq _ _ e;rw [bE (gw e1 nx),bE (gw e1 nx),bE (gw e1 AJ)];exact e1
 ·have hq:p=0:=by simpa using hq
  subst hq;refine ⟨by show 1≤sizeLine;decide,fun q nq xw dw nx AJ nex=>⟨xw,dw,q,.a "fractions",rfl,aM,?_,fun _=>⟨rfl,k xw _ ?_ ⟨dw,by rw [aM,ak rfl];rfl⟩⟩,fun hg=>absurd (abf.symm.trans hg) (by decide)⟩⟩
  ·rw [bE (gw aM nx),bE (gw aM AJ)]
   exact aM
  ·intro b o e
   have e1:=b_ (o:=.tup [.str "fractions"]) nq _ _ e;rw [bE (gw e1 nx),bE (gw e1 nx),bE (gw e1 AJ)];exact e1
theorem abj:br ["thing"] ["thing"] (aQ D5):=bJ
theorem abk(T:Txt K mg t):aK P w K mg base bO 1 t.tH t.w5 ["thing"] ML:=by
 have S:=abj;refine T.xW.cC S (fun _ _ _ _ H _ Q _ hr h=>?_);obtain ⟨v,rfl,ha,k⟩:=h;refine ⟨_,(aw (aN (ky (bU (vi (K:=K)) rfl T.uf boot_isinstance (ae (pv 0) (ae (u5 (v:=.ty "int") rfl T.Ar boot_int rfl) ah))) (mJ (Lp (bU (vi (K:=K)) rfl T.uf boot_isinstance (ae (pv 0) (ae (u5 (v:=.ty "bool") rfl T.IJ boot_bool rfl) ah)))))))),?_⟩;obtain ⟨Ty,ty,k1,k2,_⟩:=ha.Cc (K:=K);refine ⟨_,rfl,_,_,_,_,rfl,rfl,ty,k1,_,rfl,c_ (fun h1=>?_) (fun h1=>?_)⟩
 ·refine ⟨_,rfl,_,_,_,_,rfl,rfl,ty,k2,_,rfl,?_⟩
  have e:(!oh v)=og v:=by
   cases h2:oh v with
   | true=>rw [MJ h2];rfl
   | false=>rw [h2,Bool.or_false] at h1;rw [h1];rfl
  show Q (.bl (!oh v)) H;rw [e];exact k
 ·have e:og v=false:=by
   cases h2:og v with
   | true=>rw [h2] at h1;exact absurd rfl h1
   | false=>rfl
  rw [e] at k;exact k
theorem abl:br ["p","draw","way","rest"] ["p","draw"] (aQ D8):=bJ
theorem Ju(T:Txt K mg t):aK P w K mg base bO 2 t.tI t.w6 ["p","draw"] Xs:=by
 have S:=abl;refine T.qp.cC S (fun _ _ _ _ H _ Q E hr h=>?_);obtain ⟨q,c,rfl,hp,hc,k⟩:=h
 refine ⟨_,(aq (cH (qO (pv 0) (fun _=>rfl)) (aw (aN (ar cX (pv 1) (pv 0)))) cN)
  (aq (putL 2 S.nd (ar cX (pv 1) ao))
  (aq (putL 3 S.nd (ar pF (pv 1) ao))
  (aq (cH (cI jN (pv 2) ao) (aw (aN (jf (ae ao (ae ao ah))))) cN)
  (aq (cH (cI jN (pv 2) ao) (aw (aN (jf (ae (ar k_ (ar cX (pv 3) ao) ao) (ae ao ah))))) cN)
  (aq (cH (cI jN (pv 2) ao) (aw (aN (aA (Js T) hr T.EA T.qo.kp T.Ez aP (ae (ar k_ (ar cX (pv 3) ao) ao) (ae (ar gT (ar cX (ar pF (pv 3) ao) ao) ao) ah))))) cN)
  (aw (aN (aA (Js T) hr T.EA T.qo.kp T.Ez aP (ae (ar k_ (ar cX (pv 3) ao) ao) (ae (ar gT (ar cX (ar pF (pv 3) ao) ao) ao) ah))))))))))),?_⟩
 have QV:∀(a b:Int),1≤b→a.natAbs≤10 ^ 6→b.natAbs≤1000→q=0→NT [.int a,.int b] H Q E:=fun a b hb ba bb e=>by
  subst e;obtain ⟨u,d,e1,e2,l,l1,l2⟩:=MP (a:=a) hb;refine ⟨a,b,rfl,by lia,(cO.of_lt (by lia) (by lia)).wide,fun r H' s' e=>k (.ref r) u d H' s' (.bV ?_ l (av l1 ba) (av l2 (av bb (by decide)))) (av l2 bb)⟩
  rw [e,e1,e2]
 refine ⟨_,rfl,_,rfl,c_ (fun hq=>?_) (fun hq=>?_)⟩
 ·have hq:q≠0:=by simpa using hq
  obtain ⟨QT,Jt,QU⟩:2≤q∧q≤997∧ik q=true:=hp.resolve_left hq;exact ⟨_,rfl,_,rfl,_,_,rfl,rfl,(show (0:Int)<q by lia),k _ _ _ H (ag.refl H) (.rem (eE _ hq) (eW _ (by lia)) Jt) (by decide)⟩
 ·have hq:q=0:=by simpa using hq
  refine ⟨_,rfl,_,_,rfl,rfl,(by show (0:Int)<8;decide),?_⟩
  refine ⟨_,rfl,_,_,rfl,rfl,⟨by decide,by decide⟩,?_⟩
  generalize c / 8=e;refine ⟨_,rfl,_,_,rfl,rfl,_,rfl,c_ (fun _=>⟨by show 2≤sizeLine;decide,fun r hr=>?_⟩) (fun _=>?_)⟩
  ·subst hq
   exact k _ _ _ _ (b_ hr) (.bV aM ⟨by decide,by decide⟩ (by decide) (by decide)) (by decide)
  refine ⟨_,rfl,_,_,rfl,rfl,_,rfl,c_ (fun _=>⟨_,rfl,_,_,rfl,rfl,(by show (0:Int)<7;decide),_,_,rfl,rfl,by show 2≤sizeLine;decide,fun r hr=>?_⟩) (fun _=>?_)⟩
  ·subst hq
   have b0:=eE e (show (7:Int)≠0 by decide)
   have b1:=eW e (show (0:Int)<7 by decide)
   exact k _ _ _ _ (b_ hr) (.bV aM ⟨by decide,nG ..⟩ (by lia) (by decide)) (by decide)
  refine ⟨_,rfl,_,_,rfl,rfl,_,rfl,c_ (fun _=>⟨_,rfl,_,_,rfl,rfl,(by show (0:Int)<23;decide),_,_,rfl,rfl,_,rfl,_,_,rfl,rfl,⟨by decide,by decide⟩,_,_,rfl,rfl,(by show (0:Int)<6;decide),_,_,rfl,rfl,?_⟩) (fun _=>?_)⟩
  ·have b0:=eE e (show (23:Int)≠0 by decide)
   have b1:=eW e (show (0:Int)<23 by decide)
   have b2:=eE (e / 23) (show (6:Int)≠0 by decide)
   have b3:=eW (e / 23) (show (0:Int)<6 by decide)
   exact QV _ _ (by lia) (by lia) (by lia) hq
  ·refine ⟨_,rfl,_,_,rfl,rfl,(by show (0:Int)<2000001;decide),_,_,rfl,rfl,_,rfl,_,_,rfl,rfl,⟨by decide,by decide⟩,_,_,rfl,rfl,(by show (0:Int)<1000;decide),_,_,rfl,rfl,?_⟩
   have b0:=eE e (show (2000001:Int)≠0 by decide)
   have b1:=eW e (show (0:Int)<2000001 by decide)
   have b2:=eE (e / 2000001) (show (1000:Int)≠0 by decide)
   have b3:=eW (e / 2000001) (show (0:Int)<1000 by decide)
   exact QV _ _ (by lia) (by lia) (by lia) hq
theorem abm:br ["p","one","other","top","bottom","a","b"] ["p","one","other"] (aQ D9):=bJ
theorem Jv(T:Txt K mg t):aK P w K mg base bO 2 t.qe t.tJ ["p","one","other"] Yq:=by
 have S:=abm;refine T.mZ.cC S (fun _ _ _ _ H vs _ _ hr h=>?_);obtain ⟨q,a,b,B,C,ps,rs,rfl,hq,hA,hB,B1,C1,m4,QC,hW,k⟩:=h;have QW:=(fun p hp=>(hA.nums hq p hp).2.1);have QX:=(fun p hp=>(hB.nums hq p hp).2.1);obtain ⟨vs,ea,la,fa⟩:=hA;obtain ⟨us,eb,lb,fb⟩:=hB
 refine ⟨_,(aq (cH (qO (pv 0) (fun _=>rfl)) (aw (aN (ar cX (bU (M6 (K:=K) rfl) rfl T.IM boot_sum (ae (oo (N:=["a","b"]) (ρ:=(fun σ=>[])) (mR [] rfl) rfl (lT rfl T.kO (ae (pv 1) (ae (pv 2) ah))) (fun _ _ _=>.nil) (fun _ _ _=>(ar f_ (pv 0) (pv 1)))) ah)) (pv 0)))) cN)
  (aq (putL 3 S.nd ao)
  (aq (putL 4 S.nd ao)
  (aq (iG fY rfl (lT rfl T.kO (ae (pv 1) (ae (pv 2) ah))) (BW rfl (k8 (d9 (i:=5) S.nd rfl (Or.inl rfl)) (k8 (d9 (i:=6) S.nd rfl (Or.inl rfl)) BV)))
   (aq (putL 3 S.nd (ar gT (ar mT (ar mT (pv 3) (aC cz (pv 5) ao)) (aC cz (pv 6) ao)) (ar mT (ar mT (aC cz (pv 5) ao) (aC cz (pv 6) ao)) (pv 4))))
  (aw (putL 4 S.nd (ar mT (ar mT (pv 4) (aC cz (pv 5) ao)) (aC cz (pv 6) ao))))))
  (aw (aN (aA (Js T) hr T.EA T.qo.kp T.Ez aP (ae (pv 3) (ae (pv 4) ah))))))))),?_⟩
 refine ⟨_,rfl,_,rfl,c_ (fun hp=>?_) (fun hp=>?_)⟩
 ·have hp:q≠0:=by simpa using hp
  obtain ⟨q2,q3,q4⟩:=hq.resolve_left hp;have eV:vs=(ps.map fun p=>p.1).map V.int:=ox (by rw [la,aY]) fun i v e=>by
   have hi:i<ps.length:=by rw [←la];exact (aG.mp e).1
   have h1:=fa i v ps[i] e (by simp [hi])
   refine ⟨ps[i].1,by rw [bj];simp [hi],?_⟩
   generalize ps[i]=p at h1;obtain ⟨x,m⟩:=p;cases h1 with
   | bV er l bx bm=>exact absurd rfl hp
   | rem h0 h1 h2=>rfl
  have eU:us=(rs.map fun p=>p.1).map V.int:=ox (by rw [lb,aY]) fun i v e=>by
   have hi:i<rs.length:=by rw [←lb];exact (aG.mp e).1
   have h1:=fb i v rs[i] e (by simp [hi])
   refine ⟨rs[i].1,by rw [bj];simp [hi],?_⟩
   generalize rs[i]=p at h1;obtain ⟨x,m⟩:=p;cases h1 with
   | bV er l bx bm=>exact absurd rfl hp
   | rem h0 h1 h2=>rfl
  have hz:(vs.zip us).length≤40:=by rw [ko];lia
  refine fO (Nf (q5 (Nb (zs:=vs.zip us) (fun R h=>⟨_,rfl,_,rfl,a,b,rfl,⟨_,.of ea⟩,⟨_,.of eb⟩,h _ _ (ag.refl _) (lV (.of ea) (.of eb))⟩) (cT (by lia)) (fun i v=>∃w:Int,(List.zipWith (· * ·) (ps.map fun p=>p.1) (rs.map fun p=>p.1))[i]?=some w∧v=.int w) ?_ ?_)))
  ·intro i x y gi Hc R sc kc
   have h0:=(mh.mp gi);have hi:i<ps.length:=by rw [←la];exact (aG.mp h0.1).1
   have nb:=fa i x ps[i] h0.1 (by simp [hi])
   rw [eV,eU] at gi;obtain ⟨t0,u0,rfl,rfl,a1,a2⟩:=Nc gi;have bt:0≤t0∧t0<1000:=by
    generalize ps[i]=p at nb;obtain ⟨x',m'⟩:=p;cases nb with
    | rem h0 h1 h2=>lia
   exact ⟨_,rfl,_,rfl,_,_,rfl,rfl,.inl ⟨by lia,by lia⟩,kc _ Hc (ag.refl _) ⟨t0*u0,by rw [BI,a1,a2],rfl⟩⟩
  ·intro D ws Hc sc hl hP eD
   have ev:ws=(List.zipWith (· * ·) (ps.map fun p=>p.1) (rs.map fun p=>p.1)).map V.int:=ox (by rw [hl,ko,y8,aY,aY,la,lb]) hP
   subst ev;refine ⟨D,_,rfl,.of eD,_,rfl,_,_,rfl,rfl,(show (0:Int)<q by lia),k _ Hc sc ?_⟩
   have e:=GL (ps:=ps) (rs:=rs) (ts:=ps.map fun p=>p.1) (us:=rs.map fun p=>p.1) (B:=1) (C:=1) (S:=0) (acc:=(0,1)) (by simp) (by simp)
    (fun i p t h1 h2=>by rw [bj,h1] at h2;cases h2;rw [(QW p (o4 h1)).2 hp])
    (fun i p t h1 h2=>by rw [bj,h1] at h2;cases h2;rw [(QX p (o4 h1)).2 hp]) (by simp)
   have bt:=zM (q:=q) QW QX (acc:=(0,1)) ⟨fun _=>by decide,fun _=>rfl⟩
   have b1:=bt.2 hp;rw [b1] at e ⊢;rw [mj,iC,iC,iC] at e;refine .rem q2 (eE _ hp) (eW _ (by lia)) (by rw [nG]) ?_
   rw [←e];obtain ⟨w,ew⟩:=vp (jq (ps.map fun p=>p.1) (rs.map fun p=>p.1)) q;exact ⟨-w,by show jq _ _ % q*1-_=_;rw [i7];lia⟩
 ·have hp:q=0:=by simpa using hp
  subst hp;have get:∀(B:Nat) (ts:List V) (xs:a_),ts.length=xs.length→(∀(i:Nat) (v:V) (p:Int×Int),ts[i]?=some v→xs[i]?=some p→cD B H 0 v p.1 p.2)→∀(i:Nat) (v:V),ts[i]?=some v→∃(r:Addr) (x m:Int),v=.ref r∧H r=some (.tup [.int x,.int m])∧xs[i]?=some (x,m)∧gf x m∧x.natAbs≤B∧m.natAbs≤B:=fun B ts xs hl hn i v e=>by
   have hi:i<xs.length:=by rw [←hl];exact (aG.mp e).1
   have ep:xs[i]?=some xs[i]:=by simp [hi]
   have h1:=hn i v xs[i] e ep;generalize xs[i]=p at h1 ep;obtain ⟨x,m⟩:=p;cases h1 with
   | bV er l bx bm=>exact ⟨_,x,m,rfl,er,ep,l,bx,bm⟩
   | rem h0 h1 h2=>lia
  have abn:=get B vs ps la fa;have abo:=get C us rs lb fb;have AK:1≤B*C:=uY B1 C1;have wd:∀{x:Int} {i:Nat},i<ps.length→x.natAbs≤40*(B*C) ^ i*(B*C)→Wide x:=fun{x i} hi hx=>by refine dD (av hx ?_) (hW rfl);rw [kZ,←mr];exact gO _ (fL AK hi)
  have lz:(vs.zip us).length=min ps.length rs.length:=by rw [ko,la,lb]
  refine ⟨_,rfl,_,rfl,a,b,rfl,⟨_,.of ea⟩,⟨_,.of eb⟩,?_⟩
  refine Wm (K:=K) (xs:=vs) (ys:=us) (fun i σ Hc=>ag H Hc∧∃(v5 v6:Option V),σ=[some (.int 0),some (.ref a),some (.ref b),some (.int (aW (ps.take i) (rs.take i) (0,1)).1),some (.int (aW (ps.take i) (rs.take i) (0,1)).2),v5,v6]∧1≤(aW (ps.take i) (rs.take i) (0,1)).2∧(aW (ps.take i) (rs.take i) (0,1)).2.natAbs≤(B*C) ^ i∧(aW (ps.take i) (rs.take i) (0,1)).1.natAbs≤i*(B*C) ^ i)
   ⟨ag.refl H,none,none,by simp [aW];rfl,by simp [aW],by simp [aW],by simp [aW]⟩ (fun i σ Hc ⟨z,_⟩=>⟨.of (z _ _ ea),.of (z _ _ eb)⟩) ?_ ?_
  ·rintro i x y σ Hc Tt gi ⟨sc,v5,v6,rfl,b1,bb,bt⟩ nT
   obtain ⟨h1,h2⟩:=mh.mp gi;obtain ⟨r1,x1,m1,rfl,Jw,m7,l1,Jx,ym⟩:=abn i x h1;obtain ⟨r2,x2,m2,rfl,er2,kP,l2,Jy,ET⟩:=abo i y h2;have tk:=Nd ps rs i (0,1) (x1,m1) (x2,m2) m7 kP;generalize aW (ps.take i) (rs.take i) (0,1)=tb at *;obtain ⟨tp,bo⟩:=tb;have sT:ag Hc (upd Hc Tt (.tup [.ref r1,.ref r2])):=b_ nT;have e1:=sT _ _ (sc _ _ Jw);have e2:=sT _ _ (sc _ _ er2);have p1:=l1.pos;have p2:=l2.pos;refine ⟨Tt,_,rfl,.of aM,rfl,_,_,rfl,_,_,rfl,rfl,?_⟩;dsimp only at tk b1 bb bt;have hi:i<ps.length:=(aG.mp m7).1;have p0:1≤(B*C) ^ i:=qG AK;have QY:i*(B*C) ^ i≤40*(B*C) ^ i:=gs _ (by lia)
   have QZ:(B*C) ^ i≤40*(B*C) ^ i:=gC _ (by decide)
   have leB:B≤B*C:=k6 _ C1;have leC:C≤B*C:=gC _ B1;have up:∀{x:Int},x.natAbs≤B*C→Wide x:=fun{x} h=>wd hi (av h (gC _ (uY (by decide) p0)))
   have MB:∀{x:Int},x.natAbs≤B→Wide x:=fun h=>up (av h leB);have MC:∀{x:Int},x.natAbs≤C→Wide x:=fun h=>up (av h leC);have mt:Wide tp:=wd hi (av (av bt QY) (k6 _ AK));have mt1:Wide (tp*m1):=wd hi (by rw [bT];exact bI (av bt QY) (av ym leB))
   have mb:Wide bo:=wd hi (av (av bb QZ) (k6 _ AK));have mb1:Wide (bo*m1):=wd hi (by rw [bT];exact bI (av bb QZ) (av ym leB))
   have mx:Wide (x1*x2):=up (by rw [bT];exact bI Jx Jy)
   refine ⟨_,rfl,_,rfl,r1,_,_,_,rfl,rfl,.of e1,rfl,_,_,rfl,rfl,⟨mt,MB ym⟩,_,rfl,r2,_,_,_,rfl,rfl,.of e2,rfl,_,_,rfl,rfl,⟨mt1,MC ET⟩,_,rfl,r1,_,_,_,rfl,rfl,.of e1,rfl,_,rfl,r2,_,_,_,rfl,rfl,.of e2,rfl,_,_,rfl,rfl,⟨MB Jx,MC Jy⟩,_,rfl,_,_,rfl,rfl,⟨mx,mb⟩,_,_,rfl,rfl,?_⟩;refine ⟨_,rfl,_,rfl,r1,_,_,_,rfl,rfl,.of e1,rfl,_,_,rfl,rfl,⟨mb,MB ym⟩,_,rfl,r2,_,_,_,rfl,rfl,.of e2,rfl,_,_,rfl,rfl,⟨mb1,MC ET⟩,?_⟩;refine ⟨sc.trans sT,_,_,by rw [tk];rfl,?_,?_,?_⟩
   ·rw [tk]
    have:=fP (fP (show 0<bo by lia) (show 0<m1 by lia)) (show 0<m2 by lia)
    dsimp only;lia
   ·rw [tk]
    dsimp only;rw [bT,bT,mr,kZ];exact bI bb (bI ym ET)
   ·rw [tk]
    dsimp only;refine av (Int.natAbs_add_le _ _) ?_;rw [bT,bT,bT,bT,mr,ib];refine Nat.add_le_add ?_ ?_
    ·rw [kZ,←kZ i]
     exact bI bt (bI ym ET)
    ·rw [jD]
     exact bI bb (bI Jx Jy)
  ·rintro σ Hc ⟨sc,v5,v6,rfl,b1,bb,bt⟩
   have e:=Ww ps rs (0,1) (vs.zip us).length (by rw [lz];exact aI _)
   rw [e] at b1 bb ⊢;have b0:(aW ps rs (0,1)).2≠0:=by lia
   have lw:=zA (a:=(aW ps rs (0,1)).1) b0;have wb:Wide (aW ps rs (0,1)).2:=by refine dD (av bb (av (fL AK (show (vs.zip us).length≤ps.length by lia)) (gC _ (by decide)))) (hW rfl)
   exact ⟨_,rfl,_,rfl,_,_,rfl,b0,wb,fun r H' s' er=>k (.ref r) H' (sc.trans s') (.bV er lw.1 b0 lw.2.1)⟩
theorem Jz(T:Txt K mg t):aK P w K mg base bO 2 t.qe t.tJ ["p","one","other"] Xt:=aK.imp (Jv T) fun vs H Q E h=>by obtain ⟨q,a,b,ps,rs,rfl,hq,hA,hB,hL,EU,k⟩:=h;exact ⟨q,a,b,_,_,ps,rs,rfl,hq,hA,hB,by decide,by decide,hL.pX,EU.pX,fun z=>dD (gO _ (fL (by decide) (hL.l4 z))) (by decide +kernel),k⟩
variable {c:TT} {u:TS} {D:Ends} {σ:St}
theorem AL{t:TS}(k:∀R:St→Hp→Prop,(∀σ H,D.nx σ H→R σ H)→u6 c t u {D with nx:=R} σ H):u6 c t u D σ H:=k D.nx fun _ _ h=>h
variable {i:Nat}
theorem Q0{r:TS}(h:r D (σ.set i (some v)) H):FJ (mM (tC v) (aO i)) r D σ H:=h
theorem abu{x:Int}(h:0≤x∧x<q)(hq:az q):Wide x:=by
 have:q≤997:=by rcases hq with h | h <;> lia
 exact (cO.of_lt (by lia) (by lia)).wide
theorem swap_eq(M:ax)(c s:Nat):(fun j=>if j=c then M s else (fun j=>if j=s then M c else M j) j)=bZ M c s:=by
 funext i
 unfold bZ;by_cases z:i=c
 ·subst z
  by_cases y:i=s;·subst y;simp
  ·rw [ak rfl,aj y,ak rfl]
 ·rw [aj z,aj z]
theorem abv:br ["p","rows","many","left","row","big","number","count","j","at","lead","i","by","made"] ["p","rows","many"] (aQ D_):=bJ
theorem abw(T:Txt K mg t):aK P w K mg base bO 1 t.tK t.w9 ["p","rows","many"] Yp:=by
 have S:=abv;refine T.xZ.cC S (fun _ _ _ _ H vs _ _ hr h=>?_);obtain ⟨q,a,B,W,aa,rfl,hq,hA,pX,hm,W40,B1,hB,k⟩:=h;have jv:=hr.units
 refine ⟨_,(aq (eI 3 S.nd (gH ah))
  (aq (iG fY rfl (dH (pv 1)) (d9 (i:=4) S.nd rfl (Or.inl rfl))
   (aq (eI 5 S.nd ao)
  (aq (cH (cI gc (pv 0) ao) (aw (iG fY rfl (dH (pv 4)) (d9 (i:=6) S.nd rfl (Or.inl rfl))
   (aw (eI 5 S.nd (ar mT (pv 5) (aC cz (pv 6) ao)))))) cN)
  (aw (pA (qS qH y_ za lA (pv 3) (ae (d4 (N:=["number","p","big"]) (ρ:=(fun σ=>[σ[0]?.join,σ[5]?.join])) (dk [0,5] rfl) rfl (dH (pv 4)) (fun _ _ _=>.nil) (fun _ _ _=>(FH (NU (K:=K) (pv 1) (fun _=>rfl)) (pv 0) (ar mT (aC (qZ (K:=K)) (pv 0) ao) (ar Ho (pv 2) (aC (qZ (K:=K)) (pv 0) ao)))))) ah)))))))
  (aq (putL 7 S.nd ao)
  (aq (iG fY rfl (gG rfl T.fe (ae (pv 2) ah)) (d9 (i:=8) S.nd rfl (Or.inr rfl))
   (aq (qX (i0:=9) (N:=["i","left","j"]) (ρ:=(fun σ=>[σ[3]?.join,σ[8]?.join])) (dk [3,8] rfl) rfl S.nd rfl (Or.inl rfl) (BX rfl T.fe (ae (pv 7) (ae (bU dI rfl T.de dh (ae (pv 3) ah)) ah))) (fun _ _ _=>(.one (cI je (aC (iy (K:=K)) (aC (iy (K:=K)) (pv 1) (pv 0)) (pv 2)) ao))) (fun _ _ _=>(pv 0)))
  (aw (cH (cI (WD jv) (pv 9) (gH ah)) (aq (eI 10 S.nd (aC dF (pv 3) (aC dF (pv 9) ao)))
  (aq (@k9 _ _ _ _ _ _ (aC dF (pv 3) (pv 7)) (mL (pv 3) (aC dF (pv 9) ao) set_list) (by rfl) (by rfl) (by rfl))
  (aq (@k9 _ _ _ _ _ _ (pv 10) (mL (pv 3) (pv 7) set_list) (by rfl) (by rfl) (by rfl))
  (aq (iG fY rfl (BX rfl T.fe (ae (ar gT (pv 7) ao) (ae (bU dI rfl T.de dh (ae (pv 3) ah)) ah))) (d9 (i:=11) S.nd rfl (Or.inl rfl))
   (aq (eI 12 S.nd (aC dF (aC dF (pv 3) (pv 11)) (pv 8)))
  (aq (YC (i0:=13) (N:=["a","b","lead","j","by"]) (ρ:=(fun σ=>[σ[10]?.join,σ[8]?.join,σ[12]?.join])) (mR [10,8,12] rfl) rfl S.nd rfl (Or.inl rfl) (lT rfl T.kO (ae (aC dF (pv 3) (pv 11)) (ae (pv 10) ah))) (fun _ _ _=>.nil) (fun _ _ _=>(ar k_ (ar mT (pv 0) (aC (iy (K:=K)) (pv 2) (pv 3))) (ar mT (pv 1) (pv 4)))))
  (aw (@k9 _ _ _ _ _ _ (d4 (N:=["number","p"]) (ρ:=(fun σ=>[σ[0]?.join])) (dk [0] rfl) rfl (dH (pv 13)) (fun _ _ _=>.nil) (fun _ _ _=>(FH (NU (K:=K) (pv 1) (fun _=>rfl)) (ar cX (pv 0) (pv 1)) (pv 0)))) (mL (pv 3) (pv 11) set_list) (by rfl) (by rfl) (by rfl))))))
  (aw (putL 7 S.nd (ar gT (pv 7) ao))))))) cN))))
  (aw (aN (pv 7))))))),?_⟩
 obtain ⟨vs,ea,lv,fv⟩:=id hA;have JA:q=0→∀j,j≤W+1→B ^ j<2 ^ 8192:=fun z j hj=>by
  have h1:B ^ j≤B ^ (W+1):=fL (by lia) hj
  have h2:(2*B ^ (W+1)) ^ 1≤(2*B ^ (W+1)) ^ (2 ^ (aa.length-2)):=fL (by have:=qG (n:=W+1) (show 0<B by lia);lia) (qG (by decide))
  have h3:=hB z;rw [Nat.pow_one] at h2;lia
 have JB:q=0→B<2 ^ 8192:=fun z=>by have:=JA z 1 (by lia);rw [Nat.pow_one] at this;exact this
 refine ⟨by show 0≤sizeLine;decide,fun l nl=>?_⟩
 have s0:ag H (upd H l (.lst [])):=b_ nl;have Q1:upd H l (.lst []) l=some (.lst []):=aM;generalize upd H l (.lst [])=H0 at s0 Q1 ⊢;dsimp only [aO];simp only [L2.start,dN,ku,iP,jE,List.replicate,kv,jC,a8,a9];refine ⟨_,rfl,a,rfl,⟨_,.of (s0 _ _ ea)⟩,?_⟩;refine qN (K:=K) (a:=a) (xs:=vs) (fun i σ Hc=>ag H Hc∧∃(ls:List V) (v4 v5 v6:Option V),σ=[some (.int q),some (.ref a),some (.int (W:Int)),some (.ref l),v4,v5,v6,none,none,none,none,none,none,none]∧Hc l=some (.lst ls)∧ls.length=i∧∀(i':Nat) (v:V),ls[i']?=some v→∃(x:Addr) (ts:List Int) (b:Int),v=.ref x∧x≠l∧Hc x=some (.lst (ts.map V.int))∧zW q (B ^ (W+1)) W (aa.getD i' []) ts b) ⟨s0,[],none,none,none,rfl,Q1,rfl,fun i' v e=>by simp at e⟩ (fun i σ Hc _ ⟨sc,_⟩=>.of (sc _ _ ea)) ?_ ?_
 ·rintro i v σ Hc hv ⟨sc,ls,v4,v5,v6,rfl,el,ll,EV⟩
  have hi:i<aa.length:=by rw [←lv];exact (aG.mp hv).1
  obtain ⟨r,rfl,ws,ew,lw,fw⟩:=fv i v aa[i] hv (by simp [hi])
  have lp:=hm _ (aE hi);dsimp only [aO];simp only [a8,a9];refine Q0 ?_;simp only [a8,a9];refine gY (AL fun R hR=>?_);dsimp only;have Q2:∀p∈aa[i],aH q p.2∧p.1.natAbs≤B∧p.2.natAbs≤B:=fun p hp=>by
   obtain ⟨j,hj,e⟩:=gQ.mp hp;have cK:j<ws.length:=by lia
   have z:=fw j ws[j] p (by simp [cK]) (by simp [hj,e])
   exact ⟨z.bot hq,z.both B1⟩
  have fin:∀(big:Int) (v6:Option V) (Hd:Hp),ag Hc Hd→aH q big→(∀p∈aa[i],p.2∣big)→big.natAbs≤B ^ W→R [some (.int q),some (.ref a),some (.int (W:Int)),some (.ref l),some (.ref r),some (.int big),v6,none,none,none,none,none,none,none] Hd:=fun big v6 Hd sd EK dv bb=>hR _ _ (by
   have JD:=sd _ _ el;have uA:=sd _ _ (sc _ _ ew);refine ⟨_,rfl,.inl ⟨rfl,_,.of JD⟩,?_⟩;refine eB (xs:=ws) (fun R h=>⟨_,rfl,r,rfl,⟨_,.of uA⟩,h _ _ (ag.refl _) (eK (.of uA))⟩) (by rw [lw,lp];exact cT (by lia)) (fun D j y Hx=>∃t:Int,y=.int t∧t*(aa[i].getD j o1).2=(aa[i].getD j o1).1*big∧t.natAbs≤B ^ (W+1)∧(q≠0→0≤t∧t<q)) (fun D j y Ha Hb ys h e f=>h) ?_ ?_
   ·intro D j v hj He R' se _ kc
    have j1:j<ws.length:=(aG.mp hj).1;have j2:j<aa[i].length:=by lia
    have z:=fw j v aa[i][j] hj (by simp [j2])
    rw [getD_at j2] at kc;have bp:=Q2 _ (aE j2);have dp:=dv _ (aE j2);generalize aa[i][j]=p at z kc bp dp;obtain ⟨x,m⟩:=p;refine ⟨_,rfl,_,rfl,c_ (fun hp=>?_) (fun hp=>?_)⟩
    ·have hp:q≠0:=by simpa using hp
     cases z with
     | bV er lo bx bm=>exact absurd rfl hp
     | rem h0 h1 h2=>exact ⟨_,rfl,kc _ He (ag.refl _) ⟨x,rfl,by rw [EK.2 hp];rfl,av bp.2.1 (Nat.le_self_pow (by lia) B),fun _=>⟨h0,h1⟩⟩⟩
    ·have hp:q=0:=by simpa using hp
     subst hp;cases z with
     | rem h0 h1 h2=>lia
     | bV er lo bx bm=>
      rename_i pa
      have e1:=se _ _ (sd _ _ (sc _ _ er));have m0:m≠0:=by have:=lo.pos;lia
      obtain ⟨e,ee⟩:=dp;dsimp only at ee;have ef:big.fdiv m=e:=by rw [ee,Int.mul_fdiv_cancel_left _ m0]
      have be:e.natAbs≤B ^ W:=by refine av ?_ bb;rw [ee,bT];exact gC _ (jF.mpr m0)
      have we:Wide e:=dD be (JA rfl W (by lia))
      have wx:Wide x:=dD bx (JB rfl);have wm:Wide m:=dD bm (JB rfl);refine ⟨_,rfl,pa,_,_,_,rfl,rfl,.of e1,rfl,_,rfl,_,rfl,pa,_,_,_,rfl,rfl,.of e1,rfl,_,_,rfl,rfl,⟨m0,wm⟩,_,_,rfl,rfl,⟨wx,by rw [ef];exact we⟩,kc _ He (ag.refl _) ⟨x*e,by rw [ef],?_,?_,fun z=>absurd rfl z⟩⟩
      ·dsimp only
       rw [ee];grind
      ·rw [bT]
       exact av (bI bx be) (by rw [mr,jD];exact aI _)
   ·intro D ys He nD se dM hP eD
    obtain ⟨ts,lt,ht⟩:=pick (R:=fun(j:Nat) (y:V) (t:Int)=>y=.int t∧t*(aa[i].getD j o1).2=(aa[i].getD j o1).1*big∧t.natAbs≤B ^ (W+1)∧(q≠0→0≤t∧t<q)) hP;have ey:ys=ts.map V.int:=ox lt.symm fun j v e=>by
     have j1:j<ys.length:=(aG.mp e).1;have j2:j<ts.length:=by lia
     exact ⟨ts[j],by simp [j2],(ht j v ts[j] e (by simp [j2])).1⟩
    have lt':ts.length=W:=by rw [lt,dM,lw,lp]
    have JE:∀j,j<W→ts.getD j 0*(aa[i].getD j o1).2=(aa[i].getD j o1).1*big∧(ts.getD j 0).natAbs≤B ^ (W+1)∧(q≠0→0≤ts.getD j 0∧ts.getD j 0<q):=fun j hj=>by
     have j1:j<ys.length:=by lia
     have j2:j<ts.length:=by lia
     rw [getD_at j2];exact (ht j ys[j] ts[j] (by simp [j1]) (by simp [j2])).2
    rw [ey] at eD;have Q3:D≠l:=fun e=>by rw [e,JD] at nD;cases nD
    have yo:=se _ _ JD;refine ⟨l,ls,_,rfl,rfl,yo,dD (show ls.length≤100 by lia) (by decide),?_⟩
    have I_:H l=none:=nl;refine ⟨ft (sc.trans (sd.trans se)) I_,ls++[.ref D],_,_,_,rfl,aM,by simp [ll],fun i' v fc=>?_⟩
    by_cases z:i'<ls.length
    ·rw [iS z] at fc
     obtain ⟨x,ts',b,e1,e2,e3,e4⟩:=EV i' v fc;exact ⟨x,ts',b,e1,e2,by rw [bE e2];exact se _ _ (sd _ _ e3),e4⟩
    ·have ei:i'=i:=by have:=(aG.mp fc).1;simp at this;lia
     subst ei;rw [iQ (by lia),ll,qC] at fc
     cases fc;refine ⟨D,ts,big,rfl,Q3,by rw [bE Q3];exact eD,?_⟩
     rw [getD_at hi];refine ⟨lt',EK,fun k' fJ=>(JE k' fJ).1,fun k'=>?_,fun z k' fJ=>(JE k' fJ).2.2 z⟩;by_cases fJ:k'<W;·exact (JE k' fJ).2.1
     ·rw [l5 (by lia)]
      exact fh _)
  refine ⟨_,rfl,rfl,_,rfl,c_ (fun hp=>?_) (fun hp=>?_)⟩
  ·have hp:q=0:=by simpa using hp
   subst hp;refine ⟨_,rfl,r,rfl,⟨_,.of (sc _ _ ew)⟩,?_⟩;refine qN (K:=K) (a:=r) (xs:=ws) (fun j σ Hd=>ag Hc Hd∧∃(big:Int) (v6:Option V),σ=[some (.int 0),some (.ref a),some (.int (W:Int)),some (.ref l),some (.ref r),some (.int big),v6,none,none,none,none,none,none,none]∧1≤big∧(∀p∈aa[i].take j,p.2∣big)∧big.natAbs≤B ^ j) ⟨ag.refl _,1,v6,rfl,by decide,(fun p hp=>by simp at hp),by simp⟩ (fun j σ Hd _ ⟨sd,_⟩=>.of (sd _ _ (sc _ _ ew))) ?_ ?_
   ·rintro j v σ Hd hj ⟨sd,big,Q4,rfl,b1,dv,bb⟩
    have j1:j<ws.length:=(aG.mp hj).1;have j2:j<aa[i].length:=by lia
    have z:=fw j v aa[i][j] hj (by simp [j2])
    have tk:aa[i].take (j+1)=aa[i].take j++[aa[i][j]]:=by rw [List.take_succ];simp [j2]
    rw [tk];generalize aa[i][j]=p at z;obtain ⟨x,m⟩:=p;cases z with
    | rem h0 h1 h2=>lia
    | bV er lo bx bm=>
     rename_i pa
     have mp:=lo.pos;have wb:Wide big:=dD bb (JA rfl j (by lia))
     have wm:Wide m:=dD bm (JB rfl);dsimp only [aO];simp only [a8,a9];refine ⟨_,rfl,_,rfl,pa,_,_,_,rfl,rfl,.of (sd _ _ (sc _ _ er)),rfl,_,_,rfl,rfl,⟨wb,wm⟩,?_⟩;refine ⟨sd,big*m,_,rfl,?_,fun p hp=>?_,?_⟩
     ·have:=fP (show 0<big by lia) (show 0<m by lia)
      lia
     ·rcases uJ.mp hp with y | y
      ·exact o6 (dv p y) (Int.dvd_mul_right ..)
      ·rw [qy.mp y]
       exact BE ..
     ·rw [bT,mr]
      exact bI bb bm
   ·rintro σ Hd ⟨sd,big,Q4,rfl,b1,dv,bb⟩
    rw [lw,List.take_length] at dv;refine fin big Q4 Hd sd ⟨fun _=>b1,fun z=>absurd rfl z⟩ dv (av bb ?_);rw [lw,lp];exact aI _
  ·have hp:q≠0:=by simpa using hp
   exact fin 1 v6 Hc (ag.refl _) aH.one (fun p fV=>by rw [((Q2 p fV).1).2 hp];exact jG 1) (qG (by lia))
 ·rintro σ H1 ⟨s1,ls,v4,v5,v6,rfl,el,ll,EV⟩
  obtain ⟨f,hf⟩:=oB (n:=aa.length) (α:=List Int×Int) (R:=fun i y=>∃x:Addr,ls[i]?=some (.ref x)∧x≠l∧H1 x=some (.lst (y.1.map V.int))∧zW q (B ^ (W+1)) W (aa.getD i []) y.1 y.2) fun i hi=>by
   have aR:i<ls.length:=by lia
   obtain ⟨x,ts,b,e1,h2,h3,h4⟩:=EV i ls[i] (by simp [aR])
   exact ⟨(ts,b),x,by rw [←e1];simp [aR],h2,h3,h4⟩
  obtain ⟨AA,m5⟩:∃AA:Nat→Nat→Int,∀i k,AA i k=(f i).1.getD k 0:=⟨fun i k=>(f i).1.getD k 0,fun i k=>rfl⟩;have iR:oF H1 l aa.length W AA:=by
   refine ⟨ls,el,by lia,fun i v hv=>?_⟩
   have aR:i<aa.length:=by have:=(aG.mp hv).1;lia
   obtain ⟨x,e1,e2,e3,e4⟩:=hf i aR;rw [e1] at hv;cases hv;refine ⟨x,rfl,e2,?_⟩;rw [show AA i=fun k=>(f i).1.getD k 0 from funext fun k=>m5 i k,NJ _ e4.len];exact e3
  have I0:iN q aa.length W (2*B ^ (W+1)) AA AA 0 0 (fun _=>0):=iN.start (fun z i k' hi hk=>by
    obtain ⟨x,e1,e2,e3,e4⟩:=hf i hi;rw [m5 i k'];exact e4.rem z k' hk) (fun z i k' hi hk=>by
    obtain ⟨x,e1,e2,e3,e4⟩:=hf i hi;rw [m5 i k'];exact gO 2 (e4.bd k'))
  have nk:∀{M:ax} {c:Nat} {g:Nat→Nat},iN q aa.length W (2*B ^ (W+1)) AA M c W g→∃L,j8 q aa.length W aa L∧L.length=c:=fun{M c g} h=>h.lead hq (b:=fun i=>(f i).2) rfl hm (fun ps h1 p h2=>(hA.nums hq ps h1 p h2).2.1) (fun i hi=>by
    obtain ⟨x,e1,e2,e3,e4⟩:=hf i hi;exact e4.ok) (fun i k' hi hk=>by
    obtain ⟨x,e1,e2,e3,e4⟩:=hf i hi;rw [m5 i k'];exact e4.eq k' hk)
  clear hf m5 EV ll;dsimp only;refine Q0 ?_;simp only [a8,a9];refine ⟨_,rfl,(W:Int),rfl,by lia,by lia,?_⟩
  rw [eR];refine pC (fun j σ Hc=>ag H Hc∧∃(M:ax) (c:Nat) (g:Nat→Nat) (v8 v9 v10 v11 uB uC:Option V),σ=[some (.int q),some (.ref a),some (.int (W:Int)),some (.ref l),v4,v5,v6,some (.int (c:Int)),v8,v9,v10,v11,uB,uC]∧oF Hc l aa.length W M∧iN q aa.length W (2*B ^ (W+1)) AA M c j g) ⟨s1,AA,0,fun _=>0,none,none,none,none,none,none,rfl,iR,I0⟩ ?_ ?_
  ·rintro j σ Hc hj ⟨sc,M,c,g,v8,v9,v10,v11,uB,uC,rfl,iR,I⟩
   rw [show (0:Int)+(j:Int)=(j:Int) by lia]
   obtain ⟨ls,el,ll,fl⟩:=id iR;have cn:=I.cn;dsimp only [aO];simp only [a8,a9];refine gY (iK (Xv (xs:=(List.range (aa.length-c)).map fun i:Nat=>V.int ((c:Int)+(i:Int))) (fun i=>!decide (V.int (M (c+i) j)=V.int 0)) (fun R h=>⟨_,rfl,_,rfl,l,ls,rfl,.inl (.of el),(c:Int),(ls.length:Int),rfl,⟨by lia,by lia,by lia,by lia⟩,?_⟩) (by rw [aY,fH];exact cT (by lia)) ?_ (fun i x hx Hd R h=>⟨_,rfl,h⟩) ?_))
   ·rw [show ((ls.length:Int)-(c:Int)).toNat=aa.length-c by lia]
    exact h _ _ (ag.refl _) lM
   ·intro i x hx Hd R sd h
    have hi:i<aa.length-c:=by have:=(aG.mp hx).1;simpa using this
    have ex:x=.int ((c:Int)+(i:Int)):=by rw [bj] at hx;simp [hi] at hx;exact hx.symm
    subst ex;have hc:c+i<ls.length:=by lia
    obtain ⟨y,ey,_,AM⟩:=fl (c+i) ls[c+i] (by simp [hc])
    refine ⟨_,rfl,_,rfl,l,ls,_,.ref y,rfl,rfl,.of (sd _ _ el),?_,_,rfl,y,_,_,_,rfl,rfl,.of (sd _ _ AM),pY hj (M (c+i)),rfl,_,rfl,h⟩;rw [show (c:Int)+(i:Int)=((c+i:Nat):Int) by lia]
    exact dA (by rw [←ey];simp [hc])
   ·intro D ys Hd nD sd h1 h2 eD
    dsimp only [aO];simp only [a8,a9];have nts:∀v∈ys,∃i,v=.int i:=fun v hv=>by
     obtain ⟨i,_,e⟩:=h1 v hv;rw [bj] at e;cases e':(List.range (aa.length-c))[i]? with
     | none=>rw [e'] at e;cases e
     | some w=>rw [e'] at e;cases e;exact ⟨_,rfl⟩
    refine ⟨_,rfl,by show 0≤sizeLine;decide,fun b nb=>?_⟩
    have s2:ag Hd (upd Hd b (.lst [])):=b_ nb;have eb:upd Hd b (.lst []) b=some (.lst []):=aM;generalize upd Hd b (.lst [])=He at s2 eb;have Q5:=sc.trans (sd.trans s2);have JF:=(iR.mono sd).mono s2;have EW:=s2 _ _ eD;refine ⟨D,b,ys,rfl,rfl,.of EW,eb,nts,_,rfl,?_⟩;cases ys with
    | nil=>
     refine eG ?_;refine ⟨Q5,M,c,g,_,_,_,_,_,_,rfl,JF,I.skip fun i h3 h4=>?_⟩;refine o_ fun h5=>h2 (i-c) (by rw [aY,fH];lia) ?_ rfl
     rw [show c+(i-c)=i by lia]
     simpa using h5
    | cons v ye=>
     refine gd ?_;obtain ⟨i0,Q6,AN⟩:=h1 v i6;have pN:i0<aa.length-c:=by have:=(aG.mp AN).1;simpa using this
     have ev:v=.int ((c+i0:Nat):Int):=by rw [bj] at AN;simp [pN] at AN;rw [←AN];simp
     subst ev;have ns:M (c+i0) j≠0:=by simpa using Q6
     have Q7:c≤c+i0:=by lia
     have sn:c+i0<aa.length:=by lia
     generalize c+i0=s' at ns Q7 sn EW;clear AN Q6 pN;have yo:=s2 _ _ (sd _ _ el);have JF:=(iR.mono sd).mono s2;have dJ:s'<ls.length:=by lia
     have e_:c<ls.length:=by lia
     obtain ⟨x,ex,xl,JG⟩:=fl s' ls[s'] (by simp [dJ])
     obtain ⟨y,ey,yl,AM⟩:=fl c ls[c] (by simp [e_])
     have JG:=s2 _ _ (sd _ _ JG);have AM:=s2 _ _ (sd _ _ AM);have Dl:D≠l:=fun e=>by rw [e,el] at nD;cases nD
     have ats:d_ ls (s':Int)=some (.ref x):=dA (by rw [←ex];simp [dJ])
     have CN:d_ ls (c:Int)=some (.ref y):=dA (by rw [←ey];simp [e_])
     have ka:d_ (V.int (s':Int)::ye) 0=some (V.int (s':Int)):=by exact dA (j:=0) rfl
     refine ⟨_,rfl,_,rfl,D,_,_,_,rfl,rfl,.of EW,ka,l,ls,_,.ref x,rfl,rfl,.of yo,ats,?_⟩;dsimp only [aO];simp only [a8,a9];refine ⟨_,rfl,_,rfl,l,ls,_,.ref y,rfl,rfl,.of yo,CN,_,rfl,_,rfl,D,_,_,_,rfl,rfl,.of EW,ka,l,ls,_,s',rfl,rfl,yo,(by unfold iJ;rw [ak (by lia),ak (by lia),eR]),?_⟩
     have Q8:=JF.put yo yl AM sn;have JH:upd He l (.lst (ls.set s' (.ref y))) l=some (.lst (ls.set s' (.ref y))):=aM;have JI:upd He l (.lst (ls.set s' (.ref y))) x=some (.lst (((List.range W).map (M s')).map V.int)):=by rw [bE xl];exact JG
     have s3:ag H (upd He l (.lst (ls.set s' (.ref y)))):=ft Q5 nl;dsimp only;generalize upd He l (.lst (ls.set s' (.ref y)))=H3 at Q8 JH JI s3 ⊢;refine ⟨_,rfl,_,rfl,_,rfl,l,ls.set s' (.ref y),_,c,rfl,rfl,JH,(by unfold iJ;rw [kj,ak (by lia),ak (by lia),eR]),?_⟩
     have ur:=Q8.put JH xl JI (show c<aa.length by lia)
     rw [swap_eq] at ur;have EX:upd H3 l (.lst ((ls.set s' (.ref y)).set c (.ref x))) x=some (.lst (((List.range W).map (M s')).map V.int)):=by rw [bE xl];exact JI
     have s4:ag H (upd H3 l (.lst ((ls.set s' (.ref y)).set c (.ref x)))):=ft s3 nl;have yf:upd H3 l (.lst ((ls.set s' (.ref y)).set c (.ref x))) l=some (.lst ((ls.set s' (.ref y)).set c (.ref x))):=aM;dsimp only;generalize upd H3 l (.lst ((ls.set s' (.ref y)).set c (.ref x)))=H4 at ur EX s4 yf ⊢;obtain ⟨I',JJ⟩:=I.next hq (by have:=qG (n:=W+1) (show 0<B by lia);lia) hj Q7 sn ns
     have e1:bZ M c s' c=M s':=by
      unfold bZ;by_cases z:c=s';·rw [ak z,z]
      ·rw [aj z,ak rfl]
     rw [←e1] at EX;generalize bZ M c s'=M1 at ur EX I' JJ;refine ⟨_,rfl,_,_,rfl,rfl,_,rfl,l,_,rfl,.inl (.of yf),_,_,rfl,⟨by lia,by lia,by lia,by have:=kj (as:=ls.set s' (.ref y)) (i:=c) (a:=.ref x);have:=kj (as:=ls) (i:=s') (a:=.ref y);lia⟩,?_⟩
     rw [show (((((ls.set s' (.ref y)).set c (.ref x)).length:Nat):Int)-((c:Int)+1)).toNat=aa.length-(c+1) by simp;lia]
     have r0:iA q M1 c j 0=M1:=by
      funext i
      unfold iA;rw [aj (by lia)]
     refine pC (fun m σ Hc=>ag H Hc∧∃(v11 uB uC:Option V),σ=[some (.int q),some (.ref a),some (.int (W:Int)),some (.ref l),v4,v5,v6,some (.int (c:Int)),some (.int (j:Int)),some (.ref D),some (.ref x),v11,uB,uC]∧oF Hc l aa.length W (iA q M1 c j m)∧Hc x=some (.lst (((List.range W).map (M1 c)).map V.int))) ⟨s4,_,_,_,rfl,by rw [r0];exact ur,EX⟩ ?_ ?_
     ·rintro m σ H5 fI ⟨s5,v11,uB,uC,rfl,EY,AO⟩
      obtain ⟨i',hI⟩:∃i',i'=c+1+m:=⟨_,rfl⟩;have ei:(c:Int)+1+(m:Int)=(i':Int):=by lia
      rw [ei];have hi:i'<aa.length:=by lia
      have er:iA q M1 c j m (i')=M1 (i'):=by unfold iA;rw [aj (by lia)]
      have Jw:iA q M1 c j (m+1)=fun j'=>if j'=i' then (fun k=>if q=0 then M1 (i') k*M1 c j-M1 c k*M1 (i') j else (M1 (i') k*M1 c j-M1 c k*M1 (i') j) % q) else iA q M1 c j m j':=by
       funext j'
       by_cases z:j'=i'
       ·rw [ak z,z]
        unfold iA;rw [ak ⟨by lia,by lia⟩]
       ·rw [aj z]
        unfold iA;by_cases w:c<j'∧j'<c+1+m;·rw [ak w,ak ⟨w.1,by lia⟩]
        ·rw [aj w,aj (fun u=>w ⟨u.1,by lia⟩)]
      obtain ⟨yp,kU,ll5,fl5⟩:=id EY;have h5:i'<yp.length:=by lia
      obtain ⟨y5,ey5,yl5,EZ⟩:=fl5 (i') yp[i'] (by simp [h5])
      rw [er] at EZ;have wd:∀i k,i<aa.length→k<W→Wide (M1 i k):=fun i k hi hk=>by
       by_cases z:q=0
       ·have h1:=(JJ i k hi hk).2 z
        have h2:=hB z;have h3:(2*B ^ (W+1)) ^ (2 ^ c)≤(2*B ^ (W+1)) ^ (2 ^ (aa.length-2)):=fL (by have:=qG (n:=W+1) (show 0<B by lia);lia) (fL (by decide) (by lia))
        unfold Wide;lia
       ·exact abu ((JJ i k hi hk).1 z) hq
      have oI:c<aa.length:=by lia
      dsimp only [aO];simp only [a8,a9];have Q9:d_ yp (i':Int)=some (.ref y5):=dA (by rw [←ey5];simp [h5])
      refine ⟨_,rfl,_,rfl,l,yp,_,.ref y5,rfl,rfl,.of kU,Q9,_,rfl,y5,_,_,_,rfl,rfl,.of EZ,pY hj (M1 i'),?_⟩;dsimp only [aO];simp only [a8,a9];refine gY (iK (G8 (xs:=(List.range W).map (M1 i')) (ys:=(List.range W).map (M1 c)) (fun u v=>u*M1 c j-v*M1 i' j) (by simp;lia) (fun R h=>⟨_,rfl,_,rfl,l,yp,_,.ref y5,rfl,rfl,.of kU,Q9,_,rfl,y5,x,rfl,⟨_,.of EZ⟩,⟨_,.of AO⟩,h _ _ (ag.refl _) (lV (.of EZ) (.of AO))⟩) ?_ ?_))
      ·intro u v huv Hf R sf kf
       have mz:=yQ huv;obtain ⟨k1,IS,rfl⟩:=du.mp mz.1;obtain ⟨k2,IT,rfl⟩:=du.mp mz.2;exact ⟨_,rfl,_,rfl,_,rfl,x,_,_,_,rfl,rfl,.of (sf _ _ AO),pY hj (M1 c),_,_,rfl,rfl,⟨wd _ _ hi (e7.mp IS),wd _ _ oI hj⟩,_,rfl,_,rfl,_,_,rfl,rfl,⟨wd _ _ oI (e7.mp IT),wd _ _ hi hj⟩,_,_,rfl,rfl,kf Hf (ag.refl _)⟩
      ·intro D6 H6 nD6 s6 JK
       have ez:=G7 W (M1 i') (M1 c) (fun u v=>u*M1 c j-v*M1 i' j);rw [ez] at JK;dsimp only [aO];simp only [a8,a9];refine iK (WI (ts:=(List.range W).map fun k=>M1 i' k*M1 c j-M1 c k*M1 i' j) (fun t=>if q=0 then t else t % q) (by simp;lia) (fun R h=>⟨_,rfl,D6,rfl,⟨_,.of JK⟩,h _ _ (ag.refl _) (eK (.of JK))⟩) ?_ ?_)
       ·intro t _ Hf R sf kf
        refine ⟨_,rfl,_,rfl,c_ (fun hp=>?_) (fun hp=>?_)⟩
        ·have hp:q≠0:=by simpa using hp
         rw [aj hp] at kf;have q0:0<q:=by rcases hq with h | h <;> lia
         exact ⟨_,rfl,_,rfl,_,_,rfl,rfl,q0,kf Hf (ag.refl _)⟩
        ·have hp:q=0:=by simpa using hp
         rw [ak hp] at kf;exact ⟨_,rfl,kf Hf (ag.refl _)⟩
       ·intro D7 H7 EJ s7 yg
        have E3:=s6.trans s7;have Q_:=E3 _ _ kU;have em:((List.range W).map fun k=>M1 i' k*M1 c j-M1 c k*M1 i' j).map (fun t=>if q=0 then t else t % q)=(List.range W).map fun k=>if q=0 then M1 i' k*M1 c j-M1 c k*M1 i' j else (M1 i' k*M1 c j-M1 c k*M1 i' j) % q:=by rw [y7];rfl
        rw [em] at yg;have D7l:D7≠l:=fun e=>by rw [e,s6 _ _ kU] at EJ;cases EJ
        refine ⟨_,rfl,_,rfl,l,yp,_,i',rfl,rfl,Q_,(by unfold iJ;rw [ak (by lia),ak (by lia),eR]),?_⟩
        have iR8:=(EY.mono E3).put Q_ D7l yg hi;refine ⟨ft (s5.trans E3) nl,_,_,_,rfl,?_,?_⟩
        ·rw [Jw]
         exact iR8
        ·have xl':x≠l:=xl
         rw [bE xl'];exact E3 _ _ AO
     ·rintro σ H5 ⟨s5,v11,uB,uC,rfl,EY,AO⟩
      refine ⟨_,rfl,_,_,rfl,rfl,?_⟩;exact ⟨s5,_,c+1,_,_,_,_,_,_,_,rfl,EY,I'⟩
  ·rintro σ Hc ⟨sc,M,c,g,v8,v9,v10,v11,uB,uC,rfl,iR,I⟩
   obtain ⟨L,hL,eL⟩:=nk I;have kk:=k L Hc sc hL;rw [eL] at kk;exact ⟨_,rfl,kk⟩
theorem E4{t:TS}(b:Bool)(hc:∀Q:Bool→Hp→Prop,Q b H→c σ H Q)(ht:b=true→t D σ H)(hu:b=false→u D σ H):u6 c t u D σ H:=hc _ (by
 cases b with
 | true=>rw [ak rfl];exact ht rfl
 | false=>rw [aj dW];exact hu rfl)
variable {Q:Bool→Hp→Prop}
theorem eq_test{w:Int}(e:σ[i]?=some (some (.int w)))(h:Q (decide (w=a)) H):zj (kC BZ (pj i) (tC (.int a))) σ H Q:=⟨.int w,e,rfl,_,rfl,by rw [jj];exact h⟩
theorem Ra{w b:Int}(e:σ[i]?=some (some (.int w)))(h:Q (decide (w=a) || decide (w=b)) H):Lo (zj (kC BZ (pj i) (tC (.int a)))) (zj (kC BZ (pj i) (tC (.int b)))) σ H Q:=by
 refine eq_test e ?_;cases z:decide (w=a) with
 | true=>rw [z,Bool.true_or] at h;rw [ak rfl];exact h
 | false=>rw [z,Bool.false_or] at h;rw [aj dW];exact eq_test e h
def AQ(n kk:Nat)(way:Int)(f:Nat→List (Int×Int)):Prop:=(∀i,i<n→da (10 ^ 12) (10 ^ 6) (f i))∨(way≠3∧way≠4∧∀i,i<n→da (if i=kk then 10 ^ 30 else 10 ^ 12) (if i=kk then 2*10 ^ 12 else 10 ^ 6) (f i))
def JL(n kk:Nat)(way:Int)(f:Nat→List (Int×Int)):Prop:=(∀i,i<n→da (10 ^ 12) (10 ^ 6) (f i))∨(way≠3∧way≠4∧∀i,i<n→da (if i=kk then 10 ^ 36 else 10 ^ 18) (if i=kk then 4*10 ^ 18 else 2*10 ^ 12) (f i))
def Rb(n kk:Nat)(way:Int)(f:Nat→List (Int×Int)):Prop:=JL n kk way f∨(way≠4∧∀i,i<n→da (10 ^ 24) (10 ^ 12) (f i))
variable {n kk:Nat} {way:Int} {f:Nat→List (Int×Int)}
theorem AQ.up(h:AQ n kk way f):∀i,i<n→da (if i=kk then 10 ^ 30 else 10 ^ 12) (if i=kk then 2*10 ^ 12 else 10 ^ 6) (f i):=fun i hi=>by
 rcases h with h | ⟨_,_,h⟩
 ·refine (h i hi).weak ?_ ?_
  ·split <;> decide
  ·split <;> decide
 ·exact h i hi
theorem AQ.two(h:AQ n kk way f):JL n kk way f:=by
 rcases h with h | ⟨h1,h2,h⟩;·exact .inl h
 ·refine .inr ⟨h1,h2,fun i hi=>(h i hi).weak ?_ ?_⟩
  ·split <;> decide
  ·split <;> decide
structure E5 (H Hc:Hp) (q:Int) (tb yb:Addr) (n m:Nat) (A:Nat→Addr) (f:Nat→List (Int×Int)) (byp:a_):Prop where
 same:ag H Hc
 dt:iZ H Hc q tb n m A f
 hy:bC (10 ^ 150) Hc q yb byp
 ty:tb≠yb
 ay:∀i,i<n→A i≠yb
variable {ps:a_}
theorem abH{x:Addr}(hq:az q)(hn:q≠0)(h:bC B H q x ps):b5 q 1000 ps:=by
 have nums:=h.nums hq;have q9:q≤997:=by rcases hq with h | h <;> lia
 refine ⟨1,fun j=>(ps.getD j o1).1,⟨fun z=>absurd z hn,fun _=>rfl⟩,by decide,fun p hp=>?_,fun j hj=>?_⟩
 ·rw [((nums p hp).1.2 hn).1];exact jG 1
 ·obtain ⟨c1,c2,c3⟩:=(nums _ (by rw [getD_at hj];exact aE _:ps.getD j o1∈ps)).1.2 hn
  rw [c1];exact ⟨rfl,by dsimp only;lia⟩
def abI(K:aL):Sp:=fun vs H Q _=>∃(sa:Addr) (ns:List Int) (q:Int) (n m hd ka:Nat),vs=[.ref sa,.int q,.int (n:Int),.int (m:Int),.int (hd:Int),.int (ka:Int)]∧cu K H sa (ns.map V.int)∧az q∧1≤n∧pW q n∧1≤m∧pW q m∧hd≤1000∧ka≤1000 ∧
 ∀(r:Addr) (H':Hp) (aa:aD) (G Dl:Nat→Nat),ag H H'→rf (10 ^ 60) H H' q r aa→aa.length=n→(∀ps∈aa,ps.length=m)→(∀i,1000≤G i∧G i≤10 ^ 60)→(q=0→cq n G≤10 ^ 146)→(q≠0→∀i,G i=1000)→(∀i,i<n→b5 q (G i) (aa.getD i []))→(q=0→n≤3→cq n Dl≤10 ^ 72)→(q=0→∀i,i<n→da (Dl i) (4*10 ^ 18) (aa.getD i []))→Q (.ref r) H'
theorem Rc{k:Nat}(n1:1≤n)(n3:n≤3):cq n (fun i=>if i=k then 10 ^ 36 else 10 ^ 18)≤10 ^ 72:=by
 obtain ⟨n',rfl⟩:∃n',n=n'+1:=⟨n-1,by lia⟩
 refine av (Hu (by decide) k n') (av (gO _ (fL (by decide) (show n'≤2 by lia))) (by decide +kernel))
theorem abJ(n3:n≤3):cq n (fun _=>10 ^ 24)≤10 ^ 72:=by rw [vI];exact av (fL (by decide) n3) (by decide +kernel)
theorem abK:br ["script","p","n","m","head","at","table","way","rest","by","two","i","row"] ["script","p","n","m","head","at"] (aQ Ea):=bJ
theorem Rf(T:Txt K mg t):aK P w K mg base bO 3 t.tL t.w_ ["script","p","n","m","head","at"] (abI K):=by
 have S:=abK;refine T.t_.cC S (fun _ _ _ _ H vs Q _ hr h=>?_);obtain ⟨sa,ns,q,n,m,hd,ka,rfl,hS,hq,n1,hn,m1,hm,hd0,ha0,k⟩:=h
 refine ⟨_,(aq (eI 6 S.nd (vw (N:=["i","m","p","script","at"]) (ρ:=(fun σ=>[σ[3]?.join,σ[1]?.join,σ[0]?.join,σ[5]?.join])) ⟨rfl,rfl,(fun _=>rfl),(fun _=>rfl),by decide +kernel,(ic.mpr ⟨rfl,(ic.mpr ⟨rfl,(ic.mpr ⟨rfl,(ic.mpr ⟨rfl,(nC _)⟩)⟩)⟩)⟩),qY (by rfl),rfl,by decide +kernel,rfl,(fun σ j v h=>match j,h with | 0,h=>⟨3,_,rfl,rfl,join_some h,Or.inr (Or.inl rfl),.inl rfl,.inl rfl⟩ | 1,h=>⟨1,_,rfl,rfl,join_some h,Or.inr (Or.inl rfl),.inl rfl,.inl rfl⟩ | 2,h=>⟨0,_,rfl,rfl,join_some h,Or.inr (Or.inl rfl),.inl rfl,.inl rfl⟩ | 3,h=>⟨5,_,rfl,rfl,join_some h,Or.inr (Or.inl rfl),.inl rfl,.inl rfl⟩ | j+4,h=>by cases h),(fun _ _=>rfl)⟩ rfl (gG rfl T.fe (ae (pv 2) ah)) (fun _ _ _=>.nil) (fun _ _ _=>(d4 (N:=["j","p","script","at","i","m"]) (ρ:=(fun σ=>[σ[2]?.join,σ[3]?.join,σ[4]?.join,σ[0]?.join,σ[1]?.join])) (dk [2,3,4,0,1] rfl) rfl (gG rfl T.fe (ae (pv 1) ah)) (fun _ _ _=>.nil) (fun _ _ _=>(aA (Ju T) hr T.EC T.qp.kp T.EB aP (ae (pv 1) (ae (aA (AH T) hr T.xS T.mY.kp T.xR aP (ae (pv 2) (ae (ar gT (ar gT (pv 3) (ar f_ (pv 4) (pv 5))) (pv 0)) ah))) ah))))))))
  (aq (putL 7 S.nd (ar cX (aA (AH T) hr T.xS T.mY.kp T.xR aP (ae (pv 0) (ae (pv 4) ah))) ao))
  (aq (eI 8 S.nd (ar iu (aA (AH T) hr T.xS T.mY.kp T.xR aP (ae (pv 0) (ae (pv 4) ah))) ao))
  (aq (eI 9 S.nd (gH (ae (aA (Ju T) hr T.EC T.qp.kp T.EB aP (ae (pv 1) (ae (ar iu (pv 8) ao) ah))) (ae (aA (Ju T) hr T.EC T.qp.kp T.EB aP (ae (pv 1) (ae (ar iu (pv 8) ao) ah))) ah))))
  (aq (cH (PW.pt (pw_or (cI gc (pv 7) ao) (pw_or1 (cI gc (pv 7) ao)))) (aq (putL 10 S.nd (gH (ae (aC dF (pv 6) (ar cX (ar iu (pv 8) ao) (pv 2))) (ae (aC dF (pv 6) (ar cX (ar iu (pv 8) ao) (pv 2))) ah))))
  (aw (@k9 _ _ _ _ _ _ (oo (N:=["a","b","p","by"]) (ρ:=(fun σ=>[σ[1]?.join,σ[9]?.join])) (mR [1,9] rfl) rfl (lT rfl T.kO (ae (aC dF (pv 10) ao) (ae (aC dF (pv 10) ao) ah))) (fun _ _ _=>.nil) (fun _ _ _=>(aA (Jz T) hr T.xY T.mZ.kp T.xX aP (ae (pv 2) (ae (pv 3) (ae (gH (ae (pv 0) (ae (pv 1) ah))) ah)))))) (mL (pv 6) (ar cX (pv 8) (pv 2)) set_list) (by rfl) (by rfl) (by rfl)))) cN)
  (aq (cH (PW.pt (pw_or (cI gc (pv 7) ao) (pw_or1 (cI gc (pv 7) ao)))) (aw (iG fY rfl (gG rfl T.fe (ae (pv 2) ah)) (d9 (i:=11) S.nd rfl (Or.inl rfl))
   (aq (putL 12 S.nd (aC dF (pv 6) (pv 11)))
  (aw (@k9 _ _ _ _ _ _ (aA (Jz T) hr T.xY T.mZ.kp T.xX aP (ae (pv 1) (ae (pv 9) (ae (gH (ae (aC dF (pv 12) (ar cX (ar iu (pv 8) ao) (pv 3))) (ae (aC dF (pv 12) (ar cX (ar iu (pv 8) ao) (pv 3))) ah))) ah)))) (mL (pv 12) (ar cX (ar iu (pv 8) ao) (pv 3)) set_list) (by rfl) (by rfl) (by rfl)))))) cN)
  (aq (cH (cI gc (pv 7) ao) (aw (eI 6 S.nd (vw (N:=["row","table","p"]) (ρ:=(fun σ=>[σ[6]?.join,σ[1]?.join])) ⟨rfl,rfl,(fun _=>rfl),(fun _=>rfl),by decide +kernel,(ic.mpr ⟨rfl,(ic.mpr ⟨rfl,(nC _)⟩)⟩),qY (by rfl),rfl,by decide +kernel,rfl,(fun σ j v h=>match j,h with | 0,h=>⟨6,_,rfl,rfl,join_some h,Or.inr (Or.inl rfl),.inl rfl,.inl rfl⟩ | 1,h=>⟨1,_,rfl,rfl,join_some h,Or.inr (Or.inl rfl),.inl rfl,.inl rfl⟩ | j+2,h=>by cases h),(fun _ _=>rfl)⟩ rfl (dH (pv 6)) (fun _ _ _=>.nil) (fun _ _ _=>(d4 (N:=["number","p","row"]) (ρ:=(fun σ=>[σ[2]?.join,σ[0]?.join])) (dk [2,0] rfl) rfl (GJ (K:=K) (aC (iy (K:=K)) (pv 1) ao)) (fun _ _ _=>.nil) (fun _ _ _=>(aA (Jz T) hr T.xY T.mZ.kp T.xX aP (ae (pv 1) (ae (gH (ae (aC (iy (K:=K)) (pv 2) ao) ah)) (ae (gH (ae (pv 0) ah)) ah)))))))))) cN)
  (aq (cH (cI gc (pv 7) ao) (aw (eI 6 S.nd (d4 (N:=["i","table","rest","n"]) (ρ:=(fun σ=>[σ[6]?.join,σ[8]?.join,σ[2]?.join])) (dk [6,8,2] rfl) rfl (gG rfl T.fe (ae (pv 2) ah)) (fun _ _ _=>.nil) (fun _ _ _=>(n8 (Wq (K:=K)) rfl T.x9 boot_list (ae (aC (iy (K:=K)) (pv 1) (bU (TZ rfl) rfl T.P4 boot_min (ae (pv 0) (ae (ar cX (pv 2) (pv 3)) ah)))) ah)))))) cN)
  (aw (aN (pv 6))))))))))),?_⟩
 have eO:=hn.pX;have j9:=hm.pX;have im:∀i:Nat,i<n→(i:Int)*(m:Int)≤1600∧0≤(i:Int)*(m:Int):=fun i hi=>by
  have:=bI (show i≤40 by lia) j9
  have e:(i:Int)*(m:Int)=((i*m:Nat):Int):=by simp
  lia
 refine gY (iK (vH (n:=n) (xs:=(List.range n).map fun i:Nat=>V.int (0+(i:Int))) (by simp) (fun R h=>⟨_,rfl,(n:Int),rfl,by lia,by lia,h _ _ (ag.refl _) (by rw [eR];exact lM)⟩) (cT (by lia)) (fun D i y Hx=>∃ps:List (Int×Int),H y=none∧bC (10 ^ 6) Hx q y ps∧ps.length=m∧∀p∈ps,p.2.natAbs≤1000) (fun D i y Ha Hb ys ⟨ps,h0,h1,h2,h3⟩ nD e f=>⟨ps,h0,oG h1 nD e f,h2,h3⟩) ?_ ?_))
 ·intro D i v hi Hc R sc ⟨zs,eD⟩ kc
  obtain ⟨aR,rfl⟩:=oy hi;obtain ⟨im1,im2⟩:=im i aR;refine eB (xs:=(List.range m).map fun i:Nat=>V.int (0+(i:Int))) (fun R h=>⟨_,rfl,(m:Int),rfl,by lia,by lia,h _ _ (ag.refl _) (by rw [eR];exact lM)⟩) (by rw [aY,fH];exact cT (by lia)) (fun D j y Hx=>∃p:Int×Int,cD (10 ^ 6) Hx q y p.1 p.2∧p.2.natAbs≤1000) (fun D i y Ha Hb ys ⟨p,h0,h1⟩ e f=>⟨p,h0.bu e f,h1⟩) ?_ ?_
  ·intro D' j v hj Hd R' sd _ kd
   obtain ⟨cK,rfl⟩:=oy hj;refine ⟨_,rfl,_,rfl,_,rfl,_,rfl,_,rfl,_,_,rfl,rfl,.inl ⟨by lia,by lia⟩,_,_,rfl,rfl,_,rfl,_,_,rfl,rfl,sa,ns,_,rfl,(sc.trans sd).seq hS,by lia,by lia,fun H3 s3=>⟨q,_,rfl,hq,Gw ..,fun v x mm H4 s4 hN hb=>kd v H4 (s3.trans s4) ⟨(x,mm),hN,hb⟩⟩⟩
  ·intro D' ys Hd m8 sd dM hP i3
   obtain ⟨ps,lp,hp⟩:=pick (R:=fun _ y p=>cD (10 ^ 6) Hd q y (Prod.fst p) (Prod.snd p)∧(Prod.snd p).natAbs≤1000) hP;rw [aY,fH] at dM;refine kc D' Hd sd m8 ⟨_,i3⟩ ⟨ps,none_of sc m8,⟨ys,i3,lp.symm,fun j v p h1 h2=>(hp j v p h1 h2).1⟩,by lia,fun p fV=>?_⟩
   obtain ⟨j,hj,e⟩:=gQ.mp fV;have j1:j<ys.length:=by lia
   exact (hp j ys[j] p (by simp [j1]) (by simp [hj,e])).2
 intro tb A1 H1 Rg s1 inj hA yq;have yr:=fun i hi=>(hA i hi).1;obtain ⟨f,hf⟩:=oB (n:=n) (α:=List (Int×Int)) (R:=fun i ps=>H (A1 i)=none∧bC (10 ^ 6) H1 q (A1 i) ps∧ps.length=m∧∀p∈ps,p.2.natAbs≤1000) yr;have dt:iZ H H1 q tb n m A1 f:=⟨yq,Rg,inj,fun i hi=>by obtain ⟨h1,h2,h3,_⟩:=hf i hi;exact ⟨(hA i hi).2,h1,h2.weak (by decide),h3⟩⟩
 have bv:q=0→∀i,i<n→da (10 ^ 12) (10 ^ 6) (f i):=fun z i hi=>by
  obtain ⟨h1,h2,h3,h4⟩:=hf i hi;refine (NV (f i) fun p hp=>?_).weak ?_ (aI _)
  ·obtain ⟨_,b,v,hv⟩:=h2.nums hq p hp
   exact ⟨(hv.both (by decide)).1,b.1 z,h4 p hp⟩
  ·rw [h3]
   exact av (fL (by decide) (hm.l4 z)) (by decide)
 clear hf yr hA inj yq;dsimp only [aO];simp only [L2.start,dN,ku,iP,jE,List.replicate,kv,jC,a8,a9];have d0:=Gw ns hd;have d1:=MN ns hd;refine ⟨_,rfl,_,rfl,sa,ns,hd,rfl,s1.seq hS,by lia,by lia,fun H2 s2=>⟨_,_,rfl,rfl,(by show (0:Int)<8;decide),?_⟩⟩
 dsimp only [aO];simp only [a8,a9];refine ⟨_,rfl,_,rfl,sa,ns,hd,rfl,(s1.trans s2).seq hS,by lia,by lia,fun H3 s3=>⟨_,_,rfl,rfl,⟨by decide,cO.of_lt (by decide) (by decide)⟩,?_⟩⟩
 dsimp only [aO];simp only [a8,a9];generalize ajr:lI ns hd % 8=way;have r0:0≤lI ns hd / 8:=o5 d0 (by decide)
 generalize lI ns hd / 8=rest at r0;have uD:∀c:Int,0<c→c<10000→Gs rest c:=fun c h1 h2=>⟨h1,cO.of_lt (by lia) (by lia)⟩
 refine ⟨_,rfl,_,rfl,_,_,rfl,rfl,uD 1000 (by decide) (by decide),q,_,rfl,hq,o5 r0 (by decide),fun b0 x0 m0 H4 s4 E6 lb0=>?_⟩
 refine ⟨_,rfl,_,rfl,_,_,rfl,rfl,uD 7000 (by decide) (by decide),q,_,rfl,hq,o5 r0 (by decide),fun b1 x1 qu H5 s5 um lb1=>?_⟩
 refine ⟨by show 2≤sizeLine;decide,fun yb yt=>?_⟩
 have s6:ag H5 (upd H5 yb (.lst [b0,b1])):=b_ yt;have Rh:upd H5 yb (.lst [b0,b1]) yb=some (.lst [b0,b1]):=aM;generalize upd H5 yb (.lst [b0,b1])=H6 at s6 Rh ⊢;have Ri:bC (10 ^ 150) H6 q yb [(x0,m0),(x1,qu)]:=by
  refine ⟨[b0,b1],Rh,rfl,fun i v p h1 h2=>?_⟩;have w0:=((E6.mono s5).mono s6).weak (show 10 ^ 6≤10 ^ 150 by decide +kernel)
  have w1:=(um.mono s6).weak (show 10 ^ 6≤10 ^ 150 by decide +kernel)
  match i,h1,h2 with
  | 0,h1,h2=>cases h1;cases h2;exact w0
  | 1,h1,h2=>cases h1;cases h2;exact w1
 have E7:q=0→rj x0 m0 x1 qu:=fun z=>⟨(E6.both (by decide)).1,(um.both (by decide)).1,(E6.bot hq).1 z,(um.bot hq).1 z,lb0,lb1⟩
 have yu:=s2.trans (s3.trans (s4.trans (s5.trans s6)));have i4:=s2.trans (s3.trans (s4.trans s5));have JM:tb≠yb:=fun e=>by rw [←e,i4 _ _ dt.at'] at yt;cases yt
 have abN:∀i,i<n→A1 i≠yb:=fun i hi e=>by obtain ⟨_,_,⟨vs,e',_⟩,_⟩:=dt.rows i hi;rw [e] at e';rw [i4 _ _ e'] at yt;cases yt
 have E8:=dt.mono yu;have JN:=s1.trans yu;clear E6 um yt s2 s3 s4 s5 s6 i4 yu dt;dsimp only [aO];simp only [a8,a9];have nn:(n:Int)≠0:=by lia
 have np:(0:Int)<(n:Int):=by lia
 have modn:∀e:Int,∃u:Nat,u<n∧e % (n:Int)=(u:Int):=fun e=>by have h1:=eE e nn;have h2:=eW e np;exact ⟨(e % (n:Int)).toNat,by lia,by lia⟩
 have mn:(m:Int)≠0:=by lia
 have mp:(0:Int)<(m:Int):=by lia
 have JO:∀e:Int,∃u:Nat,u<m∧e % (m:Int)=(u:Int):=fun e=>by have h1:=eE e mn;have h2:=eW e mp;exact ⟨(e % (m:Int)).toNat,by lia,by lia⟩
 obtain ⟨kk,JP,Rj⟩:=modn rest;have Rk:=abN;have I6:E5 H H6 q tb yb n m A1 f [(x0,m0),(x1,qu)]:=⟨JN,E8,Ri,JM,Rk⟩;refine gY (AL fun R1 hR1=>?_);have AI:∀(A2:Nat→Addr) (f2:Nat→List (Int×Int)) (v9:Option V) (H7:Hp),E5 H H7 q tb yb n m A2 f2 [(x0,m0),(x1,qu)]→(q=0→AQ n kk way f2)→R1 [some (.ref sa),some (.int q),some (.int (n:Int)),some (.int (m:Int)),some (.int (hd:Int)),some (.int (ka:Int)),some (.ref tb),some (.int way),some (.int rest),some (.ref yb),v9,none,none] H7:=fun A2 f2 v9 H7 I7 b7=>hR1 _ _ (by
  dsimp only;refine gY (AL fun R2 EN=>?_);have fin2:∀(f3:Nat→List (Int×Int)) (v10 v11:Option V) (H8:Hp),E5 H H8 q tb yb n m A2 f3 [(x0,m0),(x1,qu)]→(q=0→JL n kk way f3)→R2 [some (.ref sa),some (.int q),some (.int (n:Int)),some (.int (m:Int)),some (.int (hd:Int)),some (.int (ka:Int)),some (.ref tb),some (.int way),some (.int rest),some (.ref yb),v9,v10,v11] H8:=fun f3 v10 v11 H8 I8 b8=>EN _ _ (by
   dsimp only;refine gY (AL fun R3 hR3=>?_);have Rl:∀(ke:Addr) (A4:Nat→Addr) (f4:Nat→List (Int×Int)) (H9:Hp),ag H H9→iZ H H9 q ke n m A4 f4→(q=0→Rb n kk way f4)→R3 [some (.ref sa),some (.int q),some (.int (n:Int)),some (.int (m:Int)),some (.int (hd:Int)),some (.int (ka:Int)),some (.ref ke),some (.int way),some (.int rest),some (.ref yb),v9,v10,v11] H9:=fun ke A4 f4 H9 s9 kg b9=>hR3 _ _ (by
    dsimp only;refine gY (AL fun R4 hR4=>?_);have Rm:∀(ke:Addr) (A4:Nat→Addr) (f4:Nat→List (Int×Int)) (H9:Hp),ag H H9→iZ H H9 q ke n m A4 f4→(q=0→Rb n kk way f4)→R4 [some (.ref sa),some (.int q),some (.int (n:Int)),some (.int (m:Int)),some (.int (hd:Int)),some (.int (ka:Int)),some (.ref ke),some (.int way),some (.int rest),some (.ref yb),v9,v10,v11] H9:=fun ke A4 f4 H9 s9 kg b9=>hR4 _ _ (by
     have row:∀i,i<n→((List.range n).map f4).getD i []=f4 i:=fun i hi=>by
      rw [getD_at (by simpa using hi)]
      simp
     have g_:∀ps∈(List.range n).map f4,ps.length=m:=fun ps hp=>by obtain ⟨i,hi,e⟩:=du.mp hp;rw [←e];exact (kg.rows i (e7.mp hi)).2.2.2
     have iz:∀i,i<n→∀p∈f4 i,Canon q p:=fun i hi p hp=>((kg.rows i hi).2.2.1.nums hq p hp).1;dsimp only;refine ⟨_,rfl,?_⟩;by_cases z:q=0
     ·subst z
      rcases b9 rfl with (b | ⟨_,_,b⟩) | ⟨_,b⟩
      ·refine k ke H9 _ (fun i=>if i=kk then 4*10 ^ 54 else 2*10 ^ 30) (fun i=>if i=kk then 10 ^ 36 else 10 ^ 18) s9 kg.CU (by simp) g_ (fun i=>?_) (fun _=>NX n1 (hn.l4 rfl)) (fun y=>absurd rfl y) (fun i hi=>?_) (fun _ n3=>Rc n1 n3) (fun _ i hi=>?_)
       ·split <;> decide
       ·rw [row i hi]
        refine (b i hi).e (iz i hi) ?_ (by decide)
        split <;> decide
       ·rw [row i hi]
        refine (b i hi).weak ?_ (by decide)
        split <;> decide
      ·refine k ke H9 _ (fun i=>if i=kk then 4*10 ^ 54 else 2*10 ^ 30) (fun i=>if i=kk then 10 ^ 36 else 10 ^ 18) s9 kg.CU (by simp) g_ (fun i=>?_) (fun _=>NX n1 (hn.l4 rfl)) (fun y=>absurd rfl y) (fun i hi=>?_) (fun _ n3=>Rc n1 n3) (fun _ i hi=>?_)
       ·split <;> decide
       ·rw [row i hi]
        have bi:=b i hi;by_cases y:i=kk
        ·rw [ak y,ak y] at bi
         rw [ak y];exact bi.e (iz i hi) (by decide) (by decide)
        ·rw [aj y,aj y] at bi
         rw [aj y];exact bi.e (iz i hi) (by decide) (by decide)
       ·rw [row i hi]
        refine (b i hi).weak (aI _) ?_
        split <;> decide
      ·refine k ke H9 _ (fun _=>10 ^ 36) (fun _=>10 ^ 24) s9 kg.CU (by simp) g_ (fun i=>by decide) (fun _=>XF (hn.l4 rfl)) (fun y=>absurd rfl y) (fun i hi=>?_) (fun _ n3=>abJ n3) (fun _ i hi=>?_)
       ·rw [row i hi]
        exact (b i hi).e (iz i hi) (by decide) (by decide)
       ·rw [row i hi]
        exact (b i hi).weak (aI _) (by decide)
     ·refine k ke H9 _ (fun _=>1000) (fun _=>1) s9 kg.CU (by simp) g_ (fun i=>by decide) (fun y=>absurd y z) (fun _ _=>rfl) (fun i hi=>?_) (fun y=>absurd y z) (fun y=>absurd y z)
      rw [row i hi];exact abH hq z (kg.rows i hi).2.2.1)
    refine E4 (decide (way=4)) (fun Q h=>eq_test rfl h) (fun hw=>?_) (fun hw=>Rm ke A4 f4 H9 s9 kg b9);have hw:way=4:=by simpa using hw
    have abR:q=0→∀i,i<n→da (10 ^ 12) (10 ^ 6) (f4 i):=fun z=>by
     rcases b9 z with (b | ⟨_,y,_⟩) | ⟨y,_⟩;·exact b
     ·exact absurd hw y
     ·exact absurd hw y
    have yv:∀j:Nat,j<n→d_ ((List.range n).map fun i=>V.ref (A4 i)) (j:Int)=some (.ref (A4 j)):=fun j hj=>dA (by simp [hj])
    refine iK (vH (n:=n) (xs:=(List.range n).map fun i:Nat=>V.int (0+(i:Int))) (by simp) (fun R h=>⟨_,rfl,(n:Int),rfl,by lia,by lia,h _ _ (ag.refl _) (by rw [eR];exact lM)⟩) (cT (by lia)) (fun D i y Hx=>∃ps:List (Int×Int),H y=none∧bC (10 ^ 60) Hx q y ps∧ps.length=m∧(q=0→da (10 ^ 12) (10 ^ 6) ps)) (fun D i y Ha Hb ys ⟨ps,h0,h1,h2,h3⟩ nD e f=>⟨ps,h0,oG h1 nD e f,h2,h3⟩) ?_ ?_)
    ·intro D i v hi Hc R sc ⟨zs,eD⟩ kc
     obtain ⟨aR,rfl⟩:=oy hi;obtain ⟨w,wn,ew⟩:∃w:Nat,w<n∧(if rest % (n:Int)<(i:Int) then rest % (n:Int) else (i:Int))=(w:Int):=by
      rw [Rj];by_cases y:(kk:Int)<(i:Int);·rw [ak y];exact ⟨kk,JP,rfl⟩
      ·rw [aj y];exact ⟨i,aR,rfl⟩
     obtain ⟨h1,h2,⟨ws,m9,kT,qv⟩,h4⟩:=kg.rows w wn;refine ⟨_,rfl,_,rfl,_,rfl,_,rfl,_,_,rfl,rfl,np,_,_,rfl,ke,_,_,.ref (A4 w),rfl,rfl,.of (sc _ _ kg.at'),by rw [ew];exact yv w wn,A4 w,ws,rfl,.inl (.of (sc _ _ m9)),fun b nb=>?_⟩
     have sb:ag Hc (upd Hc b (.lst ws)):=b_ nb;refine kc b _ sb nb ⟨_,aM⟩ ⟨f4 w,none_of (s9.trans sc) nb,⟨ws,aM,kT,fun j v p h1 h2=>((qv j v p h1 h2).mono sc).mono sb⟩,h4,fun z=>abR z w wn⟩
    ·intro JQ A5 m6 JR kW inj hA yq
     have yr:=fun i hi=>(hA i hi).1;obtain ⟨f5,hf⟩:=oB (n:=n) (α:=List (Int×Int)) (R:=fun i ps=>H (A5 i)=none∧bC (10 ^ 60) m6 q (A5 i) ps∧ps.length=m∧(q=0→da (10 ^ 12) (10 ^ 6) ps)) yr;refine Rm JQ A5 f5 m6 (s9.trans kW) ⟨yq,none_of s9 JR,inj,fun i hi=>?_⟩ fun z=>.inl (.inl fun i hi=>(hf i hi).2.2.2 z);obtain ⟨h1,h2,h3,_⟩:=hf i hi;exact ⟨(hA i hi).2,h1,h2,h3⟩)
   refine E4 (decide (way=3)) (fun Q h=>eq_test rfl h) (fun hw=>?_) (fun hw=>Rl tb A2 f3 H8 I8.same I8.dt fun z=>.inl (b8 z));have hw:way=3:=by simpa using hw
   have E9:q=0→∀i,i<n→da (10 ^ 12) (10 ^ 6) (f3 i):=fun z=>by
    rcases b8 z with b | ⟨y,_,_⟩;·exact b
    ·exact absurd hw y
   have oV:=I8.dt;have n0:0<n:=by lia
   have m0':0<m:=by lia
   have JS:d_ ((List.range n).map fun i=>V.ref (A2 i)) 0=some (.ref (A2 0)):=by exact dA (j:=0) (by simp [n0])
   obtain ⟨q1,q2,⟨us,AR,Rn,JT⟩,q4⟩:=id (oV.rows 0 n0);refine iK (vH (n:=n) (xs:=(List.range n).map fun i=>V.ref (A2 i)) (by simp) (fun R h=>⟨_,rfl,tb,rfl,⟨_,.of oV.at'⟩,h _ _ (ag.refl _) (eK (.of oV.at'))⟩) (cT (by lia)) (fun D i y Hx=>∃ps:List (Int×Int),H y=none∧bC (10 ^ 60) Hx q y ps∧ps.length=m∧(q=0→da (10 ^ 24) (10 ^ 12) ps)) (fun D i y Ha Hb ys ⟨ps,h0,h1,h2,h3⟩ nD e f=>⟨ps,h0,oG h1 nD e f,h2,h3⟩) ?_ ?_)
   ·intro D i v hi Hc R sc ⟨zs,eD⟩ kc
    have aR:i<n:=by have:=(aG.mp hi).1;simpa using this
    have ev:v=.ref (A2 i):=by rw [bj] at hi;simp [aR] at hi;exact hi.symm
    subst ev;obtain ⟨h1,h2,⟨ws,m9,kT,qv⟩,h4⟩:=oV.rows i aR;have w0:0<ws.length:=by lia
    have p0:0<(f3 i).length:=by lia
    have aw0:d_ ws 0=some ws[0]:=by exact dA (j:=0) (by simp [w0])
    have z0:=qv 0 ws[0] (f3 i)[0] (by simp [w0]) (by simp [p0])
    refine eB (xs:=us) (fun R h=>⟨_,rfl,tb,_,_,_,rfl,rfl,.of (sc _ _ oV.at'),JS,A2 0,rfl,⟨_,.of (sc _ _ AR)⟩,h _ _ (ag.refl _) (eK (.of (sc _ _ AR)))⟩) (by rw [Rn,q4];exact cT (by lia)) (fun D j y Hx=>∃p:Int×Int,cD (10 ^ 60) Hx q y p.1 p.2∧(q=0→∀X Dd:Int,aX 0 (aW [(f3 i).getD 0 o1] [(f3 0).getD j o1] (0,1)) (X,Dd)→1≤Dd→p.1*Dd=X*p.2)) (fun D j y Ha Hb ys ⟨p,h0,h1⟩ e ff=>⟨p,h0.bu e ff,h1⟩) ?_ ?_
    ·intro D' j v hj Hd R' sd _ kd
     have j1:j<us.length:=(aG.mp hj).1;have j2:j<(f3 0).length:=by lia
     have z1:=JT j v (f3 0)[j] hj (by simp [j2])
     have JU:=sc.trans sd;refine ⟨_,rfl,_,rfl,A2 i,ws,_,_,rfl,rfl,.of (JU _ _ m9),aw0,by show 1≤sizeLine;decide,fun l1 JV=>?_⟩
     have Ro:ag Hd (upd Hd l1 (.lst [ws[0]])):=b_ JV;have gL:upd Hd l1 (.lst [ws[0]]) l1=some (.lst [ws[0]]):=aM;generalize upd Hd l1 (.lst [ws[0]])=He at Ro gL ⊢;refine ⟨_,rfl,by show 1≤sizeLine;decide,fun l2 JW=>?_⟩
     have JX:ag He (upd He l2 (.lst [v])):=b_ JW;have Ay:upd He l2 (.lst [v]) l2=some (.lst [v]):=aM;generalize upd He l2 (.lst [v])=Hf at JX Ay ⊢;have JY:=Ro.trans JX;have r1:bC (10 ^ 150) Hf q l1 [(f3 i)[0]]:=by
      refine ⟨[ws[0]],JX _ _ gL,rfl,fun i' v' p h1 h2=>?_⟩;have w1:=((z0.mono JU).mono JY).weak (show 10 ^ 60≤10 ^ 150 by decide +kernel)
      match i',h1,h2 with
      | 0,h1,h2=>cases h1;cases h2;exact w1
     have r2:bC (10 ^ 150) Hf q l2 [(f3 0)[j]]:=by
      refine ⟨[v],Ay,rfl,fun i' v' p h1 h2=>?_⟩;have w1:=((z1.mono JU).mono JY).weak (show 10 ^ 60≤10 ^ 150 by decide +kernel)
      match i',h1,h2 with
      | 0,h1,h2=>cases h1;cases h2;exact w1
     have Rp:pW q 1:=⟨by decide,fun _=>by decide⟩
     refine ⟨q,l1,l2,_,_,rfl,hq,r1,r2,Rp,Rp,fun v' H' s' hN=>?_⟩;obtain ⟨p,hp,yw⟩:=Hs hq hN fun z=>by
      have:=XD (E9 z i aR) (E9 z 0 n0) p0 j2 (by decide +kernel) (by decide)
      rw [getD_at p0,getD_at j2] at this;exact this
     refine kd v' H' (JY.trans s') ⟨p,hp,?_⟩;rw [getD_at p0,getD_at j2];exact yw
    ·intro D' ys Hd m8 sd dM hP i3
     obtain ⟨ps,lp,hp⟩:=pick (R:=fun j y p=>cD (10 ^ 60) Hd q y (Prod.fst p) (Prod.snd p)∧(q=0→∀X Dd:Int,aX 0 (aW [(f3 i).getD 0 o1] [(f3 0).getD j o1] (0,1)) (X,Dd)→1≤Dd→(Prod.fst p)*Dd=X*(Prod.snd p))) hP;have AS:ps.length=m:=by lia
     refine kc D' Hd sd m8 ⟨_,i3⟩ ⟨ps,none_of (I8.same.trans sc) m8,⟨ys,i3,lp.symm,fun j v p h1 h2=>(hp j v p h1 h2).1⟩,AS,fun z=>?_⟩;refine (XC (E9 z i aR) (E9 z 0 n0) p0 q4 AS fun j hj X Dd w d1=>?_).weak (by decide) (by decide)
     have j1:j<ys.length:=by lia
     have j2:j<ps.length:=by lia
     rw [getD_at j2];exact (hp j ys[j] ps[j] (by simp [j1]) (by simp [j2])).2 z X Dd w d1
   ·intro JQ A5 m6 JR kW inj hA yq
    have yr:=fun i hi=>(hA i hi).1;obtain ⟨f5,hf⟩:=oB (n:=n) (α:=List (Int×Int)) (R:=fun i ps=>H (A5 i)=none∧bC (10 ^ 60) m6 q (A5 i) ps∧ps.length=m∧(q=0→da (10 ^ 24) (10 ^ 12) ps)) yr;refine Rl JQ A5 f5 m6 (I8.same.trans kW) ⟨yq,none_of I8.same JR,inj,fun i hi=>?_⟩ fun z=>.inr ⟨by lia,fun i hi=>(hf i hi).2.2.2 z⟩
    obtain ⟨h1,h2,h3,_⟩:=hf i hi;exact ⟨(hA i hi).2,h1,h2,h3⟩)
  refine E4 (decide (way=2) || decide (way=5)) (fun Q h=>Ra rfl h) (fun hw=>?_) (fun hw=>fin2 f2 none none H7 I7 fun z=>(b7 z).two);have Rq:way≠3∧way≠4:=by
   constructor;·intro e;rw [e] at hw;simp at hw
   ·intro e;rw [e] at hw;simp at hw
  obtain ⟨cc,ccm,ecc⟩:=JO (rest / 3);obtain ⟨dd,ddm,edd⟩:=JO (rest / 18);obtain ⟨ee,eem,eee⟩:=JO (rest / 108);refine ⟨_,rfl,(n:Int),rfl,by lia,by lia,?_⟩
  rw [eR];refine pC (fun i σ Hc=>∃(f3:Nat→List (Int×Int)) (v10 v11:Option V),σ=[some (.ref sa),some (.int q),some (.int (n:Int)),some (.int (m:Int)),some (.int (hd:Int)),some (.int (ka:Int)),some (.ref tb),some (.int way),some (.int rest),some (.ref yb),v9,v10,v11]∧E5 H Hc q tb yb n m A2 f3 [(x0,m0),(x1,qu)]∧(q=0→∀i',i'<n→(i'<i→da (if i'=kk then 10 ^ 36 else 10 ^ 18) (if i'=kk then 4*10 ^ 18 else 2*10 ^ 12) (f3 i'))∧(i≤i'→da (if i'=kk then 10 ^ 30 else 10 ^ 12) (if i'=kk then 2*10 ^ 12 else 10 ^ 6) (f3 i')))) ⟨f2,none,none,rfl,I7,fun z i' aR=>⟨fun h=>by lia,fun _=>(b7 z).up i' aR⟩⟩ ?_ ?_
  ·rintro i σ Hc hi ⟨f3,v10,v11,rfl,I,b⟩
   rw [show (0:Int)+(i:Int)=(i:Int) by lia]
   dsimp only [aO];simp only [a8,a9];have yv:d_ ((List.range n).map fun i=>V.ref (A2 i)) (i:Int)=some (.ref (A2 i)):=dA (by simp [hi])
   refine ⟨_,rfl,_,rfl,tb,_,_,_,rfl,rfl,.of I.dt.at',yv,?_⟩;dsimp only [aO];simp only [a8,a9];obtain ⟨h1,h2,⟨ws,m9,kT,qv⟩,h4⟩:=id (I.dt.rows i hi);have d1:dd<ws.length:=by lia
   have e1:ee<ws.length:=by lia
   have d2:dd<(f3 i).length:=by lia
   have e2:ee<(f3 i).length:=by lia
   have z1:=qv dd ws[dd] (f3 i)[dd] (by simp [d1]) (by simp [d2])
   have z2:=qv ee ws[ee] (f3 i)[ee] (by simp [e1]) (by simp [e2])
   have atd:d_ ws (rest / 18 % (m:Int))=some ws[dd]:=by rw [edd];exact dA (by simp [d1])
   have ate:d_ ws (rest / 108 % (m:Int))=some ws[ee]:=by rw [eee];exact dA (by simp [e1])
   refine ⟨_,rfl,_,rfl,_,rfl,_,rfl,_,_,rfl,rfl,uD 18 (by decide) (by decide),_,rfl,_,_,rfl,rfl,mp,A2 i,ws,_,_,rfl,rfl,.of m9,atd,?_⟩
   refine ⟨_,rfl,_,rfl,_,_,rfl,rfl,uD 108 (by decide) (by decide),_,rfl,_,_,rfl,rfl,mp,A2 i,ws,_,_,rfl,rfl,.of m9,ate,by show 2≤sizeLine;decide,fun l nl=>?_⟩
   have sl:ag Hc (upd Hc l (.lst [ws[dd],ws[ee]])):=b_ nl;have el:upd Hc l (.lst [ws[dd],ws[ee]]) l=some (.lst [ws[dd],ws[ee]]):=aM;generalize upd Hc l (.lst [ws[dd],ws[ee]])=Hd at sl el ⊢;have hl:bC (10 ^ 150) Hd q l [(f3 i)[dd],(f3 i)[ee]]:=by
    refine ⟨[ws[dd],ws[ee]],el,rfl,fun i v p h1 h2=>?_⟩;have w0:=(z1.mono sl).weak (show 10 ^ 60≤10 ^ 150 by decide +kernel)
    have w1:=(z2.mono sl).weak (show 10 ^ 60≤10 ^ 150 by decide +kernel)
    match i,h1,h2 with
    | 0,h1,h2=>cases h1;cases h2;exact w0
    | 1,h1,h2=>cases h1;cases h2;exact w1
   have l2:pW q 2:=⟨by decide,fun _=>by decide⟩
   refine ⟨q,yb,l,_,_,rfl,hq,I.hy.mono sl,hl,l2,l2,fun v' H' s' hN=>?_⟩;obtain ⟨p,hp,yw⟩:=Hs hq hN fun z=>by
    have bi:=(b z i hi).2 (aI _);have bi:da (10 ^ 30) (2*10 ^ 12) (f3 i):=by
     by_cases y:i=kk;·rw [ak y,ak y] at bi;exact bi
     ·rw [aj y,aj y] at bi;exact bi.weak (by decide) (by decide)
    have:=XE (E7 z) bi d2 e2 (by decide +kernel) (by decide)
    rw [getD_at d2,getD_at e2] at this;exact this
   have E_:=sl.trans s';have JZ:=E_ _ _ m9;have dt':=I.dt.mono E_;refine ⟨_,rfl,_,rfl,_,_,rfl,rfl,uD 3 (by decide) (by decide),_,rfl,_,_,rfl,rfl,mp,A2 i,ws,_,cc,rfl,rfl,JZ,?_,?_⟩
   ·rw [ecc]
    unfold iJ;rw [ak (by lia),ak (by lia),eR]
   ·refine ⟨_,_,_,rfl,⟨ft (I.same.trans E_) h2,dt'.cell hi JZ hp ccm,oG (I.hy.mono E_) (Ne.symm (I.ay i hi)) JZ rh,I.ty,I.ay⟩,fun z i' aR=>⟨fun h=>?_,fun h=>?_⟩⟩
    ·by_cases y:i'=i
     ·subst y
      have bi:=(b z i' hi).2 (aI _);rw [←getD_at d2 (d:=o1),←getD_at e2 (d:=o1)] at yw;have:=XB (c:=cc) (E7 z) bi d2 e2 (yw z);rw [ak rfl];refine this.weak ?_ ?_;·split <;> decide
      ·split <;> decide
     ·rw [aj y]
      exact (b z i' aR).1 (by lia)
    ·have ne:¬i'=i:=by lia
     rw [aj ne];exact (b z i' aR).2 (by lia)
  ·rintro σ Hc ⟨f3,v10,v11,rfl,I,b⟩
   exact fin2 f3 v10 v11 Hc I fun z=>.inr ⟨Rq.1,Rq.2,fun i hi=>(b z i hi).1 hi⟩)
 refine E4 (decide (way=1) || decide (way=5)) (fun Q h=>Ra rfl h) (fun hw=>?_) (fun hw=>AI A1 f none H6 I6 fun z=>.inl (bv z));obtain ⟨u,un,eu⟩:=modn (rest / 6);obtain ⟨v,vn,ev⟩:=modn (rest / 36);have yv:∀j:Nat,j<n→d_ ((List.range n).map fun i=>V.ref (A1 i)) (j:Int)=some (.ref (A1 j)):=fun j hj=>dA (by simp [hj])
 refine ⟨_,rfl,_,rfl,_,_,rfl,rfl,uD 6 (by decide) (by decide),_,rfl,_,_,rfl,rfl,np,tb,_,_,_,rfl,rfl,.of E8.at',by rw [eu];exact yv u un,?_⟩
 refine ⟨_,rfl,_,rfl,_,_,rfl,rfl,uD 36 (by decide) (by decide),_,rfl,_,_,rfl,rfl,np,tb,_,_,_,rfl,rfl,.of E8.at',by rw [ev];exact yv v vn,?_⟩
 refine ⟨by show 2≤sizeLine;decide,fun tw ntw=>?_⟩
 have s7:ag H6 (upd H6 tw (.lst [.ref (A1 u),.ref (A1 v)])):=b_ ntw;have J0:upd H6 tw (.lst [.ref (A1 u),.ref (A1 v)]) tw=some (.lst [.ref (A1 u),.ref (A1 v)]):=aM;generalize upd H6 tw (.lst [.ref (A1 u),.ref (A1 v)])=H7 at s7 J0 ⊢;have AU:=E8.mono s7;have J1:=Ri.mono s7;dsimp only [aO];simp only [a8,a9];obtain ⟨ru1,ru2,⟨us,AR,Rn,JT⟩,ru3⟩:=id (AU.rows u un);obtain ⟨rv1,rv2,⟨ws,m9,kT,qv⟩,rv3⟩:=id (AU.rows v vn);have JS:d_ [V.ref (A1 u),V.ref (A1 v)] 0=some (.ref (A1 u)):=by exact dA (j:=0) rfl
 have ab3:d_ [V.ref (A1 u),V.ref (A1 v)] 1=some (.ref (A1 v)):=by exact dA (j:=1) rfl
 refine iK (vA (Z:=fun zs Hx=>zs=us.zip ws∧Hx=H7) (fun R h=>⟨_,rfl,tw,_,_,_,rfl,rfl,.of J0,JS,_,rfl,tw,_,_,_,rfl,rfl,.of J0,ab3,A1 u,A1 v,rfl,⟨_,.of AR⟩,⟨_,.of m9⟩,h _ _ _ (ag.refl _) (lV (.of AR) (.of m9)) (cT (by rw [ko];lia)) ⟨rfl,rfl⟩⟩) (fun D j y Hx=>∃p:Int×Int,cD (10 ^ 60) Hx q y p.1 p.2∧(q=0→∀X Dd:Int,aX 0 (aW [(x0,m0),(x1,qu)] [(f u).getD j o1,(f v).getD j o1] (0,1)) (X,Dd)→1≤Dd→p.1*Dd=X*p.2)) (fun D j y Ha Hb ys ⟨p,h0,h1⟩ e ff=>⟨p,h0.bu e ff,h1⟩) ?_ ?_)
 ·rintro zs Hx ⟨rfl,rfl⟩ _ D j x y gi Hc R sc _ kc
  obtain ⟨h1,h2⟩:=mh.mp gi;have j1:j<us.length:=(aG.mp h1).1;have j2:j<ws.length:=(aG.mp h2).1;have j3:j<(f u).length:=by lia
  have j4:j<(f v).length:=by lia
  have z1:=(JT j x (f u)[j] h1 (by simp [j3])).mono sc
  have z2:=(qv j y (f v)[j] h2 (by simp [j4])).mono sc
  refine ⟨_,rfl,_,rfl,_,rfl,_,rfl,by show 2≤sizeLine;decide,fun l nl=>?_⟩
  have sl:ag Hc (upd Hc l (.lst [x,y])):=b_ nl;have el:upd Hc l (.lst [x,y]) l=some (.lst [x,y]):=aM;generalize upd Hc l (.lst [x,y])=Hd at sl el ⊢;have hl:bC (10 ^ 150) Hd q l [(f u)[j],(f v)[j]]:=by
   refine ⟨[x,y],el,rfl,fun i v p h1 h2=>?_⟩;have w0:=(z1.mono sl).weak (show 10 ^ 60≤10 ^ 150 by decide +kernel)
   have w1:=(z2.mono sl).weak (show 10 ^ 60≤10 ^ 150 by decide +kernel)
   match i,h1,h2 with
   | 0,h1,h2=>cases h1;cases h2;exact w0
   | 1,h1,h2=>cases h1;cases h2;exact w1
  have l2:pW q 2:=⟨by decide,fun _=>by decide⟩
  refine ⟨q,yb,l,_,_,rfl,hq,(J1.mono sc).mono sl,hl,l2,l2,fun v' H' s' hN=>?_⟩;obtain ⟨p,hp,yw⟩:=Hs hq hN fun z=>by
   have:=XA (E7 z) (bv z u un) (bv z v vn) j3 j4 (by decide +kernel) (by decide)
   rw [getD_at j3,getD_at j4] at this;exact this
  refine kc v' H' (sl.trans s') ⟨p,hp,?_⟩;rw [getD_at j3,getD_at j4];exact yw
 ·rintro zs Hx ⟨rfl,rfl⟩ _ D ys H8 nD s8 dM hP eD
  obtain ⟨ps,lp,hp⟩:=pick (R:=fun j y p=>cD (10 ^ 60) H8 q y (Prod.fst p) (Prod.snd p)∧(q=0→∀X Dd:Int,aX 0 (aW [(x0,m0),(x1,qu)] [(f u).getD j o1,(f v).getD j o1] (0,1)) (X,Dd)→1≤Dd→(Prod.fst p)*Dd=X*(Prod.snd p))) hP;have Jq:ys.length=m:=by rw [dM,ko];lia
  have AS:ps.length=m:=by lia
  have oV:=AU.mono s8;have jS:bC (10 ^ 60) H8 q D ps:=⟨ys,eD,lp.symm,fun j v p h1 h2=>(hp j v p h1 h2).1⟩;have Dtb:D≠tb:=fun e=>by rw [e,AU.at'] at nD;cases nD
  have nA:∀i,i<n→A1 i≠D:=fun i hi e=>by obtain ⟨_,_,⟨vs,e',_⟩,_⟩:=AU.rows i hi;rw [e,nD] at e';cases e'
  have Dyb:D≠yb:=fun e=>by obtain ⟨vs,e',_⟩:=J1;rw [←e,nD] at e';cases e'
  have sH8:=JN.trans (s7.trans s8);have kg:=oV.put JP jS AS (none_of (JN.trans s7) nD) Dtb nA;refine ⟨_,rfl,_,rfl,_,rfl,_,_,rfl,rfl,np,tb,_,_,kk,rfl,rfl,oV.at',?_,?_⟩
  ·rw [Rj]
   unfold iJ;rw [ak (by lia),ak (by simp;exact JP),eR]
  ·refine AI _ _ _ _ ⟨ft sH8 Rg,kg,oG (J1.mono s8) (Ne.symm JM) oV.at' rh,JM,fun i hi=>?_⟩ fun z=>.inr ⟨?_,?_,fun i hi=>?_⟩
   ·by_cases y:i=kk
    ·rw [ak y];exact Dyb
    ·rw [aj y];exact Rk i hi
   ·intro e;rw [e] at hw;simp at hw
   ·intro e;rw [e] at hw;simp at hw
   ·dsimp only
    by_cases y:i=kk
    ·rw [ak y,ak y,ak y]
     refine (Xz (E7 z) (bv z u un) (bv z v vn) ru3 rv3 AS fun j hj X Dd w d1=>?_).weak (by decide) (by decide)
     have j1:j<ys.length:=by lia
     have j2:j<ps.length:=by lia
     rw [getD_at j2];exact (hp j ys[j] ps[j] (by simp [j1]) (by simp [j2])).2 z X Dd w d1
    ·rw [aj y,aj y,aj y]
     exact bv z i hi
theorem ab7:br ["places","many"] ["places","many"] (aQ Eg):=bJ
theorem Rr{L:List Nat}(hi:i<L.length):d_ (aZ L) (i:Int)=some (.int ((L.getD i 0:Nat):Int)):=dA (by unfold aZ;rw [bj,bj,getD_at hi];simp [hi])
theorem Rt(T:Txt K mg t):aK P w K mg base bO 1 t.tQ t.xi ["places","many"] Yr:=by
 have S:=ab7;refine T.uc.cC S (fun _ _ _ _ H _ _ _ hr h=>?_);obtain ⟨l,L,b,rfl,el,Jn,up,hL,k⟩:=h;refine ⟨_,(aw (aN (bU (zx (K:=K) rfl) rfl T.x_ boot_all (ae (d4 (N:=["k","places","many"]) (ρ:=(fun σ=>[σ[0]?.join,σ[1]?.join])) (dk [0,1] rfl) rfl (gG rfl T.fe (ae (bU dI rfl T.de dh (ae (pv 0) ah)) ah)) (fun _ _ _=>.nil) (fun _ _ _=>(ky (FY zh jN ao (aC (iy (K:=K)) (pv 1) (pv 0)) (pv 2)) (mJ (S8 (gU gc (pv 0) ao) (mJ (gU jN (aC (iy (K:=K)) (pv 1) (ar k_ (pv 0) ao)) (aC (iy (K:=K)) (pv 1) (pv 0))))))))) ah)))),?_⟩;refine fO (q5 (Ct (xs:=(List.range L.length).map fun i:Nat=>V.int (0+(i:Int))) (fun R h=>⟨_,rfl,l,aZ L,rfl,.inl (.of el),(L.length:Int),by rw [fF],by lia,by lia,h _ _ (ag.refl _) (by rw [eR];exact lM)⟩) (by rw [aY,fH];exact cT (by lia)) (fun _ i y _=>y=.bl true) (fun _ _ _ _ _ _ h _ _=>h) ?_ ?_))
 ·intro D i v hi Hc R sc _ kc
  obtain ⟨aR,rfl⟩:=oy hi;have lb:=hL _ (by rw [getD_at aR];exact aE _:L.getD i 0∈L)
  have ix:d_ (aZ L) (i:Int)=some (.int ((L.getD i 0:Nat):Int)):=Rr aR;refine ⟨_,rfl,_,rfl,l,aZ L,_,_,rfl,rfl,.of (sc _ _ el),ix,_,_,rfl,rfl,true,by (dsimp only;rw [dr (by lia)]),gd ?_⟩
  refine ⟨_,rfl,_,_,rfl,rfl,true,by (dsimp only;rw [dr (by lia)]),gd ?_⟩
  refine ⟨_,rfl,rfl,_,rfl,c_ (fun _=>kc _ Hc (ag.refl _) rfl) (fun ne=>?_)⟩;have i0:i≠0:=fun e=>by subst e;simp at ne
  have ix1:d_ (aZ L) ((i:Int)-1)=some (.int ((L.getD (i-1) 0:Nat):Int)):=by rw [show (i:Int)-1=((i-1:Nat):Int) by lia];exact Rr (by lia)
  have lt:=pZ up (show i-1<i by lia) aR
  refine ⟨_,rfl,_,rfl,_,_,rfl,rfl,l,aZ L,_,_,rfl,rfl,.of (sc _ _ el),ix1,_,rfl,_,rfl,l,aZ L,_,_,rfl,rfl,.of (sc _ _ el),ix,_,_,rfl,rfl,?_⟩;refine kc _ Hc (ag.refl _) ?_;dsimp only;rw [dr (by lia)]
 ·intro D ys Hc sc eP hP eD
  refine ⟨D,List.replicate ys.length true,rfl,.of (by rw [eD];exact fK _ (fK _ (zN hP))),?_⟩
  rw [CD];exact k Hc sc
theorem ab9:br ["p","one","other","rows","columns_v","whole","i","row","j"] ["p","one","other"] (aQ Ec):=bJ
theorem ab_(T:Txt K mg t):aK P w K mg base bO 3 t.tN t.xf ["p","one","other"] YK:=by
 have S:=ab9;refine T.x4.cC S (fun _ _ _ _ H vs _ _ hr h=>?_);obtain ⟨a,b,q,aa,af,m,u,rfl,hq,hA,hB,n1,eO,k1,uz,hm,hu,j9,u1,uo,k⟩:=h
 refine ⟨_,(aq (putL 3 S.nd (bU dI rfl T.de dh (ae (pv 2) ah)))
  (aq (putL 4 S.nd (bU dI rfl T.de dh (ae (aC dF (pv 2) ao) ah)))
  (aq (putL 5 S.nd (gH ah))
  (aq (iG fY rfl (gG rfl T.fe (ae (ar f_ (bU dI rfl T.de dh (ae (pv 1) ah)) (pv 3)) ah)) (d9 (i:=6) S.nd rfl (Or.inl rfl))
   (aq (putL 7 S.nd (gH ah))
  (aq (iG fY rfl (gG rfl T.fe (ae (ar f_ (bU dI rfl T.de dh (ae (aC dF (pv 1) ao) ah)) (pv 4)) ah)) (d9 (i:=8) S.nd rfl (Or.inl rfl))
   (aw (pA (qS qH y_ za lA (pv 7) (ae (aA (Jv T) hr T.xY T.mZ.kp T.xX aP (ae (pv 0) (ae (gH (ae (aC dF (aC dF (pv 1) (ar pF (pv 6) (pv 3))) (ar pF (pv 8) (pv 4))) ah)) (ae (gH (ae (aC dF (aC dF (pv 2) (ar cX (pv 6) (pv 3))) (ar cX (pv 8) (pv 4))) ah)) ah)))) ah)))))
  (aw (pA (qS qH y_ za lA (pv 5) (ae (pv 7) ah)))))))
  (aw (aN (pv 5))))))),?_⟩
 obtain ⟨vs,ra0,ea,la,ea0,acd⟩:=hA.rZ (i:=0) (by lia)
 obtain ⟨us,Fb,eb,lb,J2,J3⟩:=hB.rZ (i:=0) (by lia)
 obtain ⟨Ru,ace,acf,_⟩:=id acd;obtain ⟨kh,J4,J5,_⟩:=id J3;have m0:=hm _ (aE (show 0<aa.length by lia))
 have u0:=hu _ (aE (show 0<af.length by lia))
 refine ⟨_,rfl,b,us,rfl,.inl (.of eb),?_⟩;refine ⟨_,rfl,b,us,_,_,rfl,rfl,.of eb,(by exact dA (j:=0) J2),Fb,kh,rfl,.inl (.of J4),?_⟩
 refine ⟨by show 0≤sizeLine;decide,fun wh J6=>?_⟩
 have sw:ag H (upd H wh (.lst [])):=b_ J6;have ew:upd H wh (.lst []) wh=some (.lst []):=aM;generalize upd H wh (.lst [])=H0 at sw ew ⊢;have nk:aa.length*af.length≤40*40:=bI eO uz;have mu:m*u≤40*40:=bI j9 uo;have eN:((vs.length:Int)*(us.length:Int))=((aa.length*af.length:Nat):Int):=by rw [la,lb,nH]
 have eM:((Ru.length:Int)*(kh.length:Int))=((m*u:Nat):Int):=by rw [acf,J5,m0,u0,nH]
 have ek:(us.length:Int)=((af.length:Nat):Int):=by rw [lb]
 have eu:(kh.length:Int)=((u:Nat):Int):=by rw [J5,u0]
 refine ⟨_,rfl,a,vs,rfl,.inl (.of (sw _ _ ea)),_,rfl,_,_,rfl,rfl,.inl ⟨by lia,by lia⟩,((aa.length*af.length:Nat):Int),fK (fun x=>[V.int x]) eN,by lia,by lia,?_⟩
 rw [eR]
 refine pC (fun i σ Hc=>ag H Hc∧∃(v6 v7 v8:Option V) (ys:List V),σ=[some (.int q),some (.ref a),some (.ref b),some (.int (us.length:Int)),some (.int (kh.length:Int)),some (.ref wh),v6,v7,v8]∧Hc wh=some (.lst ys)∧ys.length=i∧∀(i':Nat) (v:V),ys[i']?=some v→∃r:Addr,v=.ref r∧r≠wh∧H r=none∧fR Hc q r (m*u) (cellOf aa af af.length u i'))
  ⟨sw,none,none,none,[],rfl,ew,rfl,fun i' v e=>by simp at e⟩ ?_ ?_
 ·rintro i σ Hc hi ⟨sc,v6,v7,v8,ys,rfl,Fc,ly,hy⟩
  have i1:=fS hi;have i2:=fz hi;refine ⟨by show 0≤sizeLine;decide,fun r nr=>?_⟩
  have sr:ag Hc (upd Hc r (.lst [])):=b_ nr;have er:upd Hc r (.lst []) r=some (.lst []):=aM;have s2:=sc.trans sr;refine ⟨_,rfl,a,vs,_,_,rfl,rfl,.of (s2 _ _ ea),(by exact dA (j:=0) ea0),ra0,Ru,rfl,.inl (.of (s2 _ _ ace)),_,rfl,_,_,rfl,rfl,.inl ⟨by lia,by lia⟩,((m*u:Nat):Int),fK (fun x=>[V.int x]) eM,by lia,by lia,?_⟩
  rw [eR];generalize upd Hc r (.lst [])=H1 at sr er s2 ⊢
  refine pC (fun j σ Hd=>ag Hc Hd∧∃(v8:Option V) (ws:List V),σ=[some (.int q),some (.ref a),some (.ref b),some (.int (us.length:Int)),some (.int (kh.length:Int)),some (.ref wh),some (.int (0+(i:Int))),some (.ref r),v8]∧Hd r=some (.lst ws)∧ws.length=j∧∀(j':Nat) (v:V),ws[j']?=some v→cU Hd q v (cellOf aa af af.length u i j').1 (cellOf aa af af.length u i j').2)
   ⟨sr,v8,[],rfl,er,rfl,fun i' v e=>by simp at e⟩ ?_ ?_
  ·rintro j σ Hd hj ⟨sd,v8,ws,rfl,yy,lw,hw⟩
   have j1:=fS hj;have j2:=fz hj;have s3:=sc.trans sd;obtain ⟨Hq,ra,qt,la',eai,AG⟩:=(hA.mono s3).rZ i1;rw [s3 _ _ ea] at qt;cases qt;obtain ⟨yd,rb,yj,lb',ebi,Jr⟩:=(hB.mono s3).rZ i2;rw [s3 _ _ eb] at yj;cases yj;have mi:=hm _ (aE i1);have ui:=hu _ (aE i2);obtain ⟨wa,x,ewa,lwa,J7,hx⟩:=AG.OF (j:=j / u) (by lia)
   obtain ⟨wb,y,ewb,lwb,ewy,hy'⟩:=Jr.OF (j:=j % u) (by lia)
   have q1:(0+(i:Int)) / (us.length:Int)=((i / af.length:Nat):Int):=by rw [ek,mj,Int.natCast_ediv]
   have q2:(0+(j:Int)) / (kh.length:Int)=((j / u:Nat):Int):=by rw [eu,mj,Int.natCast_ediv]
   have q3:(0+(i:Int)) % (us.length:Int)=((i % af.length:Nat):Int):=by rw [ek,mj,Int.natCast_emod]
   have q4:(0+(j:Int)) % (kh.length:Int)=((j % u:Nat):Int):=by rw [eu,mj,Int.natCast_emod]
   refine GO ⟨_,rfl,.inl ⟨rfl,_,.of yy⟩,_,rfl,_,rfl,_,rfl,_,rfl,_,_,rfl,rfl,⟨by lia,by lia⟩,a,vs,_,.ref ra,rfl,rfl,.of (s3 _ _ ea),(by show d_ vs ((0+(i:Int)) / (us.length:Int))=_;rw [q1];exact dA eai),_,rfl,_,rfl,_,_,rfl,rfl,⟨by lia,by lia⟩,ra,wa,_,x,rfl,rfl,.of ewa,(by show d_ wa ((0+(j:Int)) / (kh.length:Int))=_;rw [q2];exact dA J7),by show 1≤sizeLine;decide,fun l1 JV=>?_⟩
   have t1:ag Hd (upd Hd l1 (.lst [x])):=b_ JV;have Rv:upd Hd l1 (.lst [x]) l1=some (.lst [x]):=aM;generalize upd Hd l1 (.lst [x])=Hf at t1 Rv ⊢;refine ⟨_,rfl,_,rfl,_,rfl,_,_,rfl,rfl,(show (0:Int)<(us.length:Int) by lia),b,us,_,.ref rb,rfl,rfl,.of (t1 _ _ (s3 _ _ eb)),(by show d_ us ((0+(i:Int)) % (us.length:Int))=_;rw [q3];exact dA ebi),_,rfl,_,rfl,_,_,rfl,rfl,(show (0:Int)<(kh.length:Int) by lia),rb,wb,_,y,rfl,rfl,.of (t1 _ _ ewb),(by show d_ wb ((0+(j:Int)) % (kh.length:Int))=_;rw [q4];exact dA ewy),by show 1≤sizeLine;decide,fun l2 JW=>?_⟩
   have t2:ag Hf (upd Hf l2 (.lst [y])):=b_ JW;have Rw:upd Hf l2 (.lst [y]) l2=some (.lst [y]):=aM;generalize upd Hf l2 (.lst [y])=Hg at t2 Rw ⊢;have Rx:∀{l:Addr} {v:V} {p:Int×Int},Hg l=some (.lst [v])→cD (10 ^ 60) Hg q v p.1 p.2→bC (10 ^ 60) Hg q l [p]:=fun{l v p} e h=>⟨[v],e,rfl,fun i' v' p' h1 h2=>by
    match i',h1,h2 with
    | 0,h1,h2=>cases h1;cases h2;exact h
    | i'+1,h1,h2=>cases h1⟩
   refine ⟨q,l1,l2,10 ^ 60,10 ^ 60,[_],[_],rfl,hq,Rx (t2 _ _ Rv) ((hx.mono t1).mono t2),Rx Rw ((hy'.mono t1).mono t2),by decide +kernel,by decide +kernel,by show 1≤40;decide,by show 1≤40;decide,fun _=>by show 40*(10 ^ 60*10 ^ 60) ^ 1<_;decide +kernel,fun v H' s' hN=>?_⟩
   have sT:=t1.trans (t2.trans s');refine ⟨r,ws,v,rfl,rfl,sT _ _ yy,dC (show _<2000 by lia) (by decide),?_⟩
   have bu:∀b o,b≠r→H' b=some o→upd H' r (.lst (ws++[v])) b=some o:=fun b o nb e=>by rw [bE nb];exact e
   refine ⟨ft (sd.trans sT) nr,_,_,rfl,aM,by simp [lw],fun j' v' e=>?_⟩
   by_cases cK:j'<ws.length
   ·rw [iS cK] at e
    exact ((hw j' v' e).mono sT).bu (sT _ _ yy) bu
   ·have ej:j'=j:=by have:=(aG.mp e).1;simp at this;lia
    subst ej;rw [iQ (by lia),lw,qC] at e
    have e:v=v':=by simpa using e
    subst e;have z:=hN.bu (sT _ _ yy) bu;unfold cellOf;rw [getD_at i1,getD_at i2];simpa [aW,pQ] using z
  ·rintro σ Hd ⟨sd,v8,ws,rfl,yy,lw,hw⟩
   have oR:r≠wh:=fun z=>by rw [z,Fc] at nr;cases nr
   have uA:=sd _ _ Fc;refine ⟨_,rfl,.inl ⟨rfl,_,.of uA⟩,_,rfl,wh,ys,_,rfl,rfl,uA,dC (show _<2000 by lia) (by decide),?_⟩
   have bu:∀b o,b≠wh→Hd b=some o→upd Hd wh (.lst (ys++[.ref r])) b=some o:=fun b o nb e=>by rw [bE nb];exact e
   refine ⟨ft (sc.trans sd) J6,_,_,_,_,rfl,aM,by simp [ly],fun i' v' e=>?_⟩
   by_cases aR:i'<ys.length
   ·rw [iS aR] at e
    obtain ⟨r',e1,e2,e3,e4⟩:=hy i' v' e;exact ⟨r',e1,e2,e3,(e4.mono sd).bu e2 uA bu⟩
   ·have ei:i'=i:=by have:=(aG.mp e).1;simp at this;lia
    subst ei;rw [iQ (by lia),ly,qC] at e
    have e:V.ref r=v':=by simpa using e
    subst e;exact ⟨r,rfl,oR,none_of sc nr,fR.bu ⟨ws,yy,lw,hw⟩ oR uA bu⟩
 ·rintro σ Hc ⟨sc,v6,v7,v8,ys,rfl,Fc,ly,hy⟩
  exact ⟨_,rfl,k wh Hc sc J6 ⟨ys,Fc,ly,hy⟩⟩
theorem acn:br ["p","one","other"] ["p","one","other"] (aQ Eb):=bJ
theorem Ry(T:Txt K mg t):aK P w K mg base bO 4 t.tM t.xc ["p","one","other"] YL:=by
 have S:=acn;refine T.ua.cC S (fun _ _ _ _ H vs _ _ hr h=>?_);obtain ⟨q,a,b,B,C,r,m,aa,af,rfl,hq,hA,hB,b1,c1,p40,wp,lr,r1,oU,wr,j9,fit,k⟩:=h;refine ⟨_,(aw (aN (vw (N:=["row","other","p"]) (ρ:=(fun σ=>[σ[2]?.join,σ[0]?.join])) ⟨rfl,rfl,(fun _=>rfl),(fun _=>rfl),by decide +kernel,(ic.mpr ⟨rfl,(ic.mpr ⟨rfl,(nC _)⟩)⟩),qY (by rfl),rfl,by decide +kernel,rfl,(fun σ j v h=>match j,h with | 0,h=>⟨2,_,rfl,rfl,join_some h,Or.inr (Or.inl rfl),.inl rfl,.inl rfl⟩ | 1,h=>⟨0,_,rfl,rfl,join_some h,Or.inr (Or.inl rfl),.inl rfl,.inl rfl⟩ | j+2,h=>by cases h),(fun _ _=>rfl)⟩ rfl (dH (pv 1)) (fun _ _ _=>.nil) (fun _ _ _=>(vw (N:=["j","p","row","other"]) (ρ:=(fun σ=>[σ[2]?.join,σ[0]?.join,σ[1]?.join])) ⟨rfl,rfl,(fun _=>rfl),(fun _=>rfl),by decide +kernel,(ic.mpr ⟨rfl,(ic.mpr ⟨rfl,(ic.mpr ⟨rfl,(nC _)⟩)⟩)⟩),qY (by rfl),rfl,by decide +kernel,rfl,(fun σ j v h=>match j,h with | 0,h=>⟨2,_,rfl,rfl,join_some h,Or.inr (Or.inl rfl),.inl rfl,.inl rfl⟩ | 1,h=>⟨0,_,rfl,rfl,join_some h,Or.inr (Or.inl rfl),.inl rfl,.inl rfl⟩ | 2,h=>⟨1,_,rfl,rfl,join_some h,Or.inr (Or.inl rfl),.inl rfl,.inl rfl⟩ | j+3,h=>by cases h),(fun _ _=>rfl)⟩ rfl (gG rfl T.fe (ae (bU (CA (K:=K)) rfl T.de dh (ae (aC (iy (K:=K)) (pv 1) ao) ah)) ah)) (fun _ _ _=>.nil) (fun _ _ _=>(aA (Jv T) hr T.xY T.mZ.kp T.xX aP (ae (pv 1) (ae (pv 2) (ae (d4 (N:=["line","j"]) (ρ:=(fun σ=>[σ[0]?.join])) (dk [0] rfl) rfl (GJ (K:=K) (pv 3)) (fun _ _ _=>.nil) (fun _ _ _=>(aC (iy (K:=K)) (pv 0) (pv 1)))) ah)))))))))),?_⟩
 obtain ⟨vs,ea,lv,fv⟩:=id hA;obtain ⟨us,Fb,eb,lb,J2,J3⟩:=hB.rZ (i:=0) (by lia)
 obtain ⟨kh,J4,J5,_⟩:=id J3;have m0:=wr _ (aE (show 0<af.length by lia))
 refine fO (vH (n:=aa.length) (xs:=vs) lv (fun R h=>⟨_,rfl,a,rfl,⟨_,.of ea⟩,h _ _ (ag.refl _) (eK (.of ea))⟩) (cT (by lia)) (fun D i y Hx=>H y=none∧fR Hx q y m (fun j=>aW (aa.getD i []) (af.map fun ps:List (Int×Int)=>ps.getD j (0,1)) (0,1))) (fun D i y Ha Hb ys ⟨h0,h1⟩ nD e f=>⟨h0,h1.bu nD e f⟩) ?_ ?_)
 ·intro D i v hi Hc R sc zs kc
  have i1:i<aa.length:=by rw [←lv];exact (aG.mp hi).1
  obtain ⟨ra,rfl,AG⟩:=fv i v aa[i] hi (by simp [i1])
  have lpi:=wp _ (aE i1);refine eB (xs:=(List.range m).map fun i:Nat=>V.int (0+(i:Int))) (fun R h=>⟨_,rfl,b,us,_,.ref Fb,rfl,rfl,.of (sc _ _ eb),(by exact dA (j:=0) J2),Fb,kh,rfl,.inl (.of (sc _ _ J4)),(m:Int),by rw [show (kh.length:Int)=(m:Int) by lia],by lia,by lia,h _ _ (ag.refl _) (by rw [eR];exact lM)⟩) (by rw [aY,fH];exact cT (by lia)) (fun D j y Hx=>cU Hx q y (aW (aa.getD i []) (af.map fun ps:List (Int×Int)=>ps.getD j (0,1)) (0,1)).1 (aW (aa.getD i []) (af.map fun ps:List (Int×Int)=>ps.getD j (0,1)) (0,1)).2) (fun D j y Ha Hb ys h e f=>h.bu e f) ?_ ?_
  ·intro D' j v hj Hd R' sd _ kd
   obtain ⟨cK,rfl⟩:=oy hj;have s2:=sc.trans sd;refine ⟨_,rfl,_,rfl,?_⟩;refine Ys rfl rfl (hB.mono s2) wr cK (by lia) fun Dc He nD se acp=>?_
   refine ⟨q,ra,Dc,B,C,aa[i],_,rfl,hq,AG.mono (s2.trans se),acp,b1,c1,by lia,by rw [aY];lia,fun z=>by rw [lpi];exact fit z,fun v' H' s' hN=>kd v' H' (se.trans s') ?_⟩
   rw [getD_at i1];exact hN
  ·intro D' ys Hd m8 sd dM hP i3
   rw [aY,fH] at dM;exact kc D' Hd sd m8 ⟨_,i3⟩ ⟨none_of sc m8,ys,i3,dM,hP⟩
 ·intro D A1 Hc nD sc inj p8 eD
  refine k D Hc sc ⟨_,eD,by simp,fun i v hv=>?_⟩
  have hi:i<aa.length:=by have:=(aG.mp hv).1;simpa using this
  rw [bj] at hv;simp [hi] at hv;exact ⟨A1 i,hv.symm,(p8 i hi).2,(p8 i hi).1.1,(p8 i hi).1.2⟩
theorem J8{X:List Nat}{j:Nat}(h2:j<(aZ X).length):(aZ X)[j]'h2=V.int ((X.getD j 0:Nat):Int):=by
 have h:j<X.length:=by rw [fF] at h2;exact h2
 rw [getD_at h];simp [aZ]
theorem acq:br ["ones","others","many","some","place"] ["ones","others","many"] (aQ Ee):=bJ
theorem Rz(T:Txt K mg t):aK P w K mg base bO 1 t.tP t.xh ["ones","others","many"] YM:=by
 have S:=acq;refine T.ub.cC S (fun _ _ _ _ H _ _ _ hr h=>?_);obtain ⟨l,l',L,L',mk,rfl,el,qr,Jn,ajC,bL,uz,bL',LL,k⟩:=h
 refine ⟨_,(aq (putL 3 S.nd (gH ah))
  (aq (iG fY rfl (dH (pv 0)) (d9 (i:=4) S.nd rfl (Or.inr rfl))
   (aw (putL 3 S.nd (ar Mm (pv 3) (d4 (N:=["other","place","many"]) (ρ:=(fun σ=>[σ[4]?.join,σ[2]?.join])) (dk [4,2] rfl) rfl (dH (pv 1)) (fun _ _ _=>.nil) (fun _ _ _=>(ar gT (ar f_ (pv 1) (pv 2)) (pv 0))))))))
  (aw (aN (pv 3))))),?_⟩
 refine ⟨by show 0≤sizeLine;decide,fun s0 n0=>?_⟩
 have t0:=b_ (o:=.lst []) n0;have e0:upd H s0 (.lst []) s0=some (.lst []):=aM;generalize upd H s0 (.lst [])=H0 at t0 e0 ⊢;dsimp only [aO];simp only [L2.start,dN,ku,iP,jE,List.replicate,kv,jC,a8,a9];refine ⟨_,rfl,l,rfl,⟨_,.of (t0 _ _ el)⟩,?_⟩;have lN:(aZ L).length=L.length:=fF;have J9:(aZ L').length=L'.length:=fF;have val:∀i j,i<L.length→j<L'.length→(dq L L' mk).getD (i*L'.length+j) 0=L.getD i 0*mk+L'.getD j 0:=fun i j hi hj=>by have:(i+1)*L'.length≤L.length*L'.length:=gs _ hi;rw [ib] at this;rw [rO (by lia),lY hj,mS hj]
 refine qN (K:=K) (a:=l) (xs:=aZ L) (fun i σ Hc=>ag H Hc∧∃(sm:Addr) (v4:Option V),σ=[some (.ref l),some (.ref l'),some (.int (mk:Int)),some (.ref sm),v4]∧H sm=none∧Hc sm=some (.lst (aZ ((dq L L' mk).take (i*L'.length))))) ⟨t0,s0,_,rfl,n0,by rw [Nat.zero_mul];exact e0⟩ (fun i σ Hc _ ⟨sc,_⟩=>.of (sc _ _ el)) ?_ ?_
 ·rintro i v σ Hc hv ⟨sc,sm,v4,rfl,RA,Fd⟩
  have hi:i<L.length:=by rw [←lN];exact (aG.mp hv).1
  have ev:v=.int ((L.getD i 0:Nat):Int):=by unfold aZ at hv;rw [bj,bj] at hv;rw [getD_at hi];simpa [hi] using hv.symm
  subst ev;dsimp only [aO];simp only [a8,a9];have b1:=bL _ (getD_mem hi);refine iK (Nf ⟨_,rfl,?_⟩);dsimp only;refine eB (xs:=aZ L') (fun R h=>⟨_,rfl,l',rfl,⟨_,.of (sc _ _ qr)⟩,h _ _ (ag.refl _) (eK (.of (sc _ _ qr)))⟩) (by rw [J9];exact cT (by lia)) (fun D j y Hx=>y=.int (((dq L L' mk).getD (i*L'.length+j) 0:Nat):Int)) (fun D j y Ha Hb ys h e f=>h) ?_ ?_
  ·intro D j x hx Hd R sd _ kd
   have hj:j<L'.length:=by rw [←J9];exact (aG.mp hx).1
   have ex:x=.int ((L'.getD j 0:Nat):Int):=by unfold aZ at hx;rw [bj,bj] at hx;rw [getD_at hj];simpa [hj] using hx.symm
   subst ex;have b2:=bL' _ (getD_mem hj);refine ⟨_,rfl,_,rfl,_,_,rfl,rfl,.inl ⟨by lia,by lia⟩,_,rfl,_,_,rfl,rfl,kd _ Hd (ag.refl _) ?_⟩
   rw [val i j hi hj];simp
  ·intro D ys Hd nD sd dM hP eD
   rw [J9] at dM;have eys:ys=aZ (((dq L L' mk).drop (i*L'.length)).take L'.length):=by
    refine nI ?_ fun j h1 h2=>?_
    ·have:(i+1)*L'.length≤L.length*L'.length:=gs _ hi
     rw [ib] at this;rw [fF,yR,nj,dU];lia
    ·have hj:j<L'.length:=by lia
     have:(i+1)*L'.length≤L.length*L'.length:=gs _ hi;rw [ib] at this;have z:=hP j ys[j] (by simp [h1])
     rw [z,J8];have l1:j<(((dq L L' mk).drop (i*L'.length)).take L'.length).length:=by rw [yR,nj,dU];lia
     rw [getD_at l1,List.getElem_take,List.getElem_drop,getD_at (by rw [dU];lia)]
   have eT:aZ ((dq L L' mk).take ((i+1)*L'.length))=aZ ((dq L L' mk).take (i*L'.length))++ys:=by rw [eys,ib,List.take_add];unfold aZ;rw [yV,yV]
   refine ⟨sm,D,_,ys,rfl,rfl,sd _ _ Fd,eD,?_,fun p np=>?_⟩
   ·have:(i+1)*L'.length≤L.length*L'.length:=gs _ hi
    rw [ib] at this;refine av (show _≤100 from ?_) (by decide)
    rw [fF,yR];lia
   ·have sp:=b_ (o:=.lst (aZ ((dq L L' mk).take (i*L'.length))++ys)) np
    exact ⟨sc.trans (sd.trans sp),p,_,rfl,none_of (sc.trans sd) np,by rw [eT];exact aM⟩
 ·rintro σ Hc ⟨sc,sm,v4,rfl,RA,Fd⟩
  rw [lN,List.take_of_length_le (by rw [dU];exact aI _)] at Fd
  exact ⟨_,rfl,k sm Hc sc RA Fd⟩
theorem acu:br ["p","n"] ["p","n"] (aQ Ed):=bJ
theorem acv(T:Txt K mg t):aK P w K mg base bO 1 t.tO t.xg ["p","n"] YI:=by
 have S:=acu;refine T.x5.cC S (fun _ _ _ _ H _ Q _ hr h=>?_);obtain ⟨q,n,rfl,hq,n4,k⟩:=h
 refine ⟨_,(aq (cH (qO (pv 0) (fun _=>rfl)) (aw (aN (vw (N:=["i","n"]) (ρ:=(fun σ=>[σ[1]?.join])) ⟨rfl,rfl,(fun _=>rfl),(fun _=>rfl),by decide +kernel,(ic.mpr ⟨rfl,(nC _)⟩),qY (by rfl),rfl,by decide +kernel,rfl,(fun σ j v h=>match j,h with | 0,h=>⟨1,_,rfl,rfl,join_some h,Or.inr (Or.inl rfl),.inl rfl,.inl rfl⟩ | j+1,h=>by cases h),(fun _ _=>rfl)⟩ rfl (gG rfl T.fe (ae (pv 1) ah)) (fun _ _ _=>.nil) (fun _ _ _=>(d4 (N:=["j","i"]) (ρ:=(fun σ=>[σ[0]?.join])) (dk [0] rfl) rfl (gG rfl T.fe (ae (pv 1) ah)) (fun _ _ _=>.nil) (fun _ _ _=>(n8 LK rfl T.Ar boot_int (ae (gU gc (pv 1) (pv 0)) ah)))))))) cN)
  (aw (aN (vw (N:=["i","n"]) (ρ:=(fun σ=>[σ[1]?.join])) ⟨rfl,rfl,(fun _=>rfl),(fun _=>rfl),by decide +kernel,(ic.mpr ⟨rfl,(nC _)⟩),qY (by rfl),rfl,by decide +kernel,rfl,(fun σ j v h=>match j,h with | 0,h=>⟨1,_,rfl,rfl,join_some h,Or.inr (Or.inl rfl),.inl rfl,.inl rfl⟩ | j+1,h=>by cases h),(fun _ _=>rfl)⟩ rfl (gG rfl T.fe (ae (pv 1) ah)) (fun _ _ _=>.nil) (fun _ _ _=>(d4 (N:=["j","i"]) (ρ:=(fun σ=>[σ[0]?.join])) (dk [0] rfl) rfl (gG rfl T.fe (ae (pv 1) ah)) (fun _ _ _=>.nil) (fun _ _ _=>(jf (ae (n8 LK rfl T.Ar boot_int (ae (gU gc (pv 1) (pv 0)) ah)) (ae ao ah)))))))))),?_⟩
 have RB:∀i j:Nat,(if decide (V.int (i:Int)=V.int (j:Int))=true then (1:Int) else 0)=(mU i j).1:=fun i j=>by
  unfold mU;by_cases e:i=j;·rw [ak e,e,dr rfl,ak rfl]
  ·rw [aj e,h_ (fun z=>e (by have:=V.int.inj z;lia)),aj dW]
 have two:∀(wi:TI) (ρ:St→St) (te:TE) (σ:St) (Hc:Hp) (D:Addr) (i:Nat) (R:VK),(∀R:It→Hp→Prop,(∀J H1,ag Hc H1→lK J ((List.range n).map fun i:Nat=>V.int (0+(i:Int))) H1→R J H1)→wi σ Hc R)→(∃zs,Hc D=some (.lst zs))→(∀(j:Nat) (Hd:Hp) (R':VK),(∀v He,ag Hd He→cU He q v (mU i j).1 1→R' v He)→te (some (.int (j:Int))::ρ σ) Hd R')→(∀y H3,ag Hc H3→Hc y=none→(∃o,H3 y=some o)→fR H3 q y n (mU i)→R (.ref y) H3)→ji wi ρ (fun _ H Q=>Q true H) te σ Hc R:=fun wi ρ te σ Hc D i R gM ⟨zs,eD⟩ J_ kc=>by
  refine eB (xs:=(List.range n).map fun i:Nat=>V.int (0+(i:Int))) gM (by rw [aY,fH];exact cT (by lia)) (fun _ j y Hx=>cU Hx q y (mU i j).1 1) (fun D j y Ha Hb ys h e f=>h.bu e f) ?_ ?_
  ·intro D' j v hj Hd R' sd _ kd
   obtain ⟨cK,rfl⟩:=oy hj;exact J_ j Hd R' fun v He se hN=>kd v He se hN
  ·intro D' ys Hd m8 sd dM hP i3
   rw [aY,fH] at dM;exact kc D' Hd sd m8 ⟨_,i3⟩ ⟨ys,i3,dM,hP⟩
 have one:∀(wi:TI) (ρ:St→St) (te:TE) (σ:St),(∀R:It→Hp→Prop,(∀J H1,ag H H1→lK J ((List.range n).map fun i:Nat=>V.int (0+(i:Int))) H1→R J H1)→wi σ H R)→(∀(i:Nat) (D:Addr) (Hc:Hp) (R:VK),(∃zs,Hc D=some (.lst zs))→(∀y H3,ag Hc H3→Hc y=none→(∃o,H3 y=some o)→fR H3 q y n (mU i)→R (.ref y) H3)→te (some (.int (i:Int))::ρ σ) Hc R)→ji wi ρ (fun _ H Q=>Q true H) te σ H Q:=fun wi ρ te σ gM J_=>by
  refine vH (n:=n) (xs:=(List.range n).map fun i:Nat=>V.int (0+(i:Int))) (by simp) gM (cT (by lia)) (fun D i y Hx=>H y=none∧fR Hx q y n (mU i)) (fun D i y Ha Hb ys ⟨h0,h1⟩ nD e f=>⟨h0,h1.bu nD e f⟩) ?_ ?_
  ·intro D i v hi Hc R sc zs kc
   obtain ⟨aR,rfl⟩:=oy hi;exact J_ i D Hc R zs fun y H3 s3 ny ex hF=>kc y H3 s3 ny ex ⟨none_of sc ny,hF⟩
  ·intro D A1 Hc nD sc inj hA eD
   refine k D Hc sc ⟨_,eD,by simp,fun i v hv=>?_⟩
   have hi:i<n:=by have:=(aG.mp hv).1;simpa using this
   rw [bj] at hv;simp [hi] at hv;exact ⟨A1 i,hv.symm,(hA i hi).2,(hA i hi).1.1,(hA i hi).1.2⟩
 have gv:∀(Hx:Hp) (R:It→Hp→Prop),(∀J H1,ag Hx H1→lK J ((List.range n).map fun i:Nat=>V.int (0+(i:Int))) H1→R J H1)→R (nU 0 (n:Int).toNat) Hx:=fun Hx R h=>h _ _ (ag.refl _) (by rw [eR];exact lM)
 refine ⟨_,rfl,_,rfl,c_ (fun hp=>?_) (fun hp=>?_)⟩
 ·have hp:q≠0:=by simpa using hp
  refine fO (one _ _ _ _ (fun R h=>⟨_,rfl,(n:Int),rfl,by lia,by lia,gv _ _ h⟩) fun i D Hc R zs kc=>two _ _ _ _ _ D i _ (fun R h=>⟨_,rfl,(n:Int),rfl,by lia,by lia,gv _ _ h⟩) zs (fun j Hd R' kd=>?_) kc)
  refine ⟨_,rfl,_,rfl,rfl,.inr ⟨_,rfl,?_⟩⟩;rw [RB];exact kd _ _ (ag.refl _) (YH hq hp (by unfold mU;dsimp only;split <;> simp))
 ·have hp:q=0:=by simpa using hp
  subst hp;dsimp only [iE];refine fO (one _ _ _ _ (fun R h=>⟨_,rfl,(n:Int),rfl,by lia,by lia,gv _ _ h⟩) fun i D Hc R zs kc=>two _ _ _ _ _ D i _ (fun R h=>⟨_,rfl,(n:Int),rfl,by lia,by lia,gv _ _ h⟩) zs (fun j Hd R' kd=>?_) kc)
  refine ⟨_,rfl,_,rfl,rfl,.inr ⟨_,rfl,by show 2≤sizeLine;decide,fun r nr=>?_⟩⟩
  rw [RB];exact kd _ _ (b_ nr) (.bV aM ⟨by decide,nG ..⟩ (by decide) rfl)
theorem acw:br ["p","table","paper","many","left","right","rows","columns_v","back","least"] ["p","table","paper","many"] (aQ Eh):=bJ
theorem acx(T:Txt K mg t):aK P w K mg base bO 6 t.tR t.xj ["p","table","paper","many"] YN:=by
 have S:=acw;refine T.x6.cC S (fun _ _ _ _ H vs _ _ hr h=>?_);obtain ⟨q,a,p,lf,rt,dn,ac,bk,B,Bx,By,M,m,dc,vQ,af,cZ,L,D,rfl,hq,hT,ep,uy,qs,RC,RD,RE,b1,x1,y1,n1,eO,ww,j9,M1,Fe,lL,lD,upL,upD,RF,Ff,ll,wl,lr,wr,lf',wf,Fg,acB,prod,inv,k⟩:=h;have jv:=hr.units
 refine ⟨_,(aq (@k9 _ _ _ _ _ _ (pv 2) (BW rfl (k8 (d9 (i:=4) S.nd rfl (Or.inl rfl)) (k8 (d9 (i:=5) S.nd rfl (Or.inl rfl)) (k8 (d9 (i:=6) S.nd rfl (Or.inl rfl)) (k8 (d9 (i:=7) S.nd rfl (Or.inr rfl)) (k8 (d9 (i:=8) S.nd rfl (Or.inl rfl)) BV)))))) (by rfl) (by rfl) (by rfl))
  (aq (cH (PW.pt (pw_or (cI je (bU dI rfl T.de dh (ae (pv 6) ah)) (pv 3)) (pw_or1 (cI je (bU dI rfl T.de dh (ae (pv 7) ah)) (pv 3))))) (aw (aN mG)) cN)
  (aq (cH (PW.pt (pw_or (mI (jb (aA (Rt T) hr T.IE T.uc.kp T.ID aP (ae (pv 6) (ae (bU dI rfl T.de dh (ae (pv 1) ah)) ah))))) (pw_or1 (mI (jb (aA (Rt T) hr T.IE T.uc.kp T.ID aP (ae (pv 7) (ae (bU dI rfl T.de dh (ae (aC dF (pv 1) ao) ah)) ah)))))))) (aw (aN mG)) cN)
  (aq (cH (cI (Wk (n:=2) jv) (aA (Ry T) hr T.Iz T.ua.kp T.Iy aP (ae (pv 0) (ae (pv 4) (ae (pv 5) ah)))) (pv 1)) (aw (aN mG)) cN)
  (aq (Wl (i0:=9) (N:=["i","columns_v","table"]) (ρ:=(fun σ=>[σ[7]?.join,σ[1]?.join])) ⟨rfl,rfl,(fun _=>rfl),(fun _=>rfl),by decide +kernel,(ic.mpr ⟨rfl,(ic.mpr ⟨rfl,(nC _)⟩)⟩),qY (by rfl),rfl,by decide +kernel,rfl,(fun σ j v h=>match j,h with | 0,h=>⟨7,_,rfl,rfl,join_some h,Or.inr (Or.inl rfl),.inl rfl,.inl rfl⟩ | 1,h=>⟨1,_,rfl,rfl,join_some h,Or.inr (Or.inl rfl),.inl rfl,.inl rfl⟩ | j+2,h=>by cases h),(fun _ _=>rfl)⟩ rfl S.nd rfl (Or.inl rfl) (dH (pv 6)) (fun _ _ _=>.nil) (fun _ _ _=>(d4 (N:=["j","table","i"]) (ρ:=(fun σ=>[σ[2]?.join,σ[0]?.join])) (dk [2,0] rfl) rfl (GJ (K:=K) (pv 1)) (fun _ _ _=>.nil) (fun _ _ _=>(aC (iy (K:=K)) (aC (iy (K:=K)) (pv 1) (pv 2)) (pv 0))))))
  (aw (aN (gU (GI (n:=2) jv) (aA (Ry T) hr T.Iz T.ua.kp T.Iy aP (ae (pv 0) (ae (pv 9) (ae (pv 8) ah)))) (aA (acv T) hr T.PQ T.x5.kp T.PN aP (ae (pv 0) (ae (pv 3) ah))))))))))),?_⟩
 obtain ⟨vs,r0,ea,lv,er0,hr0⟩:=hT.rZ (i:=0) (by lia)
 obtain ⟨RG,ew0,lw0,_⟩:=id hr0;have w0:=ww _ (aE (show 0<dc.length by lia))
 refine ⟨_,rfl,p,_,rfl,.of ep,rfl,_,_,rfl,_,_,rfl,_,_,rfl,_,_,rfl,_,_,rfl,rfl,?_⟩;dsimp only [aO];simp only [L2.start,dN,ku,iP,jE,List.replicate,kv,jC,a8,a9];refine ⟨_,rfl,dn,aZ D,rfl,.inl (.of qs),_,rfl,rfl,false,by rw [jj,dr (by rw [fF,lD])];rfl,eG ?_⟩
 refine ⟨_,rfl,ac,aZ L,rfl,.inl (.of uy),_,rfl,rfl,false,by rw [jj,dr (by rw [fF,lL])];rfl,eG ?_⟩
 dsimp only [iE];have ka:d_ vs 0=some (.ref r0):=by exact dA (j:=0) er0
 refine ⟨_,rfl,_,rfl,a,vs,rfl,.inl (.of ea),dn,D,vs.length,rfl,qs,by lia,upD,fun d hd=>by have:=Ff d hd;lia,fun H3 s3=>⟨true,rfl,eG ?_⟩⟩
 refine ⟨_,rfl,_,rfl,a,vs,_,.ref r0,rfl,rfl,.of (s3 _ _ ea),ka,r0,RG,rfl,.inl (.of (s3 _ _ ew0)),ac,L,RG.length,rfl,s3 _ _ uy,by lia,upL,fun l hl=>by have:=RF l hl;lia,fun H4 s4=>⟨true,rfl,eG ?_⟩⟩
 dsimp only [iE];have i5:=s3.trans s4;have RH:∀{Bz:Nat} {Hz:Hp} {c:Addr} {ki:aD},aT Bz Hz q c ki→∀i,∀p∈ki.getD i [],aH q p.2:=fun{Bz Hz c ki} h i p hp=>by
  by_cases hi:i<ki.length
  ·rw [getD_at hi] at hp
   exact (h.nums hq _ (aE hi) p hp).2.1
  ·rw [l5 (by lia)] at hp
   cases hp
 have RI:∀{Bz:Nat} {Hz:Hp} {c:Addr} {ki:aD},aT Bz Hz q c ki→∀j,∀p∈ki.map fun ps:List (Int×Int)=>ps.getD j (0,1),aH q p.2:=fun{Bz Hz c ki} h j p hp=>by obtain ⟨ps,oM,rfl⟩:=du.mp hp;exact (l9 hq (fun p hp=>(h.nums hq ps oM p hp).1) j).bot
 have one:aH q (((0:Int),(1:Int)):Int×Int).2:=aH.one;refine ⟨_,rfl,_,rfl,_,rfl,q,lf,rt,B,Bx,M,m,vQ,af,rfl,hq,RC.mono i5,RD.mono i5,b1,x1,by lia,wl,lr,M1,Fe,wr,j9,Fg,fun x H5 s5 hx=>?_⟩
 have Fh:=hx.C6 hq (by lia) ww (hT.iz hq) hT.oK (fun i j _ _=>zM (RH RC i) (RI RD j) one) (fun i j hi hj=>(prod i j (by lia) hj).symm)
 refine ⟨_,rfl,NY hq Fh (hT.mono (i5.trans s5)) ⟨false,rfl,eG ?_⟩⟩;dsimp only [iE];have i4:=i5.trans s5;clear hx Fh s3 s4 s5 i5;have lS:(cR D (a7 L dc)).length=M:=by rw [rD,lD]
 have wS:∀ps∈cR D (a7 L dc),ps.length=M:=fun ps h=>by rw [CZ l8 (fun d hd=>by rw [fU];exact Ff d hd) ps h,lL]
 have RJ:∀i,i<M→(cR D (a7 L dc)).getD i []=L.map fun c=>(dc.getD (D.getD i 0) []).getD c o1:=fun i hi=>by rw [CW (by lia),vM (Ff _ (getD_mem (by lia)))]
 refine gY (iK (vH (n:=M) (xs:=aZ D) (by rw [fF,lD]) (fun R h=>⟨_,rfl,dn,rfl,⟨_,.of (i4 _ _ qs)⟩,h _ _ (ag.refl _) (eK (.of (i4 _ _ qs)))⟩) (cT (by lia)) (fun Dx i y Hx=>H5 y=none∧bC B Hx q y ((cR D (a7 L dc)).getD i [])) (fun Dx i y Ha Hb ys ⟨h0,h1⟩ nD e f=>⟨h0,oG h1 nD e f⟩) ?_ ?_))
 ·intro Dx i v hv Hc R sc zs kc
  have hi:i<M:=by have:=(aG.mp hv).1;rw [fF,lD] at this;exact this
  have ev:v=.int ((D.getD i 0:Nat):Int):=by obtain ⟨h,e⟩:=aG.mp hv;rw [←e,J8]
  subst ev;have dl:=Ff _ (getD_mem (L:=D) (i:=i) (by lia))
  obtain ⟨Hq,rx,qt,lv',erx,hrx⟩:=hT.rZ dl;rw [ea] at qt;cases qt;obtain ⟨wx,J7,lwx,fwx⟩:=id hrx;have yz:=i4.trans sc;refine eB (xs:=aZ L) (fun R h=>⟨_,rfl,ac,rfl,⟨_,.of (yz _ _ uy)⟩,h _ _ (ag.refl _) (eK (.of (yz _ _ uy)))⟩) (by rw [fF];exact cT (by lia)) (fun Dy j y Hx=>cD B Hx q y ((dc.getD (D.getD i 0) []).getD (L.getD j 0) o1).1 ((dc.getD (D.getD i 0) []).getD (L.getD j 0) o1).2) (fun Dy j y Ha Hb ys h e f=>h.bu e f) ?_ ?_
  ·intro Dy j v fc Hd R' sd _ kd
   have hj:j<L.length:=by have:=(aG.mp fc).1;rw [fF] at this;exact this
   have ev:v=.int ((L.getD j 0:Nat):Int):=by obtain ⟨h,e⟩:=aG.mp fc;rw [←e,J8]
   subst ev;have ll:=RF _ (getD_mem (L:=L) (i:=j) hj);have wd:=ww _ (aE dl);have l1:L.getD j 0<wx.length:=by lia
   have l2:L.getD j 0<dc[D.getD i 0].length:=by lia
   have z:=fwx (L.getD j 0) wx[L.getD j 0] (dc[D.getD i 0])[L.getD j 0] (by simp [l1]) (by simp [l2])
   have Ka:=yz.trans sd;refine ⟨_,rfl,_,rfl,a,vs,_,.ref rx,rfl,rfl,.of (Ka _ _ ea),dA erx,_,rfl,rx,wx,_,wx[L.getD j 0],rfl,rfl,.of (Ka _ _ J7),dA (by simp [l1]),kd _ Hd (ag.refl _) ?_⟩
   rw [getD_at dl,getD_at l2];exact z.mono Ka
  ·intro Dy ys Hd RK sd dM hP RL
   rw [fF] at dM;refine kc Dy Hd sd RK ⟨_,RL⟩ ⟨none_of sc RK,ys,RL,by rw [RJ i hi,aY];exact dM,fun j y p h1 h2=>?_⟩
   have hj:j<L.length:=by rw [←dM];exact (aG.mp h1).1
   have z:=hP j y h1;rw [RJ i hi,bj] at h2;rw [getD_at hj] at z;simp [hj] at h2;rw [←h2];exact z
 ·intro Dx A1 Hc nDx sc inj p8 eDx
  have hS:aT B Hc q Dx (cR D (a7 L dc)):=⟨_,eDx,by simp [lS],fun i v ps h1 h2=>by
   have hi:i<M:=by have:=(aG.mp h1).1;simpa using this
   rw [bj] at h1;simp [hi] at h1;have z:=(p8 i hi).1.2;have aR:i<(cR D (a7 L dc)).length:=by lia
   rw [getD_at aR] at z;have e:ps=(cR D (a7 L dc))[i]:=by simpa [aR] using h2.symm
   rw [e];exact ⟨A1 i,h1.symm,z⟩⟩
  dsimp only [aO];simp only [a8,a9];have yz:=i4.trans sc;refine ⟨_,rfl,_,rfl,_,rfl,q,Dx,bk,B,By,M,M,cR D (a7 L dc),cZ,rfl,hq,hS,RE.mono yz,b1,y1,by lia,wS,lf',M1,Fe,wf,Fe,acB,fun x H6 s6 hx=>?_⟩
  refine ⟨_,rfl,_,rfl,q,M,rfl,hq,Fe,fun o H7 s7 ho=>?_⟩;have Fh:=(hx.mono s7).C6 (B:=1) (dc:=kK M) hq (by rw [OJ,lS]) OI (OK hq) (OL (aI 1)) (fun i j _ _=>zM (RH hS i) (RI RE j) one) (fun i j hi hj=>by rw [lS] at hi;rw [OH hi hj];exact (inv i j hi hj).symm)
  have hoT:=ho.C6 (B:=1) (dc:=kK M) hq OJ OI (OK hq) (OL (aI 1)) (fun i j _ _=>aH.one) (fun i j hi hj=>by
   rw [OH hi hj];unfold mU
   split <;> exact aX.refl _)
  exact NY hq Fh hoT (k _ (yz.trans (s6.trans s7)))
theorem acK{t:TS}(S:Hp→Prop)(hc:∀Q:Bool→Hp→Prop,(∀H',S H'→Q false H')→c σ H Q)(k:∀H',S H'→u D σ H'):u6 c t u D σ H:=hc _ fun H' s=>by rw [aj dW];exact k H' s
theorem Kb(hq:az q)(z:q≠0)(h:∀p∈ps,Canon q p):b5 q 1000 ps:=by
 have q9:q≤997:=by rcases hq with h | h <;> lia
 refine ⟨1,fun j=>(ps.getD j o1).1,⟨fun y=>absurd y z,fun _=>rfl⟩,by decide,fun p hp=>?_,fun j hj=>?_⟩
 ·rw [((h p hp).2 z).1];exact jG 1
 ·have c:=(l9 hq h j).2 z
  rw [c.1];exact ⟨rfl,by dsimp only;lia⟩
theorem acL:br ["script","p","world","draw","most","n","m","k","u","one","other","whole","a","b","many","first","second","left","right","back","rows","columns_v","paper"] ["script"] (aQ Ei):=bJ
theorem acM(T:Txt K mg t):aK P w K mg base bO 12 t.qf t.tS ["script"] (Cj K):=by
 have S:=acL;refine T.x8.cC S (fun _ _ _ _ H _ _ E hr h=>?_);obtain ⟨a,ns,rfl,hS,hlen,kQ⟩:=h;have jv:=hr.units
 refine ⟨_,(aq (putL 1 S.nd (aA (abd T) hr T.Pz T.xU.kp T.Py aP (ae (aA (AH T) hr T.xS T.mY.kp T.xR aP (ae (pv 0) (ae ao ah))) ah)))
  (aq (putL 2 S.nd (aA (abh T) hr T.PD T.xV.kp T.PB aP (ae (pv 1) ah)))
  (aq (putL 3 S.nd (aA (AH T) hr T.xS T.mY.kp T.xR aP (ae (pv 0) (ae ao ah))))
  (aq (putL 4 S.nd (FH (qO (pv 1) (fun _=>rfl)) ao ao))
  (aq (putL 5 S.nd (ar gT ao (ar cX (pv 3) (pv 4))))
  (aq (putL 6 S.nd (ar gT ao (ar cX (ar iu (pv 3) ao) (pv 4))))
  (aq (putL 7 S.nd (ar gT ao (ar cX (ar iu (pv 3) ao) (pv 4))))
  (aq (putL 8 S.nd (ar gT ao (ar cX (ar iu (pv 3) ao) (pv 4))))
  (aq (putL 9 S.nd (aA (Rf T) hr T.Iw T.t_.kp T.Iv aP (ae (pv 0) (ae (pv 1) (ae (pv 5) (ae (pv 6) (ae ao (ae ao ah))))))))
  (aq (putL 10 S.nd (aA (Rf T) hr T.Iw T.t_.kp T.Iv aP (ae (pv 0) (ae (pv 1) (ae (pv 7) (ae (pv 8) (ae ao (ae ao ah))))))))
  (aq (putL 11 S.nd (aA (ab_ T) hr T.PM T.x4.kp T.PL aP (ae (pv 1) (ae (pv 9) (ae (pv 10) ah)))))
  (aq (putL 12 S.nd (aA (Jl T) hr T.Ew T.ql.kp T.Eu aP (ae (pv 2) (ae (pv 9) ah))))
  (aq (putL 13 S.nd (aA (Jl T) hr T.Ew T.ql.kp T.Eu aP (ae (pv 2) (ae (pv 10) ah))))
  (aq (putL 14 S.nd (aA (Jl T) hr T.Ew T.ql.kp T.Eu aP (ae (pv 2) (ae (aA (ES T) hr T.Ak T.oP.kp T.Aj ig (ae (pv 2) (ae (pv 9) (ae (pv 10) ah)))) ah))))
  (aq (cH (PW.pt (pw_or (mI (jb (aA (abk T) hr T.PH T.xW.kp T.PF aP (ae (pv 14) ah)))) (pw_or (cI je (pv 14) (ar f_ (pv 12) (pv 13))) (pw_or1 (cI je (pv 14) (aA (abw T) hr T.PK T.xZ.kp T.PJ aP (ae (pv 1) (ae (pv 11) (ae (ar f_ (pv 6) (pv 8)) ah))))))))) (aw (aN mG)) cN)
  (aq (cH (cI gc (pv 14) ao) (aw (aN mG)) cN)
  (aq (putL 15 S.nd (aA (QG T) hr T.Iq T.t8.kp T.Ip aP (ae (pv 2) (ae (pv 9) ah))))
  (aq (putL 16 S.nd (aA (QG T) hr T.Iq T.t8.kp T.Ip aP (ae (pv 2) (ae (pv 10) ah))))
  (aq (putL 17 S.nd (aA (ES T) hr T.Ak T.oP.kp T.Aj ig (ae (pv 2) (ae (aC cz (pv 15) ao) (ae (aC cz (pv 16) ao) ah)))))
  (aq (putL 18 S.nd (aA (ES T) hr T.Ak T.oP.kp T.Aj ig (ae (pv 2) (ae (aC cz (pv 15) ao) (ae (aC cz (pv 16) ao) ah)))))
  (aq (putL 19 S.nd (aA (ES T) hr T.Ak T.oP.kp T.Aj ig (ae (pv 2) (ae (aC cz (pv 15) ao) (ae (aC cz (pv 16) ao) ah)))))
  (aq (putL 20 S.nd (aA (Rz T) hr T.IC T.ub.kp T.IA aP (ae (aC cz (pv 15) ao) (ae (aC cz (pv 16) ao) (ae (pv 7) ah)))))
  (aq (putL 21 S.nd (aA (Rz T) hr T.IC T.ub.kp T.IA aP (ae (aC cz (pv 15) ao) (ae (aC cz (pv 16) ao) (ae (pv 8) ah)))))
  (aq (putL 22 S.nd (jf (ae (pv 17) (ae (pv 18) (ae (pv 20) (ae (pv 21) (ae (pv 19) ah)))))))
  (aw (aN (ky (aA (acx T) hr T.PU T.x6.kp T.PR aP (ae (pv 1) (ae (pv 11) (ae (pv 22) (ae (pv 14) ah))))) (mJ (gU V8 (aA (aaI T) hr T.Pa T.xG.kp T.O_ aP (ae (pv 2) (ae (pv 11) (ae (pv 22) ah)))) mG))))))))))))))))))))))))))))),?_⟩
 refine ⟨_,rfl,a,ns,0,rfl,hS,by lia,by lia,fun H1 s1=>⟨_,rfl,fun q H2 s2 hq=>?_⟩⟩
 dsimp only [aO];simp only [L2.start,dN,ku,iP,jE,List.replicate,kv,jC,a8,a9];refine ⟨_,rfl,q,rfl,hq,fun z H3 s3 hz=>?_⟩;have eZ:cu K H3 a (ns.map V.int):=(s1.trans (s2.trans s3)).seq hS;dsimp only [aO];simp only [a8,a9];refine ⟨_,rfl,a,ns,1,rfl,eZ,by lia,by lia,fun H4 s4=>?_⟩
 have hz:=hz.mono s4;have Kc:=s4.seq eZ;clear eZ hS s1 s2 s3 s4;have d0:=Gw ns 1;have d1:=MN ns 1;generalize lI ns 1=d at d0 d1;dsimp only [aO];simp only [a8,a9];refine gY (iK (Xu (fun v H'=>H'=H4∧∃w:Nat,v=.int (w:Int)∧1≤w∧w≤3∧(q=0→w≤2)) (fun Q' kq=>?_) (fun v H' hv=>?_)))
 ·refine ⟨_,rfl,_,rfl,c_ (fun hp=>?_) (fun hp=>?_)⟩
  ·have hp:q≠0:=by simpa using hp
   exact kq _ _ ⟨rfl,3,rfl,by decide,by decide,fun y=>absurd y hp⟩
  ·exact kq _ _ ⟨rfl,2,rfl,by decide,by decide,fun _=>by decide⟩
 obtain ⟨rfl,w,rfl,w1,w3,w2⟩:=hv;have num:∀e:Int,0≤e→∃n:Nat,1+e % (w:Int)=(n:Int)∧1≤n∧n≤3∧(q=0→n≤2):=fun e e0=>by
  have h1:=eE e (show (w:Int)≠0 by lia)
  have h2:=eW e (show (0:Int)<(w:Int) by lia)
  exact ⟨(1+e % (w:Int)).toNat,by lia,by lia,by lia,fun z=>by have:=w2 z;lia⟩
 have wp:(0:Int)<(w:Int):=by lia
 have dv:∀c:Int,0<c→c<10000→Gs d c:=fun c h1 h2=>⟨h1,cO.of_lt (by lia) (by lia)⟩
 dsimp only [aO];simp only [a8,a9];obtain ⟨n,en,n1,n3,n2⟩:=num d d0;refine ⟨_,rfl,_,rfl,_,_,rfl,rfl,wp,_,_,rfl,rfl,?_⟩;dsimp only [aO];rw [en];simp only [a8,a9];obtain ⟨m,em,m1,m3,m2⟩:=num (d / 3) (o5 d0 (by decide))
 refine ⟨_,rfl,_,_,rfl,rfl,dv 3 (by decide) (by decide),_,rfl,_,_,rfl,rfl,wp,_,_,rfl,rfl,?_⟩
 dsimp only [aO];rw [em];simp only [a8,a9];obtain ⟨k,ek,k1,k3,k2⟩:=num (d / 9) (o5 d0 (by decide))
 refine ⟨_,rfl,_,_,rfl,rfl,dv 9 (by decide) (by decide),_,rfl,_,_,rfl,rfl,wp,_,_,rfl,rfl,?_⟩
 dsimp only [aO];rw [ek];simp only [a8,a9];obtain ⟨u,eu,u1,u3,u2⟩:=num (d / 27) (o5 d0 (by decide))
 refine ⟨_,rfl,_,_,rfl,rfl,dv 27 (by decide) (by decide),_,rfl,_,_,rfl,rfl,wp,_,_,rfl,rfl,?_⟩
 dsimp only [aO];rw [eu];simp only [a8,a9];clear en em ek eu num wp dv d0 d1 w1 w3 w2;have len:∀{x:Nat},x≤3→(q=0→x≤2)→pW q x:=fun h h'=>⟨by lia,fun z=>by have:=h' z;lia⟩
 refine ⟨_,rfl,_,rfl,_,rfl,_,rfl,a,ns,q,n,m,2,4,rfl,Kc,hq,n1,len n3 n2,m1,len m3 m2,by decide,by decide,fun ta H5 aa G Dl s5 tf ln wd hG gP gW hE dP dV=>?_⟩
 dsimp only [aO];simp only [a8,a9];have hA:=tf.b;have hz:=hz.mono s5;have RM:=s5.seq Kc;clear s5 Kc tf gP gW;refine ⟨_,rfl,_,rfl,_,rfl,_,rfl,a,ns,q,k,u,3,13,rfl,RM,hq,k1,len k3 k2,u1,len u3 u2,by decide,by decide,fun tb H6 af G' Hr s6 RN lk uE RO gP' gW' RP RQ RR=>?_⟩
 dsimp only [aO];simp only [a8,a9];have hB:=RN.b;have hz:=hz.mono s6;have hA:=hA.mono s6;clear s6 RM RN gP' gW' hlen len;have rows:∀{n:Nat} {G:Nat→Nat} {aa:aD},aa.length=n→(∀i,1000≤G i∧G i≤10 ^ 60)→(∀i,i<n→b5 q (G i) (aa.getD i []))→∀ps∈aa,b5 q (10 ^ 60) ps:=fun{n G aa} ln hG hE ps hp=>by
  obtain ⟨i,hi,e⟩:=gQ.mp hp;have:=hE i (by lia)
  rw [getD_at hi,e] at this;exact vJ this (hG i).2
 have rA:=rows ln hG hE;have rB:=rows lk RO RP;have cA:=hA.iz hq;have cB:=hB.iz hq;have cols:∀{n m:Nat} {Dl:Nat→Nat} {aa:aD},(q=0→n≤2)→dY q aa→aa.length=n→(∀ps∈aa,ps.length=m)→(q=0→n≤3→cq n Dl≤10 ^ 72)→(q=0→∀i,i<n→da (Dl i) (4*10 ^ 18) (aa.getD i []))→∀ps∈bK m aa,b5 q (10 ^ 91) ps:=fun{n m Dl aa} n2 cP ln wd dP dV ps hp=>by
  by_cases y:q=0
  ·subst y
   obtain ⟨D,x,tv⟩:=Yu ln wd (dV rfl);exact vJ (tv.col ln wd cP (dP rfl (by have:=n2 rfl;lia)) (by decide) ps hp) (by decide +kernel)
  ·refine vJ (Kb hq y fun p h2=>?_) (by decide +kernel)
   obtain ⟨rs,h3,h4⟩:=N4 wd hp h2;exact cP rs h3 p h4
 have kA:=cols n2 cA ln wd dP dV;have kB:=cols k2 cB lk uE RQ RR;have acP:=hA.rep hq ln wd;have acQ:=hB.rep hq lk uE;clear rows cols hG hE dP dV RO RP RQ RR;refine ⟨_,rfl,_,rfl,_,rfl,ta,tb,q,aa,af,m,u,rfl,hq,hA,hB,by lia,by lia,by lia,by lia,wd,uE,by lia,u1,by lia,fun tw H7 s7 _ hW=>?_⟩
 rw [ln,lk] at hW;have bA:=hA.oK;have bB:=hB.oK;have hW:=hW.cM hq cA cB bA bB (by decide) (by decide)
 dsimp only [aO];simp only [a8,a9];have Kd:∀{n m:Nat} {aa:aD},aa.length=n→1≤n→n≤3→(∀ps∈aa,ps.length=m)→m≤3→(∀ps∈aa,b5 q (10 ^ 60) ps)→HE q (10 ^ 60) (10 ^ 300) m aa (fun _=>10 ^ 60):=fun{n m aa} ln n1 n3 wd m3 rE=>⟨by decide,by decide +kernel,by lia,by lia,wd,by lia,fun i hi=>by rw [getD_at hi];exact rE _ (aE _),fun _=>⟨show 1000≤10 ^ 60 by decide,show 10 ^ 60<2 ^ 2048 by decide +kernel⟩,by rw [vI];exact av (fL (by decide) (show aa.length≤5 by lia)) (by decide +kernel),dD (Ot (by lia)) (by decide +kernel)⟩
 refine ⟨_,rfl,_,rfl,z,ta,q,10 ^ 60,10 ^ 300,m,aa,_,rfl,hz.mono s7,hq,hA.mono s7,Kd ln n1 n3 wd m3 rA,fun L1 H8 s8 oW acR=>?_⟩;dsimp only [aO];simp only [a8,a9];have Fi:=s7.trans s8;refine ⟨_,rfl,_,rfl,z,tb,q,10 ^ 60,10 ^ 300,u,af,_,rfl,hz.mono Fi,hq,hB.mono Fi,Kd lk k1 k3 uE u3 rB,fun L2 H9 s9 oX acS=>?_⟩;dsimp only [aO];simp only [a8,a9];have AV:=Fi.trans s9;clear Kd;rw [ln] at oW acR;rw [lk] at oX acS;have RS:n*k≤9:=bI n3 k3;have mu9:m*u≤9:=bI m3 u3;have Ke:1≤n*k:=bI n1 k1;have mu1:1≤m*u:=bI m1 u1;have RT:q=0→n*k≤4:=fun y=>bI (n2 y) (k2 y);have mu4:q=0→m*u≤4:=fun y=>bI (m2 y) (u2 y);refine ⟨_,rfl,_,rfl,_,rfl,_,rfl,z,ta,tb,q,10 ^ 60,aa,af,m,u,rfl,hz.mono AV,hq,hA.mono AV,hB.mono AV,by decide,by decide +kernel,by lia,by lia,by lia,by lia,wd,uE,by lia,u1,by lia,by rw [ln,lk];lia,by lia,fun tv m6 kW _ hV=>?_⟩
 rw [ln,lk] at hV;have hV:=hV.cM hq cA cB bA bB (by decide) (by decide)
 have rW:∀ps∈cM q n m k u aa af,b5 q (10 ^ 60*10 ^ 60) ps:=YQ hq ln lk wd uE cA cB rA rB (by decide) (by decide)
 have cW:=rK (n:=n) (m:=m) (k:=k) (u:=u) hq cA cB;have RU:HE q (10 ^ 60*10 ^ 60) (10 ^ 480) (m*u) (cM q n m k u aa af) (fun _=>if q=0 then 10 ^ 60*10 ^ 60 else 1000):=by
  refine ⟨by decide +kernel,by decide +kernel,by rw [dO];exact Ke,by rw [dO];lia,ju,by lia,fun i hi=>?_,fun _=>?_,?_,?_⟩
  ·rw [getD_at hi]
   split
   ·exact rW _ (aE _)
   ·rename_i y
    exact Kb hq y (cW _ (aE _))
  ·split
   ·exact ⟨by decide +kernel,by decide +kernel⟩
   ·exact ⟨by decide,by decide +kernel⟩
  ·rw [dO,vI]
   split
   ·rename_i y
    exact av (fL (by decide +kernel) (RT y)) (by decide +kernel)
   ·exact av (fL (by decide) RS) (by decide +kernel)
  ·rw [dO,←kZ]
   exact dD (gs _ (YS RS)) (by decide +kernel)
 have Kf:=AV.trans kW;refine ⟨z,tv,q,10 ^ 60*10 ^ 60,10 ^ 480,m*u,cM q n m k u aa af,_,rfl,hz.mono Kf,hq,hV,RU,fun L H11 Kg hL _=>?_⟩;rw [dO] at hL;obtain ⟨TA,DA,AW⟩:=acP;obtain ⟨TB,DB,AX⟩:=acQ;have Fj:=Yw hq cA cB AW AX oW oX;have kR:=rN hq cA cB AW AX;have eL:=hL.uniq Fj ⟨_,_,kR⟩;subst eL;clear hL RU hV;have hW:=hW.mono (s8.trans (s9.trans (kW.trans Kg)));have Fl:=Kf.trans Kg;have hz:=hz.mono Fl;have hA:=hA.mono Fl;have hB:=hB.mono Fl;dsimp only [aO];simp only [a8,a9];rw [dU];have RV:L1.length≤3:=by lia
 have RW:L2.length≤3:=by lia
 have ll9:L1.length*L2.length≤9:=bI RV RW;refine gY (acK (fun H'=>ag H11 H') (fun Q' hQ'=>?_) fun H12 gB=>?_)
 ·refine ⟨_,rfl,_,rfl,.int _,true,rfl,eG ?_⟩
  refine ⟨_,rfl,_,rfl,_,rfl,_,_,rfl,rfl,.inl ⟨by lia,by lia⟩,rfl,false,by rw [jj,dr (by rw [nH])];rfl,eG ?_⟩
  refine ⟨_,rfl,_,rfl,_,rfl,_,rfl,_,rfl,_,_,rfl,rfl,.inl ⟨by lia,by lia⟩,q,tw,10 ^ 60*10 ^ 60,m*u,cM q n m k u aa af,by rw [nH];rfl,hq,hW,by rw [dO];lia,ju,by lia,by decide +kernel,fun y=>?_,fun L' H12 gB EU=>?_⟩
  ·have h1:m*u+1≤5:=by have:=mu4 y;lia
   have h2:2 ^ ((cM q n m k u aa af).length-2)≤4:=by rw [dO];exact fL (by decide) (show n*k-2≤2 by have:=RT y;lia)
   exact dD (av (Nat.pow_le_pow_left (gO 2 (fL (by decide +kernel) h1)) _) (fL (by decide +kernel) h2)) (by decide +kernel)
  ·rw [dO] at EU
   have eL':=EU.uniq Fj ⟨_,_,kR⟩;refine ⟨rfl,false,?_,hQ' _ gB⟩;rw [eL',dU,jj,dr rfl];rfl
 dsimp only [iE];refine ⟨_,rfl,rfl,_,rfl,c_ (fun h0=>kQ _) (fun h0=>?_)⟩;dsimp only [iE];have many1:1≤L1.length*L2.length:=by refine BK fun e=>h0 ?_;rw [e];rfl
 have L1p:1≤L1.length:=BK fun e=>by rw [e,Nat.zero_mul] at many1;lia
 have RX:1≤L2.length:=BK fun e=>by rw [e,Nat.mul_zero] at many1;lia
 clear h0;have hz:=hz.mono gB;have hA:=hA.mono gB;have hB:=hB.mono gB;have hW:=hW.mono gB;clear s7 s8 Fi s9 AV kW Kf Kg Fl gB;have uv:∀{k:Nat},k≤5→UB k (10 ^ 60):=fun h=>Ou h (by decide) (by decide +kernel)
 have Az:∀{k:Nat},k≤5→UB k (10 ^ 91):=fun h=>Ou h (by decide) (by decide +kernel)
 have fit:∀{r:Nat},r≤3→(q=0→r≤2)→q=0→r*(cp r*(10 ^ 60) ^ r)≤10 ^ 122:=fun{r} h3 h2 y=>by
  rw [←kZ];have:r*cp r≤4:=(show ∀r∈List.range 3,r*cp r≤4 by decide) r (e7.mpr (by have:=h2 y;lia))
  exact av (bI this (fL (by decide) (h2 y))) (by decide +kernel)
 refine ⟨_,rfl,_,rfl,z,ta,q,10 ^ 60,10 ^ 60,10 ^ 91,m,aa,rfl,hz,hq,hA,aI _,by decide +kernel,by lia,by lia,wd,by lia,rA,kA,by decide +kernel,by decide +kernel,by decide +kernel,by decide +kernel,uv (by lia),Az (by lia),uv (by lia),fun p1 lf1 rt1 dn1 ac1 bk1 L1' D1 R1 F1 H13 AY m7 Kh Ki AZ yA yB Kj RY A3 ac5 A6 Fm RZ Fn R0 R5 inv1 _ _ R6 R7=>?_⟩
 dsimp only [aO];simp only [a8,a9];rw [ln] at Kj A6 RY;have e1:=oW.uniq Kj ⟨_,_,AW⟩;subst e1;refine ⟨_,rfl,_,rfl,z,tb,q,10 ^ 60,10 ^ 60,10 ^ 91,u,af,rfl,hz.mono AY,hq,hB.mono AY,aI _,by decide +kernel,by lia,by lia,uE,by lia,rB,kB,by decide +kernel,by decide +kernel,by decide +kernel,by decide +kernel,uv (by lia),Az (by lia),uv (by lia),fun p2 lf2 rt2 dn2 ac2 bk2 L2' D2 R2 F2 H14 i5 kP ada adb Kk yC yF Kl R8 A7 ade yG Fo R9 Fp R_ Sa inv2 _ _ Sb Sd=>?_⟩
 dsimp only [aO];simp only [a8,a9];rw [lk] at Kl yG R8;have e2:=oX.uniq Kl ⟨_,_,AX⟩;subst e2;clear uv Az kA kB Kj Kl;have Se:q=0→L1.length≤2:=fun y=>by have:=n2 y;lia
 have Sf:q=0→L2.length≤2:=fun y=>by have:=k2 y;lia
 have n3':aa.length≤3:=by lia
 have k3':af.length≤3:=by lia
 have fA:=fit n3' (fun y=>by rw [ln];exact n2 y)
 have fB:=fit k3' (fun y=>by rw [lk];exact k2 y)
 have fC:=fit RV Se;have fD:=fit RW Sf;have yA:=(yA.C7 (B':=10 ^ 122) fA).mono i5;have yB:=(yB.C7 (B':=10 ^ 122) fC).mono i5;have yC:=yC.C7 (B':=10 ^ 122) fB;have yF:=yF.C7 (B':=10 ^ 122) fD;have hz:=hz.mono (AY.trans i5);have hW:=hW.mono (AY.trans i5);have m7:=i5 _ _ m7;have Kh:=i5 _ _ Kh;have Ki:=i5 _ _ Ki;have AZ:=AZ.mono i5;have A8:=yA.iz hq;have A9:=yC.iz hq;have A_:=yB.iz hq;have Bb:=yF.iz hq;have Bc:∀{E m:Nat} {ki:aD},dY q ki→(∀ps∈bK m ki,b5 q E ps)→(q=0→E≤10 ^ 122)→∀ps∈bK m ki,b5 q (10 ^ 122) ps:=fun{E m ki} c h b ps hp=>by
  by_cases y:q=0;·exact vJ (h ps hp) (b y)
  ·refine vJ (Kb hq y ?_) (by decide +kernel)
   unfold bK at hp;obtain ⟨j,_,rfl⟩:=du.mp hp;exact HU hq c j
 have rc1:=Bc A8 R6 fA;have rc2:=Bc A9 Sb fB;have fc1:=Bc A_ R7 fC;have fc2:=Bc Bb Sd fD;clear Bc R6 Sb R7 Sd;clear AY i5 fit hA hB fA fB fC fD;have wP1:=l8 (L:=L1) (aa:=aa);have wP2:=l8 (L:=L2) (aa:=af);refine ⟨_,rfl,_,rfl,p1,_,_,_,rfl,rfl,.of m7,rfl,_,rfl,p2,_,_,_,rfl,rfl,.of kP,rfl,z,lf1,lf2,q,10 ^ 60,a7 L1 aa,a7 L2 af,L1.length,L2.length,rfl,hz,hq,AZ,Kk,by decide,by decide +kernel,by rw [fU];lia,by rw [fU];lia,by rw [fU];lia,by rw [fU];lia,wP1,wP2,by lia,RX,by lia,by rw [fU,fU,ln,lk];lia,by lia,fun tl H15 i4 _ jx=>?_⟩
 rw [fU,fU,ln,lk] at jx;have jx:=jx.cM hq (AZ.iz hq) (Kk.iz hq) AZ.oK Kk.oK (by decide) (by decide)
 rw [YO ln lk oW.2.1 oX.2.1] at jx;dsimp only [aO];simp only [a8,a9];have yH:(1000:Nat)≤10 ^ 122:=by decide +kernel
 refine ⟨_,rfl,_,rfl,p1,_,_,_,rfl,rfl,.of (i4 _ _ m7),rfl,_,rfl,p2,_,_,_,rfl,rfl,.of (i4 _ _ kP),rfl,z,rt1,rt2,q,10 ^ 122,R1,R2,m,u,rfl,hz.mono i4,hq,yA.mono i4,yC.mono i4,yH,by decide +kernel,by lia,by lia,by lia,by lia,RZ,R9,by lia,u1,by lia,by rw [Fm,Fo];lia,by lia,fun tr H16 yu _ Bd=>?_⟩
 rw [Fm,Fo] at Bd;have Bd:=Bd.cM hq A8 A9 yA.oK yC.oK yH (by decide +kernel)
 dsimp only [aO];simp only [a8,a9];have yI:=i4.trans yu;refine ⟨_,rfl,_,rfl,p1,_,_,_,rfl,rfl,.of (yI _ _ m7),rfl,_,rfl,p2,_,_,_,rfl,rfl,.of (yI _ _ kP),rfl,z,bk1,bk2,q,10 ^ 122,F1,F2,L1.length,L2.length,rfl,hz.mono yI,hq,yB.mono yI,yF.mono yI,yH,by decide +kernel,by lia,by lia,by lia,by lia,R0,R_,by lia,RX,by lia,by rw [Fn,Fp];lia,by lia,fun tk H17 Km _ Be=>?_⟩
 rw [Fn,Fp] at Be;have Be:=Be.cM hq A_ Bb yB.oK yF.oK yH (by decide +kernel)
 dsimp only [aO];simp only [a8,a9];have Bf:=yI.trans Km;have D1b:∀x∈D1,x≤40:=fun x hx=>by have:=A6 x hx;lia
 have D2b:∀x∈D2,x≤40:=fun x hx=>by have:=yG x hx;lia
 have M1b:∀x∈L1,x≤40:=fun x hx=>by have:=oW.2.1 x hx;lia
 have M2b:∀x∈L2,x≤40:=fun x hx=>by have:=oX.2.1 x hx;lia
 refine ⟨_,rfl,p1,_,_,_,rfl,rfl,.of (Bf _ _ m7),rfl,_,rfl,p2,_,_,_,rfl,rfl,.of (Bf _ _ kP),rfl,_,rfl,dn1,dn2,D1,D2,k,rfl,Bf _ _ Ki,Bf _ _ adb,by lia,by lia,D1b,by lia,D2b,by rw [A3,A7];lia,fun pr H18 Fq _ Sg=>?_⟩
 dsimp only [aO];simp only [a8,a9];have Bg:=Bf.trans Fq;refine ⟨_,rfl,p1,_,_,_,rfl,rfl,.of (Bg _ _ m7),rfl,_,rfl,p2,_,_,_,rfl,rfl,.of (Bg _ _ kP),rfl,_,rfl,ac1,ac2,L1,L2,u,rfl,Bg _ _ Kh,Bg _ _ ada,by lia,by lia,M1b,by lia,M2b,by lia,fun pc Sh yJ _ Si=>?_⟩
 dsimp only [aO];simp only [a8,a9];refine ⟨_,rfl,_,rfl,_,rfl,_,rfl,_,rfl,by show 5≤sizeLine;decide,fun pp npp=>?_⟩
 have oY:=b_ (o:=.tup [.ref tl,.ref tr,.ref pr,.ref pc,.ref tk]) npp;have Kn:upd Sh pp (.tup [.ref tl,.ref tr,.ref pr,.ref pc,.ref tk]) pp=some (.tup [.ref tl,.ref tr,.ref pr,.ref pc,.ref tk]):=aM;generalize upd Sh pp (.tup [.ref tl,.ref tr,.ref pr,.ref pc,.ref tk])=H20 at oY Kn ⊢;dsimp only [aO];simp only [a8,a9];have Sj:(1:Nat)≤10 ^ 122*10 ^ 122:=by decide +kernel
 obtain ⟨TR1,ER1,Sk⟩:=yA.rep hq Fm RZ;obtain ⟨TR2,ER2,Sl⟩:=yC.rep hq Fo R9;obtain ⟨TF1,EF1,Sm⟩:=yB.rep hq Fn R0;obtain ⟨TF2,EF2,Sn⟩:=yF.rep hq Fp R_;rw [ln] at R5;rw [lk] at Sa;have So:=Yx hq cA cB A8 A9 AW AX Sk Sl oW.2.1 oX.2.1 R5 Sa;have Ko:=HG (D:=D1) (n:=n) A6 (z9 (n:=n) (m:=m) ln oW.2.1 AW);have Kp:=HG (D:=D2) (n:=k) yG (z9 (n:=k) (m:=u) lk oX.2.1 AX);rw [A3] at Ko;rw [A7] at Kp;have eS:=YR (q:=q) ln lk oW.2.1 oX.2.1 A6 yG A3 A7;have Sq:=OP (L:=L1) (D:=D1) hq cA;have Sr:=OP (L:=L2) (D:=D2) hq cB;have kS:=rN hq Sq Sr Ko Kp;have kF:=rN hq A_ Bb Sm Sn;have kRR:=rN hq A8 A9 Sk Sl;have Kq:=YA hq (rK (n:=L1.length) (m:=L1.length) (k:=L2.length) (u:=L2.length) hq Sq Sr) (rK (n:=L1.length) (m:=L1.length) (k:=L2.length) (u:=L2.length) hq A_ Bb) Ko Kp Sm Sn kS kF (inv1 (by lia)) (inv2 (by lia))
 rw [←eS] at Kq kS;have Ss:=Bg.trans (yJ.trans oY);have Su:=yu.trans (Km.trans (Fq.trans (yJ.trans oY)));have Sv:=Km.trans (Fq.trans (yJ.trans oY));have Sw:=Fq.trans (yJ.trans oY);have Sx:=p7 (L:=L1) (L':=L2) oW.2.1 oX.2.1;have Sy:=p7 (L:=D1) (L':=D2) A6 yG;have Sz:=Oy ac5 ade yG;have lSS:(cR (dq D1 D2 k) (a7 (dq L1 L2 u) (cM q n m k u aa af))).length=L1.length*L2.length:=by rw [eS,dO]
 have wSS:∀ps∈cR (dq D1 D2 k) (a7 (dq L1 L2 u) (cM q n m k u aa af)),ps.length=L1.length*L2.length:=by rw [eS];exact ju
 have adw:L1.length*L2.length≤n*k:=bI RY R8;have M4:q=0→L1.length*L2.length≤4:=fun y=>bI (Se y) (Sf y);have Fg:q=0→40*(10 ^ 60*10 ^ 60*(10 ^ 122*10 ^ 122)) ^ (L1.length*L2.length)<2 ^ 8192:=fun y=>dD (gO 40 (fL (by decide +kernel) (M4 y))) (by decide +kernel)
 refine ⟨_,rfl,_,rfl,_,rfl,_,rfl,q,tw,pp,tl,tr,pr,pc,tk,10 ^ 60*10 ^ 60,10 ^ 122*10 ^ 122,10 ^ 122*10 ^ 122,L1.length*L2.length,m*u,cM q n m k u aa af,a7 (dq L1 L2 u) (cM q n m k u aa af),cM q L1.length m L2.length u R1 R2,cM q L1.length L1.length L2.length L2.length F1 F2,dq L1 L2 u,dq D1 D2 k,rfl,hq,hW.mono Ss,Kn,oY _ _ Si,oY _ _ (yJ _ _ Sg),jx.mono Su,Bd.mono Sv,Be.mono Sw,by decide +kernel,Sj,Sj,by rw [dO];exact Ke,by rw [dO];lia,ju,by lia,many1,by lia,dU,by rw [dU,A3,A7],Fj.1,Sz,Sx,fun d hd=>by rw [dO];exact Sy d hd,by rw [fU],fun ps h=>by rw [l8 ps h,dU],dO,ju,dO,ju,Fg,Fg,fun t c ht hc=>?_,fun t c ht hc=>?_,fun H21 uF=>⟨true,rfl,gd ?_⟩⟩
 ·have w:=Og hq (aa:=cM q n m k u aa af) (af:=cM q L1.length m L2.length u R1 R2) (L:=dq L1 L2 u) ju Sx (by rw [dO,dU]) ju ⟨_,_,by rw [dO];exact kR⟩ ⟨_,_,by rw [dU];exact kRR⟩ (by rw [dO];exact So) ht hc
  rw [rz hc,GN] at w;exact w
 ·have w:=Oh hq lSS wSS dO ⟨_,_,kS⟩ ⟨_,_,kF⟩ Kq ht hc
  rw [rz hc,GN] at w;exact w
 ·have SA:=Ss.trans uF
  refine ⟨_,rfl,_,rfl,_,rfl,z,tw,pp,tl,tr,pr,pc,tk,q,10 ^ 60*10 ^ 60,10 ^ 122*10 ^ 122,10 ^ 122*10 ^ 122,10 ^ 60*10 ^ 60,10 ^ 122*10 ^ 122,10 ^ 122*10 ^ 122,m*u,cM q n m k u aa af,cM q L1.length m L2.length u R1 R2,cM q L1.length L1.length L2.length L2.length F1 F2,dq L1 L2 u,dq D1 D2 k,rfl,hz.mono SA,hq,hW.mono SA,uF _ _ Kn,uF _ _ (oY _ _ Si),uF _ _ (oY _ _ (yJ _ _ Sg)),(jx.mono Su).mono uF,(Bd.mono Sv).mono uF,(Be.mono Sw).mono uF,by decide +kernel,by decide +kernel,by decide +kernel,by decide +kernel,by decide +kernel,by decide +kernel,by decide +kernel,by decide +kernel,by decide +kernel,by decide +kernel,by decide +kernel,by rw [dO];exact Ke,by rw [dO];lia,ju,by lia,rW,by rw [dO];exact Fj,by rw [dO,dU];exact adw,by rw [dU,dU,A3,A7],Sz,fun d hd=>by rw [dO];exact Sy d hd,by rw [dO,dU],ju,by rw [dO,dU],fun ps h=>by rw [ju ps h,dU],by rw [dO];exact So,fun _=>by rw [dU];exact Kq,OO hq Fm Fo A8 A9 rc1 rc2 yH (by decide +kernel),by rw [dU];exact OO hq Fn Fp A_ Bb fc1 fc2 yH (by decide +kernel),fun H22 s22=>⟨true,true,rfl,rfl,kQ _⟩⟩
theorem adx{l:PySem.W.OpenLaw}(T:Txt K mg t):∃fd:FuncData,(∀(s:Shared) (v:Value),BindsTo s fd ⟨[v],[]⟩ [("script",v)])∧∀base:Heap,K.In base→base.Ns mainGlobals mg→aK l.prog w K mg base bO 12 t.qf fd ["script"] (Cj K):=by obtain ⟨oc,od,kV,doc,pm,an,bq,ct,gI,e,lk,gF⟩:=T.x8.ex;refine ⟨t.tS,fun s v=>?_,fun base _ _=>acM T⟩;rw [e];exact .of_eq rfl
end
theorem walk{l:PySem.W.OpenLaw}{q:Program}{loose:List Str}{XP:(Str→Option Value)→Heap→Prop}{YP:World→Heap→Prop}{d:DefRec}{K:Params→PySem.W.Frag}(hn:l.most=some 63)(zp:d.params.defaults=[])
  (hY:∀(w:World) (h:Heap),YP w h→(K w.params).In h)
  (F:∀(w:World) (mg:d8) (fa:Addr) (h:Heap),(K w.params).In h→h.Ns mainGlobals mg→mg d.name=some (.ref fa)→
   ∃fd:FuncData,(∀(s:Shared) (u:Value),BindsTo s fd ⟨[u],[]⟩ [("script",u)])∧∀base:Heap,(K w.params).In base→base.Ns mainGlobals mg→aK l.prog w (K w.params) mg base bO 12 fa fd ["script"] (Cj (K w.params))) :
  PySem.W.WalkO q loose XP YP l.row.toRowW d [] (fun f vs=>PySem.call f vs):=
 L2.U8 (n:=63) (k:=12) (x:="script") (CX:=fun _=>bO) (sp:=fun w=>Cj (K w.params)) hn (by decide) zp ⟨rfl,by decide,by decide⟩ hY F (fun _ _ a ns hl _ hS=>⟨a,ns,rfl,hS,hl,fun _=>rfl⟩) fun _ _ _ _ _ z=>z
theorem ady{K:aL}{h:Heap}{mg:d8}(X:K.In h)(G:h.Ns mainGlobals mg)
  {cb:Addr}
  {tW:Addr}
  {mV:Addr}
  {iB:Addr}
  {xq:Addr}
  {oN:Addr} {adz SD:Option Addr} {adA:Array (Option Value)} {adB SE SF SG Kr SH:Value}
  {Ks:Addr} {adC:Tok} {adD:Value} {adE:Option Addr} {adF:Nat} {adG:Array (Option Value)}
  {adH:Tok}
  {adI:Tok}
  {adJ:Tok}
  {p9 p_ r_ sg qa si sj sk so sq su sv sx sy sA sC qb sE qc qd sI sJ sL sM sN sO sP sQ sR sS sU sV sW sX sY sZ s_ td tq tu tx tD tE tF tG tH tI qe tK tL tM tN tO tP tQ tR qf tT tU tV:Addr} {r6 r9 vR vS sh vT vU vV vW vX vY vZ v_ wc wg wj sD wk sF sG wo wq wt wz wA wB wD wF wG wH wI wJ wK wL wM wN wO wQ wR wU wV wW wX wY wZ w5 w6 tJ w9 w_ xc xf xg xh xi xj tS xn xo xp:FuncData}
  (Ku:PySem.W.nsIn K mainGlobals "World"=some (some (.ref cb)))
  (Kv:PySem.W.nsIn K mainGlobals "NoWorld"=some (some (.ref tW)))
  (Kw:PySem.W.nsIn K mainGlobals "NoOver"=some (some (.ref mV)))
  (Kx:PySem.W.nsIn K mainGlobals "NoFit"=some (some (.ref iB)))
  (Ky:PySem.W.nsIn K mainGlobals "WrightError"=some (some (.ref xq)))
  (adK:mg "width"=some (.ref p9))
  (iO:aB K "width" C8 p9 r6)
  (adL:mg "square_size"=some (.ref p_))
  (mX:aB K "square_size" C9 p_ r9)
  (adM:mg "has_size"=some (.ref r_))
  (qg:aB K "has_size" C_ r_ vR)
  (adN:mg "column"=some (.ref sg))
  (qh:aB K "column" De sg vS)
  (adO:mg "columns"=some (.ref qa))
  (qi:aB K "columns" Df qa sh)
  (adP:mg "sum_of_wholes"=some (.ref si))
  (xr:aB K "sum_of_wholes" Dg si vT)
  (adQ:mg "sums_of_wholes"=some (.ref sj))
  (xt:aB K "sums_of_wholes" Dh sj vU)
  (adR:mg "all_as_wholes"=some (.ref sk))
  (xu:aB K "all_as_wholes" Di sk vV)
  (adS:mg "paired_sums"=some (.ref so))
  (tX:aB K "paired_sums" Dj so vW)
  (adT:mg "product"=some (.ref sq))
  (xv:aB K "product" Dk sq vX)
  (adU:mg "one_table_row"=some (.ref su))
  (xx:aB K "one_table_row" Dm su vY)
  (adV:mg "one_table"=some (.ref sv))
  (qj:aB K "one_table" Dn sv vZ)
  (adW:mg "cleared"=some (.ref sx))
  (tY:aB K "cleared" Dp sx v_)
  (adX:mg "first_filled"=some (.ref sy))
  (tZ:aB K "first_filled" Dq sy wc)
  (adY:mg "swapped"=some (.ref sA))
  (t4:aB K "swapped" Ds sA wg)
  (adZ:mg "row_over"=some (.ref sC))
  (t5:aB K "row_over" Dt sC wj)
  (ad0:mg "reduced"=some (.ref qb))
  (me:aB K "reduced" Du qb sD)
  (ad1:mg "beside"=some (.ref sE))
  (t6:aB K "beside" Dv sE wk)
  (ad2:mg "back_times"=some (.ref qc))
  (qk:aB K "back_times" Dw qc sF)
  (ad3:mg "back_of"=some (.ref qd))
  (t7:aB K "back_of" Dz qd sG)
  (ad4:mg "is_whole"=some (.ref sI))
  (xB:aB K "is_whole" DC sI wo)
  (ad5:mg "common_divisor"=some (.ref sJ))
  (oO:aB K "common_divisor" DE sJ wq)
  (ad6:mg "is_prime"=some (.ref sL))
  (xC:aB K "is_prime" DF sL wt)
  (ad7:mg "is_rising"=some (.ref sM))
  (xD:aB K "is_rising" DG sM wz)
  (ad8:mg "rank"=some (.ref sN))
  (ql:aB K "rank" DH sN wA)
  (ad9:mg "picked"=some (.ref sO))
  (qm:aB K "picked" DI sO wB)
  (ad_:mg "rank_paper"=some (.ref sP))
  (t8:aB K "rank_paper" DJ sP wD)
  (aea:mg "put_back"=some (.ref sQ))
  (xF:aB K "put_back" DK sQ wF)
  (aeb:mg "are_picks"=some (.ref sR))
  (t9:aB K "are_picks" DL sR wG)
  (aec:mg "is_rank_paper"=some (.ref sS))
  (xG:aB K "is_rank_paper" DM sS wH)
  (aed:mg "check_sizes"=some (.ref sU))
  (xH:aB K "check_sizes" DN sU wI)
  (aee:mg "twofold_row"=some (.ref sV))
  (xI:aB K "twofold_row" DO sV wJ)
  (aef:mg "twofold"=some (.ref sW))
  (oP:aB K "twofold" DP sW wK)
  (aeg:mg "ratio"=some (.ref sX))
  (xJ:aB K "ratio" DQ sX wL)
  (aeh:mg "ratio_times"=some (.ref sY))
  (xK:aB K "ratio_times" DR sY wM)
  (aei:mg "one_bottom"=some (.ref sZ))
  (xM:aB K "one_bottom" DS sZ wN)
  (aej:mg "remainder_back"=some (.ref s_))
  (xN:aB K "remainder_back" DT s_ wO)
  (aek:mg "remainder_over"=some (.ref td))
  (xO:aB K "remainder_over" DU td wQ)
  (ael:mg "is_fractions"=some (.ref tq))
  (xP:aB K "is_fractions" DV tq wR)
  (aem:mg "is_wheel"=some (.ref tu))
  (xQ:aB K "is_wheel" DW tu wU)
  (aen:mg "_law_b_draw"=some (.ref tx))
  (mY:aB K "_law_b_draw" DX tx wV)
  (aeo:mg "_law_b_low"=some (.ref tD))
  (qo:aB K "_law_b_low" DY tD wW)
  (aep:mg "_law_b_prime"=some (.ref tE))
  (xT:aB K "_law_b_prime" DZ tE wX)
  (aeq:mg "_law_b_wheel"=some (.ref tF))
  (xU:aB K "_law_b_wheel" D3 tF wY)
  (aer:mg "_law_b_world"=some (.ref tG))
  (xV:aB K "_law_b_world" D4 tG wZ)
  (aes:mg "_law_b_whole"=some (.ref tH))
  (xW:aB K "_law_b_whole" D5 tH w5)
  (aet:mg "_law_b_number"=some (.ref tI))
  (qp:aB K "_law_b_number" D8 tI w6)
  (aeu:mg "_law_b_dot"=some (.ref qe))
  (mZ:aB K "_law_b_dot" D9 qe tJ)
  (aev:mg "_law_b_rank"=some (.ref tK))
  (xZ:aB K "_law_b_rank" D_ tK w9)
  (aew:mg "_law_b_drawn"=some (.ref tL))
  (t_:aB K "_law_b_drawn" Ea tL w_)
  (aex:mg "_law_b_product"=some (.ref tM))
  (ua:aB K "_law_b_product" Eb tM xc)
  (aey:mg "_law_b_twofold"=some (.ref tN))
  (x4:aB K "_law_b_twofold" Ec tN xf)
  (aez:mg "_law_b_ones"=some (.ref tO))
  (x5:aB K "_law_b_ones" Ed tO xg)
  (aeA:mg "_law_b_places"=some (.ref tP))
  (ub:aB K "_law_b_places" Ee tP xh)
  (aeB:mg "_law_b_rising"=some (.ref tQ))
  (uc:aB K "_law_b_rising" Eg tQ xi)
  (aeC:mg "_law_b_shown"=some (.ref tR))
  (x6:aB K "_law_b_shown" Eh tR xj)
  (aeD:mg "law"=some (.ref qf))
  (x8:aB K "law" Ei qf tS)
  (Am:Mk K cb tT)
  (Al:gA K "__init__" "World.__init__" Ej tT xn)
  (Kz:PySem.W.findIn K (.ref cb) "of"=some (some (.ref oN)))
  (KA:PySem.W.isFn K (.ref oN)=true)
  (yK:K.lookup oN=some ⟨adB,adz,.func (PySem.W.fnOf "of" "World.of" (jR kL) (gX kL) (aQ kL) (.ref Ks) SE SF SG SD Kr SH),adA⟩)
  (yL:PySem.W.codeIn K Kr "World.of"=true)
  (uH:PySem.W.keepIn K (.ref oN)=true)
  (yM:K.lookup Ks=some ⟨adD,adE,.seq #[.int 1 adC] adF,adG⟩)
  (ED:Meth K cb "times" tU)
  (Ao:gA K "times" "World.times" Ek tU xo)
  (ud:Meth K cb "as_wholes" tV)
  (Ap:gA K "as_wholes" "World.as_wholes" El tV xp)
  (KC:PySem.W.plainGet K cb Str.empty=true)
  (KD:PySem.W.hasDictIn K cb=true)
  (KG:PySem.W.plainOver K cb=true)
  (KH:PySem.W.findIn K (.ref cb) "__setattr__"=some (some (.builtin "object.__setattr__")))
  (KI:PySem.W.findIn K (.ref cb) "prime"=some none)
  (KJ:PySem.W.nsIn K mainGlobals "len"=some none)
  (KL:PySem.W.nsIn K mainGlobals "isinstance"=some none)
  (KN:PySem.W.nsIn K mainGlobals "int"=some none)
  (KO:PySem.W.nsIn K mainGlobals "bool"=some none)
  (KP:PySem.W.nsIn K mainGlobals "tuple"=some none)
  (KQ:PySem.W.nsIn K mainGlobals "list"=some none)
  (KR:PySem.W.nsIn K mainGlobals "range"=some none)
  (KS:PySem.W.nsIn K mainGlobals "abs"=some none)
  (KU:PySem.W.nsIn K mainGlobals "all"=some none)
  (KW:PySem.W.nsIn K mainGlobals "any"=some none)
  (KY:PySem.W.nsIn K mainGlobals "sum"=some none)
  (KZ:PySem.W.nsIn K mainGlobals "zip"=some none)
  (K0:PySem.W.nsIn K mainGlobals "min"=some none)
  (K3:PySem.W.nsIn K mainGlobals "GREATEST_PRIME"=some (some (.int 997 adH)))
  (K4:PySem.W.nsIn K mainGlobals "LONG"=some (some (.int 2048 adI)))
  (K5:PySem.W.nsIn K mainGlobals "MOST"=some (some (.int 40 adJ)))
  (K6:PySem.W.excIn K tW [.type "ValueError",.type "Exception",.type "BaseException",.type "object"] "ValueError.__new__"=true)
  (K7:PySem.W.excIn K mV [.type "ValueError",.type "Exception",.type "BaseException",.type "object"] "ValueError.__new__"=true)
  (K8:PySem.W.excIn K iB [.type "ValueError",.type "Exception",.type "BaseException",.type "object"] "ValueError.__new__"=true)
  (K9:PySem.W.excIn K xq [.type "ValueError",.type "Exception",.type "BaseException",.type "object"] "ValueError.__new__"=true)
  : ∃t:HW,Txt K mg t:=by
 refine ⟨⟨p9,r6,p_,r9,r_,vR,sg,vS,qa,sh,si,vT,sj,vU,sk,vV,so,vW,sq,vX,su,vY,sv,vZ,sx,v_,sy,wc,sA,wg,sC,wj,qb,sD,sE,wk,qc,sF,qd,sG,sI,wo,sJ,wq,sL,wt,sM,wz,sN,wA,sO,wB,sP,wD,sQ,wF,sR,wG,sS,wH,sU,wI,sV,wJ,sW,wK,sX,wL,sY,wM,sZ,wN,s_,wO,td,wQ,tq,wR,tu,wU,tx,wV,tD,wW,tE,wX,tF,wY,tG,wZ,tH,w5,tI,w6,qe,tJ,tK,w9,tL,w_,tM,xc,tN,xf,tO,xg,tP,xh,tQ,xi,tR,xj,qf,tS,tT,xn,oN,PySem.W.fnOf "of" "World.of" (jR kL) (gX kL) (aQ kL) (.ref Ks) SE SF SG SD Kr SH,tU,xo,tV,xp,cb,tW,mV,iB,xq⟩,?_⟩
 exact {
  iO:=iO
  l_:=iO.bP
  ma:=adK
  mX:=mX
  Af:=mX.bP
  Ag:=adL
  qg:=qg
  En:=qg.bP
  Eo:=adM
  qh:=qh
  Ep:=qh.bP
  Er:=adN
  qi:=qi
  HX:=qi.bP
  HY:=adO
  xr:=xr
  OQ:=xr.bP
  OR:=adP
  xt:=xt
  OS:=xt.bP
  OT:=adQ
  xu:=xu
  OU:=xu.bP
  OV:=adR
  tX:=tX
  HZ:=tX.bP
  H_:=adS
  xv:=xv
  OW:=xv.bP
  OX:=adT
  xx:=xx
  OY:=xx.bP
  OZ:=adU
  qj:=qj
  Es:=qj.bP
  Et:=adV
  tY:=tY
  Ia:=tY.bP
  Ib:=adW
  tZ:=tZ
  Ic:=tZ.bP
  Ie:=adX
  t4:=t4
  Ig:=t4.bP
  Ih:=adY
  t5:=t5
  Ii:=t5.bP
  Ij:=adZ
  me:=me
  xy:=me.bP
  xA:=ad0
  t6:=t6
  Ik:=t6.bP
  Il:=ad1
  qk:=qk
  Im:=qk.bP
  Io:=ad2
  t7:=t7
  O0:=t7.bP
  O1:=ad3
  xB:=xB
  O2:=xB.bP
  O3:=ad4
  oO:=oO
  Ah:=oO.bP
  Ai:=ad5
  xC:=xC
  O4:=xC.bP
  O5:=ad6
  xD:=xD
  O6:=xD.bP
  O7:=ad7
  ql:=ql
  Eu:=ql.bP
  Ew:=ad8
  qm:=qm
  Ex:=qm.bP
  Ey:=ad9
  t8:=t8
  Ip:=t8.bP
  Iq:=ad_
  xF:=xF
  O8:=xF.bP
  O9:=aea
  t9:=t9
  Ir:=t9.bP
  Iu:=aeb
  xG:=xG
  O_:=xG.bP
  Pa:=aec
  xH:=xH
  Pb:=xH.bP
  Pc:=aed
  xI:=xI
  Pd:=xI.bP
  Pe:=aee
  oP:=oP
  Aj:=oP.bP
  Ak:=aef
  xJ:=xJ
  Pf:=xJ.bP
  Pg:=aeg
  xK:=xK
  Ph:=xK.bP
  Pj:=aeh
  xM:=xM
  Pk:=xM.bP
  Pl:=aei
  xN:=xN
  Pm:=xN.bP
  Pn:=aej
  xO:=xO
  Po:=xO.bP
  Pp:=aek
  xP:=xP
  Pq:=xP.bP
  Pr:=ael
  xQ:=xQ
  Pt:=xQ.bP
  Pu:=aem
  mY:=mY
  xR:=mY.bP
  xS:=aen
  qo:=qo
  Ez:=qo.bP
  EA:=aeo
  xT:=xT
  Pw:=xT.bP
  Px:=aep
  xU:=xU
  Py:=xU.bP
  Pz:=aeq
  xV:=xV
  PB:=xV.bP
  PD:=aer
  xW:=xW
  PF:=xW.bP
  PH:=aes
  qp:=qp
  EB:=qp.bP
  EC:=aet
  mZ:=mZ
  xX:=mZ.bP
  xY:=aeu
  xZ:=xZ
  PJ:=xZ.bP
  PK:=aev
  t_:=t_
  Iv:=t_.bP
  Iw:=aew
  ua:=ua
  Iy:=ua.bP
  Iz:=aex
  x4:=x4
  PL:=x4.bP
  PM:=aey
  x5:=x5
  PN:=x5.bP
  PQ:=aez
  ub:=ub
  IA:=ub.bP
  IC:=aeA
  uc:=uc
  ID:=uc.bP
  IE:=aeB
  x6:=x6
  PR:=x6.bP
  PU:=aeC
  x8:=x8
  YT:=x8.bP
  PV:=aeD
  Al:=Al
  IF:=Al.bP
  Am:=Am
  PX:=(Cr (st:=kL) (i:=1) yK yL uH yM)
  IG:=jT.binds (ps:=["self","top","bottom"]) (Cr (st:=kL) (i:=1) yK yL uH yM) fun s dT kV doc pm an bq ct tk o n us ho hd hl=>match us,hl with | [_,_,_],_=>.of_defaults rfl ho hd rfl rfl
  PY:=jT.V3 (ps:=["self","top","bottom"]) (Cr (st:=kL) (i:=1) yK yL uH yM) fun s dT kV doc pm an bq ct tk o n us ho hd hl=>match us,hl with | [_,_],_=>.of_defaults rfl ho hd rfl rfl
  YU:=jT.V4 (ps:=["self","top","bottom"]) (y:="bottom") (Cr (st:=kL) (i:=1) yK yL uH yM) fun s dT kV doc pm an bq ct tk o n us ws ho hd hw hl=>match ws,us,hw,hl with | [_],[_,_],_,_=>.of_defaults rfl ho hd rfl rfl
  An:=⟨Kz,KA,uH⟩
  Ao:=Ao
  PZ:=Ao.bP
  ED:=ED
  Ap:=Ap
  Aq:=Ap.bP
  ud:=ud
  gh:=⟨KC,KD,KG,KH⟩
  IH:=bz X G Ku
  kM:=KI
  P0:=bz X G Kv
  II:=bz X G Kw
  ue:=bz X G Kx
  YV:=bz X G Ky
  de:=jH X G KJ
  uf:=jH X G KL
  Ar:=jH X G KN
  IJ:=jH X G KO
  IK:=jH X G KP
  x9:=jH X G KQ
  fe:=jH X G KR
  As:=jH X G KS
  x_:=jH X G KU
  IL:=jH X G KW
  IM:=jH X G KY
  kO:=jH X G KZ
  P4:=jH X G K0
  P5:=⟨_,bz X G K3,_,rfl⟩
  P6:=⟨_,bz X G K4,_,rfl⟩
  P7:=⟨_,bz X G K5,_,rfl⟩
  P8:=K6
  IP:=K7
  ug:=K8
  YW:=K9
 }
end My
namespace PySem.W.Fast
def tw10960185707505112921:Unit:=()
def tw10389412382476518503:Unit:=()
def tw17047084921818238769:Unit:=()
def tw5982682719608171398:Unit:=()
def tw1832299657971804481:Unit:=()
def tw15834718523163387762:Unit:=()
def tw15135490167581447443:Unit:=()
def tw3354579031162724464:Unit:=()
def tw1815988902951972839:Unit:=()
def tw17054725564673387248:Unit:=()
def tw5307471128228902425:Unit:=()
def tw7773913623407528205:Unit:=()
def tw2225379241027770955:Unit:=()
def tw4327599296326974801:Unit:=()
def tw9951992887086884469:Unit:=()
def tw12566586029455549075:Unit:=()
def tw10293798783948286957:Unit:=()
def tw12994062000777726266:Unit:=()
def tw12125863761264252921:Unit:=()
def tw16973582577933950504:Unit:=()
def tw16280608559910280815:Unit:=()
def tw18239656089346350060:Unit:=()
def tw1839725907044016857:Unit:=()
def tw6599604049268654358:Unit:=()
def tw8675528804484965002:Unit:=()
def tw14295446956395308839:Unit:=()
def tw1629865834822020118:Unit:=()
def tw12051424130625261938:Unit:=()
def tw16079653695875415114:Unit:=()
def tw553093321872682503:Unit:=()
def tw13695119860020691432:Unit:=()
def tw12961400601163624565:Unit:=()
def tw458283251718852582:Unit:=()
def tw13007040835987933562:Unit:=()
def tw6061357078659283500:Unit:=()
def tw6766652225837361963:Unit:=()
def tw9662641303223326860:Unit:=()
def tw15857133042250309449:Unit:=()
def tw561817254666712943:Unit:=()
def tw12979296787528661421:Unit:=()
def tw7098985309705392145:Unit:=()
def tw16518681074001362204:Unit:=()
def tw17229885995264866256:Unit:=()
def tw1426948519152955329:Unit:=()
def tw2569303613492249051:Unit:=()
def tw10998803038567463814:Unit:=()
def tw16181788333235946581:Unit:=()
def tw9576260953962381864:Unit:=()
def tw18108437527980831349:Unit:=()
def tw2875986492817862388:Unit:=()
def tw4482822162510764601:Unit:=()
def tw9549915360463861552:Unit:=()
def tw10860482793740544563:Unit:=()
def tw6375999327849773829:Unit:=()
def tw7684899321660688678:Unit:=()
def tw13655634792006836841:Unit:=()
def tw8194903970982809061:Unit:=()
def tw15094513177551621695:Unit:=()
def tw5555173009979260876:Unit:=()
def tw9234041471249683761:Unit:=()
def tw16355132423905174873:Unit:=()
def tw11778180693043351926:Unit:=()
def tw11370241385135015456:Unit:=()
def tw4171629212198834980:Unit:=()
def tw12246277880492614651:Unit:=()
def tw15888347617742821735:Unit:=()
def tw17876626132886185680:Unit:=()
def tw14153186223656015906:Unit:=()
def tw16157093147804850204:Unit:=()
def tw365500415760152009:Unit:=()
def tw4465461575535911483:Unit:=()
def tw2344502917504460601:Unit:=()
def tw10170039024448756402:Unit:=()
def tw6402675632534335853:Unit:=()
def tw12350151990834951485:Unit:=()
def tw12439271612462145963:Unit:=()
def tw3562907848261696012:Unit:=()
def tw10610312176126375101:Unit:=()
def tw3050922583241003696:Unit:=()
def tw1962355706068439873:Unit:=()
def tw8938928755923107799:Unit:=()
def tw1292815447913569995:Unit:=()
def tw1625535693903083006:Unit:=()
def tw10739476447212165628:Unit:=()
def tw16402354428414974318:Unit:=()
def tw4449902599330345296:Unit:=()
def tw7684033405093855555:Unit:=()
def tw6470000858621776470:Unit:=()
def tw5273183292787742982:Unit:=()
def tw7328478783328167667:Unit:=()
def tw11847170250775858337:Unit:=()
def tw8254317509678818216:Unit:=()
def tw18117396211470548434:Unit:=()
def tw15267132471019826074:Unit:=()
def tw6287102691229108772:Unit:=()
def tw7473513518408436856:Unit:=()
def tw2442050258789460851:Unit:=()
def tw9840892910893081324:Unit:=()
def tw4926711398241731961:Unit:=()
def tw16800065631778159688:Unit:=()
def tw14139044829483393972:Unit:=()
def tw5213508625037811523:Unit:=()
def tw9169994636240415895:Unit:=()
def tw587753014266824095:Unit:=()
def tw12711203061029890434:Unit:=()
def tw13466788476168929094:Unit:=()
def tw1951482280391281220:Unit:=()
def tw6408303348287926481:Unit:=()
def tw17606637729373650599:Unit:=()
def tw1828355849045036960:Unit:=()
def tw16318127509831646200:Unit:=()
def tw15777709792341424251:Unit:=()
def tw15139777465102058610:Unit:=()
def tw6651557103805090475:Unit:=()
def tw14330135320463472070:Unit:=()
def tw2746211328948426250:Unit:=()
def tw18033440551215381691:Unit:=()
def tw4901451761364766727:Unit:=()
def tw6255032084799179889:Unit:=()
def tw5182470043950043654:Unit:=()
def tw12497042941639994859:Unit:=()
def tw4827475040959079518:Unit:=()
def tw10730639628285216609:Unit:=()
def tw14958019949263485039:Unit:=()
def tw9011626096417072069:Unit:=()
def tw4321725925514300552:Unit:=()
def tw16325612145515385231:Unit:=()
def tw9909470227727844163:Unit:=()
def tw16734971519797425306:Unit:=()
def tw17052119728239579052:Unit:=()
def tw7224658653925754841:Unit:=()
def tw13719424109126604703:Unit:=()
def tw12478144426063876922:Unit:=()
def tw5933439971067988524:Unit:=()
def tw7522638846153909931:Unit:=()
def tw8189413217035893442:Unit:=()
def tw13346066465718835210:Unit:=()
def tw9301760003687282022:Unit:=()
def tw5296938901855217877:Unit:=()
def tw608442245812411436:Unit:=()
def tw15957030850387244774:Unit:=()
def tw8850420778244202684:Unit:=()
def tw13524188651670147090:Unit:=()
def tw18008437549426500837:Unit:=()
def tw2202439749750752099:Unit:=()
def tw9846114269571536935:Unit:=()
def tw17187708459504960416:Unit:=()
def tw7619377113595099424:Unit:=()
def tw18432049775014445598:Unit:=()
def tw5188126109185510549:Unit:=()
def tw15302743968234880034:Unit:=()
def tw12401887089467969865:Unit:=()
def tw4021431413892421815:Unit:=()
def tw16431479292020274008:Unit:=()
def tw666727286816505714:Unit:=()
def tw9344741773969429303:Unit:=()
def tw14374335960584982592:Unit:=()
def tw12261216780284157147:Unit:=()
def tw6504566667269581259:Unit:=()
def tw1586099760153941906:Unit:=()
def tw4464360817120516966:Unit:=()
def tw798132995140401528:Unit:=()
def tw1786555085847092972:Unit:=()
def tw5431172751265884395:Unit:=()
def tw1976649147212680876:Unit:=()
def tw15275851690242835039:Unit:=()
def tw3657834772540740870:Unit:=()
def tw10682476447680498063:Unit:=()
def tw15317063381868522756:Unit:=()
def tw5271616059995403506:Unit:=()
def tw6893005295208569505:Unit:=()
def tw7903962239006344457:Unit:=()
def tw17471818680967397484:Unit:=()
def tw15215845520603805868:Unit:=()
def tw5181281858641366978:Unit:=()
def tw2874995464750830013:Unit:=()
def tw5478941393017272070:Unit:=()
def tw18087276742822308368:Unit:=()
def tw10648342610084728636:Unit:=()
def tw7276171868599978284:Unit:=()
def tw16123991270786009800:Unit:=()
def tw15828337651509733610:Unit:=()
def tw5011244634500908334:Unit:=()
def tw7889027157761580540:Unit:=()
def tw9880644619220098753:Unit:=()
def tw3865979512047179323:Unit:=()
def tw8892866450359317733:Unit:=()
def tw11427636768927588213:Unit:=()
def tw12309267928017625175:Unit:=()
def tw10864279055629698695:Unit:=()
def tw3375938224791011005:Unit:=()
def tw3897582727561401385:Unit:=()
def tw3230108987811971780:Unit:=()
def tw14264085056695361387:Unit:=()
def tw5543693206690070596:Unit:=()
def tw15922464973684230826:Unit:=()
def tw15042882423217864217:Unit:=()
def tw6103629272166582211:Unit:=()
def tw18102963959992028941:Unit:=()
def tw15871727947819722362:Unit:=()
def tw13286276498456230464:Unit:=()
def tw712315580080391836:Unit:=()
def tw4980152549712219778:Unit:=()
def tw17314134269083252074:Unit:=()
def tw5643583134260257854:Unit:=()
def tw8155701119213203821:Unit:=()
def tw9167357545503652791:Unit:=()
def tw14452177504491742235:Unit:=()
def tw13210023644247076391:Unit:=()
def tw10355711984683732049:Unit:=()
def tw12207595908054293815:Unit:=()
def tw9788556774685595917:Unit:=()
def tw8800080692632014190:Unit:=()
def tw5172663989539916752:Unit:=()
def tw9248521672825032158:Unit:=()
def tw13055986407263327055:Unit:=()
def tw2230616075565870437:Unit:=()
def tw5436379833499091844:Unit:=()
def tw14914732110114610221:Unit:=()
def tw15749786003718977000:Unit:=()
def tw15509043328911548211:Unit:=()
def tw17001800661225420914:Unit:=()
def tw7931870977776361015:Unit:=()
def tw17243012099777038537:Unit:=()
def tw6744311592783181514:Unit:=()
def tw5383181163439689708:Unit:=()
def tw10994794167098166810:Unit:=()
def tw16281524671396268459:Unit:=()
def tw3465611471228624785:Unit:=()
def tw1161888609840934919:Unit:=()
def tw11058444795076622501:Unit:=()
def tw17695437309265057907:Unit:=()
def tw397684169823588660:Unit:=()
def tw8361088699870283828:Unit:=()
def tw2993361493173029585:Unit:=()
def tw3010677490226390997:Unit:=()
def tw12044405143630295696:Unit:=()
def tw6250319017757460641:Unit:=()
def tw396835578969800653:Unit:=()
def tw10383492140844638112:Unit:=()
def tw14499125351116188317:Unit:=()
def tw18328393904380357770:Unit:=()
def tw9361564618427422873:Unit:=()
def tw10394739619567977435:Unit:=()
def tw16869682136296085697:Unit:=()
def tw15910208829843038577:Unit:=()
def tw8587343704295439138:Unit:=()
def tw1538871111449052956:Unit:=()
def tw1799488332281796923:Unit:=()
def tw5591471154952666582:Unit:=()
def tw4217222168125163351:Unit:=()
def tw4170080714562460722:Unit:=()
def tw16783662017148695130:Unit:=()
def tw11668904609530034256:Unit:=()
def tw6841756595855872045:Unit:=()
def tw854951369271119178:Unit:=()
def tw10240365963018061313:Unit:=()
def tw11993622422643349761:Unit:=()
def tw11312975403316861826:Unit:=()
def tw875326867923259405:Unit:=()
def tw12854422179685385776:Unit:=()
def tw15406743622706661217:Unit:=()
def tw7851876217209740082:Unit:=()
def tw11530517496777325706:Unit:=()
def tw14037629105396082855:Unit:=()
def tw18188763844861148899:Unit:=()
def tw4394815521047909407:Unit:=()
def tw9643076687656303652:Unit:=()
def tw14569640664463691038:Unit:=()
def tw6677983211272058006:Unit:=()
def tw6453144295115089267:Unit:=()
def tw13109556277984833831:Unit:=()
def tw16389743322573190235:Unit:=()
def tw5741487591020684073:Unit:=()
def tw14539341864417625352:Unit:=()
def tw3102923195268142589:Unit:=()
def tw8503401357686413074:Unit:=()
def tw13393627088555101839:Unit:=()
def tw9477451796285365845:Unit:=()
def tw18405377851694675932:Unit:=()
def tw17300137960828375794:Unit:=()
def tw8078948754523411671:Unit:=()
def tw10667684358733457304:Unit:=()
def tw2161627695068952795:Unit:=()
def tw18389772205489439:Unit:=()
def tw15795519639041286654:Unit:=()
def tw497054620153762897:Unit:=()
def tw15121730555842759554:Unit:=()
def tw6412171064059662012:Unit:=()
def tw8856878183575089425:Unit:=()
def tw2055801185870293778:Unit:=()
def tw17515931378818791406:Unit:=()
def tw12486851557586283885:Unit:=()
def tw9449872562210316701:Unit:=()
def tw12350662097530291397:Unit:=()
def tw14754510928965621596:Unit:=()
def tw2310985221111588055:Unit:=()
def tw9238216409576932696:Unit:=()
def tw16412653797170698014:Unit:=()
def tw11713699802394674624:Unit:=()
def tw1923084042326605807:Unit:=()
def tw9641350293030092684:Unit:=()
def tw3744663111941178797:Unit:=()
def tw14524371150282632624:Unit:=()
def tw7295442729873280082:Unit:=()
def tw14132345916086566649:Unit:=()
def tw4588793451120379605:Unit:=()
def tw6987385680835597112:Unit:=()
def tw6025665534318384922:Unit:=()
def tw7986382709011058110:Unit:=()
def tw14218961053821296935:Unit:=()
def tw10006449969976283757:Unit:=()
def tw10575659384728358147:Unit:=()
def tw12117583588478441454:Unit:=()
def tw1940922672603988713:Unit:=()
def tw17579245196412983607:Unit:=()
def tw4930491788538971327:Unit:=()
def tw13217260415345432042:Unit:=()
def tw3516702429249117236:Unit:=()
def tw14923483753779387098:Unit:=()
def tw7434461009840895986:Unit:=()
def tw4993328770248762083:Unit:=()
def tw12559650977960769683:Unit:=()
def tw14740393813825929275:Unit:=()
def tw17360747404388548714:Unit:=()
def tw15341327645557600298:Unit:=()
def tw1145971413080820188:Unit:=()
def tw9515824481102355470:Unit:=()
def tw14547464158015028067:Unit:=()
end PySem.W.Fast
open PySem PySem.W PyProof.Rows
set_option maxRecDepth 100000 in
set_option maxHeartbeats 0 in
theorem PySem.Challenge.cw_bandwright_k67_whole_twofold_ranks_holds : PySem.Challenge.rw_bandwright_k67_whole_twofold_ranks.Holds := by
 w_on;o_law;k_head;(case hw=>w_witness2)
 k_fill
 refine My.walk (l:=PySem.Challenge.rw_bandwright_k67_whole_twofold_ranks) rfl rfl (fun w h Y=>PySem.W.kIn_of Y) ?F
 case F=>
  intro w mg fa h KX G zq
  have T:∃t,My.Txt (L2.Ms KX) mg t:=by
   dsimp only [L2.Ms]
   refine' My.ady KX G ?Ku ?Kv ?Kw ?Kx ?Ky (bz KX G ?aeE) (L2.bQ (st:=My.C8) ?aeF ?aeG ?aeH) (bz KX G ?aeI) (L2.bQ (st:=My.C9) ?aeJ ?aeK ?aeL) (bz KX G ?aeM) (L2.bQ (st:=My.C_) ?aeN ?aeO ?aeP) (bz KX G ?aeQ) (L2.bQ (st:=My.De) ?aeR ?aeS ?aeT) (bz KX G ?aeU) (L2.bQ (st:=My.Df) ?aeV ?aeW ?aeX) (bz KX G ?aeY) (L2.bQ (st:=My.Dg) ?aeZ ?ae0 ?ae1) (bz KX G ?ae2) (L2.bQ (st:=My.Dh) ?ae3 ?ae4 ?ae5) (bz KX G ?ae6) (L2.bQ (st:=My.Di) ?ae7 ?ae8 ?ae9) (bz KX G ?ae_) (L2.bQ (st:=My.Dj) ?afa ?afb ?afc) (bz KX G ?afd) (L2.bQ (st:=My.Dk) ?afe ?afg ?afh) (bz KX G ?afi) (L2.bQ (st:=My.Dm) ?afj ?afk ?afl) (bz KX G ?afm) (L2.bQ (st:=My.Dn) ?afn ?afo ?afp) (bz KX G ?afq) (L2.bQ (st:=My.Dp) ?afr ?afs ?aft) (bz KX G ?afu) (L2.bQ (st:=My.Dq) ?afv ?afw ?afx) (bz KX G ?afy) (L2.bQ (st:=My.Ds) ?afz ?afA ?afB) (bz KX G ?afC) (L2.bQ (st:=My.Dt) ?afD ?afE ?afF) (bz KX G ?afG) (L2.bQ (st:=My.Du) ?afH ?afI ?afJ) (bz KX G ?afK) (L2.bQ (st:=My.Dv) ?afL ?afM ?afN) (bz KX G ?afO) (L2.bQ (st:=My.Dw) ?afP ?afQ ?afR) (bz KX G ?afS) (L2.bQ (st:=My.Dz) ?afT ?afU ?afV) (bz KX G ?afW) (L2.bQ (st:=My.DC) ?afX ?afY ?afZ) (bz KX G ?af0) (L2.bQ (st:=My.DE) ?af1 ?af2 ?af3) (bz KX G ?af4) (L2.bQ (st:=My.DF) ?af5 ?af6 ?af7) (bz KX G ?af8) (L2.bQ (st:=My.DG) ?af9 ?af_ ?aga) (bz KX G ?agb) (L2.bQ (st:=My.DH) ?agc ?agd ?age) (bz KX G ?agf) (L2.bQ (st:=My.DI) ?agg ?agh ?agi) (bz KX G ?agj) (L2.bQ (st:=My.DJ) ?agk ?agl ?agm) (bz KX G ?agn) (L2.bQ (st:=My.DK) ?ago ?agp ?agq) (bz KX G ?agr) (L2.bQ (st:=My.DL) ?ags ?agt ?agu) (bz KX G ?agv) (L2.bQ (st:=My.DM) ?agw ?agx ?agy) (bz KX G ?agz) (L2.bQ (st:=My.DN) ?agA ?agB ?agC) (bz KX G ?agD) (L2.bQ (st:=My.DO) ?agE ?agF ?agG) (bz KX G ?agH) (L2.bQ (st:=My.DP) ?agI ?agJ ?agK) (bz KX G ?agL) (L2.bQ (st:=My.DQ) ?agM ?agN ?agO) (bz KX G ?agP) (L2.bQ (st:=My.DR) ?agQ ?agR ?agS) (bz KX G ?agT) (L2.bQ (st:=My.DS) ?agU ?agV ?agW) (bz KX G ?agX) (L2.bQ (st:=My.DT) ?agY ?agZ ?ag0) (bz KX G ?ag1) (L2.bQ (st:=My.DU) ?ag2 ?ag3 ?ag4) (bz KX G ?ag5) (L2.bQ (st:=My.DV) ?ag6 ?ag7 ?ag8) (bz KX G ?ag9) (L2.bQ (st:=My.DW) ?ag_ ?aha ?ahb) (bz KX G ?ahc) (L2.bQ (st:=My.DX) ?ahd ?ahe ?ahf) (bz KX G ?ahg) (L2.bQ (st:=My.DY) ?ahh ?ahi ?ahj) (bz KX G ?ahk) (L2.bQ (st:=My.DZ) ?ahl ?ahm ?ahn) (bz KX G ?aho) (L2.bQ (st:=My.D3) ?ahp ?ahq ?ahr) (bz KX G ?ahs) (L2.bQ (st:=My.D4) ?aht ?ahu ?ahv) (bz KX G ?ahw) (L2.bQ (st:=My.D5) ?ahx ?ahy ?ahz) (bz KX G ?ahA) (L2.bQ (st:=My.D8) ?ahB ?ahC ?ahD) (bz KX G ?ahE) (L2.bQ (st:=My.D9) ?ahF ?ahG ?ahH) (bz KX G ?ahI) (L2.bQ (st:=My.D_) ?ahJ ?ahK ?ahL) (bz KX G ?ahM) (L2.bQ (st:=My.Ea) ?ahN ?ahO ?ahP) (bz KX G ?ahQ) (L2.bQ (st:=My.Eb) ?ahR ?ahS ?ahT) (bz KX G ?ahU) (L2.bQ (st:=My.Ec) ?ahV ?ahW ?ahX) (bz KX G ?ahY) (L2.bQ (st:=My.Ed) ?ahZ ?ah0 ?ah1) (bz KX G ?ah2) (L2.bQ (st:=My.Ee) ?ah3 ?ah4 ?ah5) (bz KX G ?ah6) (L2.bQ (st:=My.Eg) ?ah7 ?ah8 ?ah9) (bz KX G ?ah_) (L2.bQ (st:=My.Eh) ?aia ?aib ?aic) (bz KX G ?aid) (L2.bQ (st:=My.Ei) ?aie ?aif ?aih) ⟨?aii,?aij,?aik,?ail⟩ (L2.bQ (st:=My.Ej) ?aim ?ain ?aio) ?Kz ?KA ?yK ?yL ?uH ?yM ⟨?aip,?aiq,?air⟩ (L2.bQ (st:=My.Ek) ?ais ?ait ?aiu) ⟨?aiv,?aiw,?aix⟩ (L2.bQ (st:=My.El) ?aiy ?aiz ?aiA) ?KC ?KD ?KG ?KH ?KI ?KJ ?KL ?KN ?KO ?KP ?KQ ?KR ?KS ?KU ?KW ?KY ?KZ ?K0 ?K3 ?K4 ?K5 ?K6 ?K7 ?K8 ?K9
   (case Ku|Kv|Kw|Kx|Ky|aeE|aeF|aeG|aeH|aeI|aeJ|aeK|aeL|aeM|aeN|aeO|aeP|aeQ|aeR|aeS|aeT|aeU|aeV|aeW|aeX|aeY|aeZ|ae0|ae1|ae2|ae3|ae4|ae5|ae6|ae7|ae8|ae9|ae_|afa|afb|afc|afd|afe|afg|afh|afi|afj|afk|afl|afm|afn|afo|afp|afq|afr|afs|aft|afu|afv|afw|afx|afy|afz|afA|afB|afC|afD|afE|afF|afG|afH|afI|afJ|afK|afL|afM|afN|afO|afP|afQ|afR|afS|afT|afU|afV|afW|afX|afY|afZ|af0|af1|af2|af3|af4|af5|af6|af7|af8|af9|af_|aga|agb|agc|agd|age|agf|agg|agh|agi|agj|agk|agl|agm|agn|ago|agp|agq|agr|ags|agt|agu|agv|agw|agx|agy|agz|agA|agB|agC|agD|agE|agF|agG|agH|agI|agJ|agK|agL|agM|agN|agO|agP|agQ|agR|agS|agT|agU|agV|agW|agX|agY|agZ|ag0|ag1|ag2|ag3|ag4|ag5|ag6|ag7|ag8|ag9|ag_|aha|ahb|ahc|ahd|ahe|ahf|ahg|ahh|ahi|ahj|ahk|ahl|ahm|ahn|aho|ahp|ahq|ahr|ahs|aht|ahu|ahv|ahw|ahx|ahy|ahz|ahA|ahB|ahC|ahD|ahE|ahF|ahG|ahH|ahI|ahJ|ahK|ahL|ahM|ahN|ahO|ahP|ahQ|ahR|ahS|ahT|ahU|ahV|ahW|ahX|ahY|ahZ|ah0|ah1|ah2|ah3|ah4|ah5|ah6|ah7|ah8|ah9|ah_|aia|aib|aic|aid|aie|aif|aih|aii|aij|aik|ail|aim|ain|aio|Kz|KA|yK|yL|uH|yM|aip|aiq|air|ais|ait|aiu|aiv|aiw|aix|aiy|aiz|aiA|KC|KD|KG|KH|KI|KJ|KL|KN|KO|KP|KQ|KR|KS|KU|KW|KY|KZ|K0|K3|K4|K5=>k_is)
   (case K6|K7|K8|K9=>k_exc)
  obtain ⟨t,T⟩:=T
  have e0:=zq.symm.trans T.PV
  cases e0
  exact My.adx T
#print axioms PySem.Challenge.cw_bandwright_k67_whole_twofold_ranks_holds
