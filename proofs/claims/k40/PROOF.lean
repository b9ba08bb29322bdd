import PyProof.Rows.All
import Wide.All
import OpenK.AllK
import Wide.FinOn
import Lean
import PyProof.EqAt
import PyProof.EqKinds
import PyProof.TupleCall
import PySem.Challenge.RW_bandwright_k40_whole_names_and_neighbour
set_option Elab.async false
set_option linter.all false
set_option maxRecDepth 100000
abbrev cJ:=@decide_eq_false
abbrev km:=@beq_eq_false_iff_ne
abbrev CG:=@List.getElem?_eq_none_iff
abbrev ak:=@if_pos
abbrev aj:=@if_neg
abbrev bP:=@PySem.Heap.lt_size
abbrev dF:=@Nat.lt_of_lt_of_le
abbrev dS:=@Nat.lt_irrefl
abbrev dC:=@Nat.ne_of_lt
abbrev y4:=@PySem.W.hideAll_get
abbrev i8:=@List.mem_filter
abbrev cA:=@List.mem_range
abbrev bE:=@Nat.le_trans
abbrev jF:=@Nat.le_of_lt
abbrev y6:=@List.filterMap_cons
abbrev hZ:=@List.mem_cons_self
abbrev fA:=@List.mem_cons_of_mem
abbrev c_:=@List.mem_cons
abbrev lh:=@List.mem_append
abbrev bQ:=@List.getElem?_eq_some_iff
abbrev dG:=@PySem.wpAny_mono
abbrev mm:=@PySem.wpAny_truthy_bool
abbrev gL:=@congrArg
abbrev y7:=@PySem.wpAny_execs_nil
abbrev bI:=@PySem.wpAny_bind
abbrev wD:=@PySem.wpAny_holding
abbrev dH:=@PySem.wpAny_pure
abbrev y8:=@PySem.wpAny_newObj_type
abbrev cF:=@PySem.Heap.get?_push_of_some
abbrev oN:=@PySem.wpAny_passesOwn
abbrev dI:=@Bool.false_ne_true
abbrev fW:=@Int.mul_one
abbrev wF:=@PySem.wpAny_pyIter_list
abbrev eX:=@PySem.Heap.get?_push_size
abbrev aG:=@Nat.le_refl
abbrev rZ:=@PyProof.Rows.callWith_type1
abbrev fX:=@List.mem_append_right
abbrev b_:=@Nat.zero_le
abbrev oO:=@Bool.eq_iff_iff
abbrev lq:=@beq_iff_eq
abbrev fY:=@List.length_cons
abbrev y9:=@PySem.W.looks_findIn
abbrev cG:=@List.map_cons
abbrev aJ:=@List.length_map
abbrev wG:=@PySem.Heap.size_push
abbrev wH:=@Nat.lt_succ_self
abbrev i9:=@PySem.W.kia_one
abbrev lz:=@List.append_nil
abbrev y_:=@PySem.wpAny_Call_Name_kw
abbrev ko:=@Nat.le_succ
abbrev jG:=@List.nodup_cons
abbrev CH:=@Option.isSome_iff_exists
abbrev kr:=@List.length_take
abbrev lA:=@PySem.mem_of_lookup
abbrev lB:=@List.getElem?_append_right
abbrev nC:=@List.getElem?_append_left
abbrev cx:=@List.getElem?_map
abbrev wI:=@List.take_sublist
abbrev fZ:=@List.mem_of_getElem?
abbrev gu:=@List.length_append
abbrev cI:=@List.size_toArray
abbrev eJ:=@Int.toNat_natCast
abbrev wJ:=@List.map_nil
abbrev dJ:=@if_true
abbrev fb:=@if_false
abbrev r6:=@List.replicate_succ
abbrev wK:=@List.flatten_cons
abbrev oP:=@PySem.call_meets
abbrev CI:=@List.length_singleton
abbrev da:=@decide_eq_true
abbrev bH:=@PySem.W.mg_of
abbrev jH:=@Nat.lt_of_le_of_lt
abbrev CJ:=@PySem.F.typeOf_object_class
abbrev wL:=@PySem.wpAny_loadPart_at
abbrev wM:=@PySem.codeAny_builtin
abbrev oQ:=@Nat.not_lt_zero
abbrev CK:=@List.range_succ_eq_map
abbrev r9:=@List.all_eq_true
abbrev za:=@List.forall_mem_cons
abbrev CL:=@PySem.wpAny_comprehension_free
abbrev CM:=@PySem.codeAny_compLoop_tests
abbrev zb:=@PySem.lookup_relabel_local
abbrev CN:=@PySem.codeAny_compStart_list
abbrev gX:=@List.getD_eq_getElem?_getD
abbrev iR:=@List.mem_singleton
abbrev dc:=@List.length_range
abbrev ku:=@List.getElem?_range
abbrev r_:=@beq_self_eq_true
abbrev oR:=@Nat.gcd_pos_of_pos_right
abbrev mq:=@Int.natAbs_pos
abbrev wN:=@Int.natAbs_natCast
abbrev se:=@Int.mul_le_mul_of_nonneg_left
abbrev fc:=@Int.mul_zero
abbrev kx:=@Int.gcd_dvd_left
abbrev jI:=@Int.gcd_dvd_right
abbrev gv:=@Int.natAbs_mul
abbrev kz:=@Int.dvd_trans
abbrev i_:=@Int.mul_ediv_cancel_left
abbrev dM:=@Int.mul_comm
abbrev ja:=@Int.mul_assoc
abbrev zc:=@Int.mul_left_comm
abbrev zd:=@Int.dvd_mul_left
abbrev CO:=@Int.natAbs_ediv_le_natAbs
abbrev nE:=@Int.natAbs_neg
abbrev jb:=@Int.dvd_refl
abbrev CP:=@Int.emod_add_mul_ediv
abbrev h_:=@Int.emod_lt_of_pos
abbrev gY:=@Int.emod_nonneg
abbrev si:=@Int.dvd_add
abbrev sj:=@Int.neg_mul
abbrev wO:=@Int.mul_emod
abbrev oS:=@Int.emod_eq_of_lt
abbrev oT:=@Int.zero_sub
abbrev ze:=@Int.fdiv_eq_ediv_of_dvd
abbrev lC:=@Int.mul_neg
abbrev CQ:=@Int.eq_of_mul_eq_mul_right
abbrev wQ:=@Nat.sub_self
abbrev wR:=@List.any_cons
abbrev wU:=@List.sum_append
abbrev kA:=@List.take_length
abbrev oU:=@List.not_mem_nil
abbrev zf:=@PySem.Around.in1_units
abbrev zg:=@List.lookup_cons
abbrev jc:=@Int.zero_dvd
abbrev oV:=@Int.mul_eq_zero
abbrev CS:=@Int.dvd_of_emod_eq_zero
abbrev zh:=@Int.mul_ediv_add_emod
abbrev nF:=@Int.one_mul
abbrev eY:=@Int.zero_mul
abbrev iS:=@Int.zero_add
abbrev gZ:=@Nat.mul_le_mul
abbrev kB:=@Int.sub_zero
abbrev wV:=@Classical.byContradiction
abbrev fB:=@List.ext_getElem
abbrev ie:=@List.map_append
abbrev de:=@List.map_congr_left
abbrev oW:=@List.filter_append
abbrev CT:=@List.length_filter_le
abbrev iT:=@List.mem_map
abbrev zi:=@List.find?_cons
abbrev wW:=@decide_eq_true_iff
abbrev g6:=@of_decide_eq_true
abbrev d5:=@List.map_map
abbrev zk:=@List.pairwise_map
abbrev wX:=@List.nodup_range
abbrev d8:=@List.getElem_map
abbrev ig:=@List.getElem_range
abbrev nG:=@List.take_succ
abbrev kC:=@List.take_of_length_le
abbrev dj:=@List.getElem_mem
abbrev b6:=@List.getElem?_eq_getElem
abbrev CU:=@List.nodup_iff_pairwise_ne
abbrev wY:=@Int.dvd_zero
abbrev mr:=@Int.sub_self
abbrev cK:=@List.sum_cons
abbrev zl:=@Int.dvd_mul_of_dvd_left
abbrev zm:=@List.reverse_perm
abbrev kD:=@Nat.le_mul_of_pos_left
abbrev zo:=@Int.dvd_mul_of_dvd_right
abbrev zp:=@Int.ediv_nonneg
abbrev iU:=@Int.eq_of_mul_eq_mul_left
abbrev wZ:=@List.map_take
abbrev CV:=@List.take_prefix_take_left
abbrev jJ:=@Nat.add_sub_cancel_left
abbrev oX:=@List.range_add
abbrev w5:=@Nat.lt_of_not_le
abbrev zq:=@List.drop_eq_getElem_cons
abbrev zt:=@PySem.Heap.SameBut.update
abbrev zu:=@PySem.F.entry_min_loop
abbrev zw:=@PySem.Around.under_plainId
abbrev nH:=@PySem.F.plain_min_loop
abbrev w9:=@PySem.wpAny_tryCatch
abbrev dU:=@PySem.PassesOwn.never
abbrev fN:=@PySem.boot_len
abbrev nJ:=@PySem.F.excBase_ValueError
abbrev jK:=@PySem.F.plainAttrs_list
abbrev w_:=@Int.eq_ofNat_of_zero_le
abbrev xa:=@PySem.F.slot_list_append
abbrev xb:=@PySem.F.type_list_append
abbrev CW:=@PySem.F.slot_list_index
abbrev CY:=@PySem.F.type_list_index
abbrev gw:=@PySem.W.mg_none_of
abbrev g7:=List (List (Int×Int))
abbrev bS:=List (Int×Int)
abbrev aQ:=Nat→Nat→Int
abbrev dq:=PySem.Str→Option PySem.Value
abbrev aN:=PySem.Value→PySem.Shared→Prop
abbrev aC:=PySem.W.Frag
abbrev a9:=List (PySem.Addr×PySem.Obj)
namespace L2
open PySem PySem.Spec PyProof.Rows
abbrev Key:=Sum Int Str
def oY:Key→Value→Bool
 | .inl k,v=>Value.isInt k v
 | .inr x,v=>Value.isStrOf x v
def NW(w:World):Key→Int
 | .inl k=>hashInt k
 | .inr x=>hashStr w x
theorem lD:∀{k:Key} {v:Value},oY k v=true→(∃i t,k=Sum.inl i∧v=Value.int i t)∨(∃x t,k=Sum.inr x∧v=Value.str x t)
 | .inl i,v,h=>by obtain ⟨t,e⟩:=Value.isInt_shape (k:=i) (v:=v) h;exact .inl ⟨i,t,rfl,e⟩
 | .inr x,v,h=>by obtain ⟨t,e⟩:=Value.isStrOf_shape (x:=x) (v:=v) h;exact .inr ⟨x,t,rfl,e⟩
theorem NX(i:Int)(t:Tok):oY (.inl i) (.int i t)=true:=by simp [oY,Value.isInt]
theorem NY(x:Str)(t:Tok):oY (.inr x) (.str x t)=true:=by simp [oY,Value.isStrOf]
theorem NZ(a b:Int):decide ((Sum.inl a:Key)=Sum.inl b)=(a == b):=by
 by_cases e:a=b;·subst e;simp
 ·have h:¬(Sum.inl a:Key)=Sum.inl b:=fun q=>e (Sum.inl.inj q)
  rw [cJ h];exact (km.mpr e).symm
theorem N1(a b:Str):decide ((Sum.inr a:Key)=Sum.inr b)=decide (a=b):=by
 by_cases e:a=b;·subst e;simp
 ·have h:¬(Sum.inr a:Key)=Sum.inr b:=fun q=>e (Sum.inr.inj q)
  rw [cJ h,cJ e]
theorem N2(a:Int)(b:Str):decide ((Sum.inl a:Key)=Sum.inr b)=false:=cJ (fun q=>nomatch q)
theorem N3(a:Str)(b:Int):decide ((Sum.inr a:Key)=Sum.inl b)=false:=cJ (fun q=>nomatch q)
def iV(prog:Program)(w:World):PySem.KeyKind prog w Key where
 is:=oY
 hash:=NW w
 inj:=fun v a b ha hb=>by
  rcases lD ha with ⟨i,t,rfl,rfl⟩ | ⟨x,t,rfl,rfl⟩
  ·rcases lD hb with ⟨j,u,rfl,e⟩ | ⟨y,u,rfl,e⟩
   ·injection e with e1 _;rw [e1]
   ·exact nomatch e
  ·rcases lD hb with ⟨j,u,rfl,e⟩ | ⟨y,u,rfl,e⟩
   ·exact nomatch e
   ·injection e with e1 _;rw [e1]
 byValue:=fun k v h=>by
  rcases lD h with ⟨i,t,rfl,rfl⟩ | ⟨x,t,rfl,rfl⟩ <;> rfl
 pyHash:=fun hv h=>by
  rcases lD hv with ⟨i,t,rfl,rfl⟩ | ⟨x,t,rfl,rfl⟩
  ·exact wpAny_pyHash_int h
  ·exact wpAny_pyHash_str h
 eqBool:=fun hu hv h=>by
  rcases lD hu with ⟨i,t,rfl,rfl⟩ | ⟨x,t,rfl,rfl⟩
  ·rcases lD hv with ⟨j,u,rfl,rfl⟩ | ⟨y,u,rfl,rfl⟩
   ·rw [NZ] at h;exact wpAny_eqBool_int h
   ·rw [N2] at h;exact SeqAt.EqAt.int_str i t y u _ _ _ _ h
  ·rcases lD hv with ⟨j,u,rfl,rfl⟩ | ⟨y,u,rfl,rfl⟩
   ·rw [N3] at h;exact SeqAt.EqAt.str_int x t j u _ _ _ _ h
   ·rw [N1] at h;exact wpAny_eqBool_str h
 «strs»:=fun k x t v h=>by
  rcases lD h with ⟨i,u,rfl,e⟩ | ⟨y,u,rfl,e⟩
  ·exact nomatch e
  ·injection e with e1 _
   subst e1
   cases v <;> rfl
theorem N4(prog:Program)(w:World)(i:Int)(t:Tok):(iV prog w).is (.inl i) (.int i t)=true:=NX i t
theorem N5(prog:Program)(w:World)(x:Str)(t:Tok):(iV prog w).is (.inr x) (.str x t)=true:=NY x t
inductive V where
 | aV | bl (b:Bool) | int (i:Int) | str (x:Str) | jL (b:Array UInt8) | oZ (b:UInt64) | ref (a:Addr) | ty (n:String)
 deriving DecidableEq
def RelV:V→Value→Prop
 | .aV,u=>u=Value.none
 | .bl b,u=>u=Value.bool b
 | .int i,u=>∃t,u=Value.int i t
 | .str x,u=>∃t,u=Value.str x t
 | .jL b,u=>∃t,u=Value.bytes b t
 | .oZ b,u=>∃t,u=Value.float b t
 | .ref a,u=>u=Value.ref a
 | .ty n,u=>u=Value.type n
abbrev Vals:List V→List Value→Prop:=Paired RelV
variable {xs:List V} {us:List Value}
theorem Vals.length(r:Vals xs us):xs.length=us.length:=Paired.length r
theorem Vals.get:∀{xs:List V} {us:List Value} {i:Nat} {x:V},Vals xs us→xs[i]?=some x→∃u,us[i]?=some u∧RelV x u
 | _,_,_,_,.nil,e=>by simp at e
 | _,_,0,_,.cons r _,e=>by simp at e;subst e;exact ⟨_,rfl,r⟩
 | _,_,i+1,x,.cons _ t,e=>by
  obtain ⟨u,h1,h2⟩:=Vals.get (i:=i) (x:=x) t (by simpa using e)
  exact ⟨u,by simpa using h1,h2⟩
theorem Vals.set{x:V}{u:Value}(r:RelV x u):∀{xs:List V} {us:List Value} (i:Nat),Vals xs us→Vals (xs.set i x) (us.set i u)
 | _,_,_,.nil=>.nil
 | _,_,0,.cons _ t=>.cons r t
 | _,_,i+1,.cons q t=>.cons q (Vals.set r i t)
theorem Vals.append:∀{xs ys:List V} {us ws:List Value},Vals xs us→Vals ys ws→Vals (xs++ys) (us++ws)
 | _,_,_,_,.nil,s=>s
 | _,_,_,_,.cons r t,s=>.cons r (Vals.append t s)
theorem Vals.take:∀{xs:List V} {us:List Value} (n:Nat),Vals xs us→Vals (xs.take n) (us.take n)
 | _,_,0,_=>.nil
 | _,_,_+1,.nil=>.nil
 | _,_,n+1,.cons r t=>.cons r (Vals.take n t)
theorem Vals.drop:∀{xs:List V} {us:List Value} (n:Nat),Vals xs us→Vals (xs.drop n) (us.drop n)
 | _,_,0,r=>r
 | _,_,_+1,.nil=>.nil
 | _,_,n+1,.cons _ t=>Vals.drop n t
theorem Vals.none_of:∀{xs:List V} {us:List Value} {i:Nat},Vals xs us→xs[i]?=none→us[i]?=none:=fun{xs us i} r e=>by have h1:=r.length;have h2:xs.length≤i:=CG.mp e;exact CG.mpr (by lia)
def jd:Option V→Option Value→Prop
 | some v,some u=>RelV v u
 | none,none=>True
 | _,_=>False
def KV{κ:Type}:List (κ×V)→List (κ×Value)→Prop:=Paired fun(p:κ×V) (q:κ×Value)=>p.1=q.1∧RelV p.2 q.2
def kV:Key→V
 | .inl i=>.int i
 | .inr x=>.str x
inductive HO where
 | lst (xs:List V)
 | tup (xs:List V)
 | dK (aw:List (Key×V)) | dT (aw:List (List Key×V))
 | set (S:Int→Bool) (n:Nat)
 | ins (C dx:Addr) (fs:List (Str×V))
 | own (x:Addr)
 | xd (fs:List (Str×V))
 | met (f x:Addr)
 | o_ (lo hi:Int)
 | cP (o:Obj) (u:HO)
 | mw (ps:Array Value)
 | ext (φ:Heap→Prop)
abbrev Hp:=Addr→Option HO
def upd(H:Hp)(a:Addr)(o:HO):Hp:=fun b=>if b=a then some o else H b
variable {H:Hp} {a:Addr} {o:HO}
theorem aA:upd H a o a=some o:=by unfold upd;rw [ak rfl]
variable {b:Addr}
theorem aK(h:b≠a):upd H a o b=H b:=by unfold upd;rw [aj h]
theorem N6{u:HO}(h:H a=some o)(h':H b=some u)(d:o≠u):a≠b:=by intro e;subst e;rw [h] at h';exact d (Option.some.inj h')
theorem je(h:H a=some o)(h':H b=none):a≠b:=by intro e;subst e;rw [h] at h';cases h'
section
variable (P:Program) (w:World)
def cQ(H:Hp)(h:Heap)(a:Addr):HO→Prop
 | .lst xs=>xs.length≤sizeLine∧∃(ai:List Value) (n:Nat),Vals xs ai∧h.get? a=some {cls:=.type "list",data:=.seq ai.toArray n}
 | .tup xs=>xs.length≤sizeLine∧∃ai:List Value,Vals xs ai∧IsTup h a ai.toArray
 | .dK aw=>aw.length≤sizeLine∧(a == sysModules)=false∧∃vs,KV aw vs∧h.DictOf (iV P w) a vs
 | .dT aw=>aw.length≤sizeLine∧(a == sysModules)=false∧∃xs:List (List Key×Addr×Value),
   Paired (fun(p:List Key×V) (q:List Key×Addr×Value)=>p.1=q.1∧H q.2.1=some (.tup (p.1.map kV))∧RelV p.2 q.2.2) aw xs ∧
   ∃o es ep,h.get? a=some o∧o.ExactDict∧o.data=.dict es ep∧es.toList=xs.map (entryOfKey (tupleKind (iV P w)))∧(xs.map (·.1)).Nodup
 | .set S n=>h.SetOf (intKind P w) a S n
 | .ins C dx fs=>H dx=some (.own a)∧fs.length≤1000∧dx≠a∧h.get? a=some (PySem.W.instObj C dx) ∧
   ∃mA,h.Ns1 dx mA∧(∀f,jd (fs.lookup f) (mA f))∧PySem.Within mA (fs.map (·.1))
 | .own _=>∃o,h.get? a=some o
 | .xd fs=>∃mA,h.Ns1 a mA∧∀f,jd (fs.lookup f) (mA f)
 | .o_ lo hi=>∃t u v,h.get? a=some {cls:=.type "range",data:=.fields #[.int lo t,.int hi u,.int 1 v]}
 | .cP o u=>h.get? a=some o∧cQ H h a u
 | .mw ps=>h.get? a=some {cls:=.none,data:=.fields ps}
 | .met f x=>h.get? a=some (PySem.W.methodObj (.ref f) (.ref x))
 | .ext φ=>φ h∧(∃o,h.get? a=some o)∧∀h1 h2:Heap,φ h1→(∀o,h1.get? a=some o→h2.get? a=some o)→φ h2
def cL(H:Hp)(h:Heap):Prop:=∀a o,H a=some o→cQ P w H h a o
end
section
variable {P:Program} {w:World} {H H':Hp} {h h':Heap} {a:Addr} {o:HO}
theorem cQ.lt(x:cQ P w H h a o):a<h.objs.size:=by
 cases o with
 | lst xs=>obtain ⟨_,_,_,_,e⟩:=x;exact bP e
 | tup xs=>obtain ⟨_,_,_,p⟩:=x;exact p.lt
 | dK aw=>obtain ⟨_,_,_,_,o,_,_,e,_⟩:=x;exact bP e
 | dT aw=>obtain ⟨_,_,_,_,o,_,_,e,_⟩:=x;exact bP e
 | set S n=>obtain ⟨o,_,_,_,e,_⟩:=x;exact bP e
 | ins C dx fs=>obtain ⟨_,_,_,e,_⟩:=x;exact bP e
 | own y=>obtain ⟨_,e⟩:=x;exact bP e
 | xd fs=>obtain ⟨_,⟨_,_,_,e,_⟩,_⟩:=x;exact bP e
 | o_ lo hi=>obtain ⟨_,_,_,e⟩:=x;exact bP e
 | cP ob u=>obtain ⟨e,_⟩:=x;exact bP e
 | mw ps=>exact bP (show h.get? a=some _ from x)
 | met f y=>exact bP (show h.get? a=some _ from x)
 | ext φ=>obtain ⟨_,⟨_,e⟩,_⟩:=x;exact bP e
theorem Paired.CZ{α β:Type}{F G:α→β→Prop}:∀{l₁:List α} {l₂:List β},Paired F l₁ l₂→(∀a b,F a b→G a b)→Paired G l₁ l₂
 | _,_,.nil,_=>.nil
 | _,_,.cons r t,f=>.cons (f _ _ r) (Paired.CZ t f)
theorem cQ.kG(x:cQ P w H h a o)(k:∀b u,(b=a∨H b=some (.own a))→h.get? b=some u→h'.get? b=some u)
  (ho:∀b,H b=some (.own a)→H' b=some (.own a)) (ht:∀b xs,H b=some (.tup xs)→H' b=some (.tup xs)):cQ P w H' h' a o:=by
 induction o with
 | lst xs=>obtain ⟨z,ai,n,r,e⟩:=x;exact ⟨z,ai,n,r,k _ _ (.inl rfl) e⟩
 | tup xs=>obtain ⟨z,ai,r,ob,e,c⟩:=x;exact ⟨z,ai,r,ob,k _ _ (.inl rfl) e,c⟩
 | dK aw=>obtain ⟨z,y,vs,r,ob,es,ep,e,c⟩:=x;exact ⟨z,y,vs,r,ob,es,ep,k _ _ (.inl rfl) e,c⟩
 | dT aw=>obtain ⟨z,y,xs,r,ob,es,ep,e,c⟩:=x;exact ⟨z,y,xs,Paired.CZ r fun p q z=>⟨z.1,ht _ _ z.2.1,z.2.2⟩,ob,es,ep,k _ _ (.inl rfl) e,c⟩
 | set S n=>obtain ⟨ob,es,ep,t,e,c⟩:=x;exact ⟨ob,es,ep,t,k _ _ (.inl rfl) e,c⟩
 | ins C dx fs=>obtain ⟨d,z,ne,e,mA,⟨od,es,ep,e2,c⟩,r⟩:=x;exact ⟨ho _ d,z,ne,k _ _ (.inl rfl) e,mA,⟨od,es,ep,k _ _ (.inr d) e2,c⟩,r⟩
 | own y=>obtain ⟨ob,e⟩:=x;exact ⟨ob,k _ _ (.inl rfl) e⟩
 | xd fs=>obtain ⟨mA,⟨od,es,ep,e,c⟩,r⟩:=x;exact ⟨mA,⟨od,es,ep,k _ _ (.inl rfl) e,c⟩,r⟩
 | o_ lo hi=>obtain ⟨t,u,v,e⟩:=x;exact ⟨t,u,v,k _ _ (.inl rfl) e⟩
 | cP ob u ih=>obtain ⟨e,q⟩:=x;exact ⟨k _ _ (.inl rfl) e,ih q⟩
 | mw ps=>have e:h.get? a=some {cls:=.none,data:=.fields ps}:=x;show h'.get? a=some {cls:=.none,data:=.fields ps};exact k a _ (.inl rfl) e
 | met f y=>have e:h.get? a=some (PySem.W.methodObj (.ref f) (.ref y)):=x;show h'.get? a=some (PySem.W.methodObj (.ref f) (.ref y));exact k a _ (.inl rfl) e
 | ext φ=>obtain ⟨p,⟨o,e⟩,st⟩:=x;exact ⟨st _ _ p fun o q=>k _ _ (.inl rfl) q,⟨o,k _ _ (.inl rfl) e⟩,st⟩
theorem cL.lt(x:cL P w H h)(e:H a=some o):a<h.objs.size:=(x a o e).lt
theorem cL.fresh(x:cL P w H h)(e:h.objs.size≤a):H a=none:=by
 cases q:H a with
 | none=>rfl
 | some u=>exact absurd (dF (x.lt q) e) (dS _)
theorem cL.kept(x:cL P w H h)(k:∀b u,h.get? b=some u→h'.get? b=some u):cL P w H h':=fun a o e=>(x a o e).kG (fun b u _ q=>k b u q) (fun _ q=>q) fun _ _ q=>q
theorem cL.laid(x:cL P w H h)(k:∀b u,h.get? b=some u→h'.get? b=some u)(hp:h.objs.size≤a)(new:cQ P w (upd H a o) h' a o):cL P w (upd H a o) h':=fun b u e=>by
 have hn:=x.fresh hp;by_cases hb:b=a;·subst hb;rw [aA] at e;cases e;exact new
 ·rw [aK hb] at e
  exact (x b u e).kG (fun c v _ q=>k c v q) (fun c q=>by rw [aK (je q hn)];exact q) fun c xs q=>by rw [aK (je q hn)];exact q
end
def Rd(H:Hp)(a:Addr)(u:HO):Prop:=H a=some u∨∃o,H a=some (.cP o u)
variable {P:Program} {w:World} {h:Heap}
theorem Rd.ok{u:HO}(r:Rd H a u)(x:cL P w H h):cQ P w H h a u:=by
 rcases r with r | ⟨o,r⟩;·exact x a u r
 ·obtain ⟨_,q⟩:=x a _ r
  exact q
def xc:Option HO→Prop
 | some (.lst _)=>True
 | some (.dK _)=>True
 | some (.dT _)=>True
 | some (.set _ _)=>True
 | some (.ins _ _ _)=>True
 | some (.ext _)=>True
 | _=>False
section
variable {P:Program} {w:World} {H:Hp} {h h':Heap} {x e:Addr} {o':HO}
theorem cL.write(ok:cL P w H h)(mu:xc (H x))(he:e=x∨H e=some (.own x))(k:∀b u,b≠e→h.get? b=some u→h'.get? b=some u)(sk:∃u,h'.get? e=some u)
  (new:cQ P w (upd H x o') h' x o'):cL P w (upd H x o') h':=fun b u q=>by
 have Hk:∀c y,H c=some (.own y)→c≠x:=fun c y r z=>by subst z;rw [r] at mu;exact mu
 have N7:∀c xs,H c=some (.tup xs)→c≠x:=fun c xs r z=>by subst z;rw [r] at mu;exact mu
 by_cases hb:b=x;·subst hb;rw [aA] at q;cases q;exact new
 ·rw [aK hb] at q
  by_cases pb:b=e
  ·have q':H b=some (.own x):=by
    rcases he with z | z;·exact absurd (pb.trans z) hb
    ·rw [pb];exact z
   rw [q] at q';cases q';obtain ⟨v,hv⟩:=sk;exact ⟨v,by rw [pb];exact hv⟩
  ·refine (ok b u q).kG (fun c v hc r=>k c v ?_ r) (fun c r=>by rw [aK (Hk c b r)];exact r) fun c xs r=>by rw [aK (N7 c xs r)];exact r
   rcases hc with rfl | hc;·exact pb
   ·rintro rfl
    rcases he with z | z;·exact Hk c b hc z
    ·rw [hc] at z;cases z;exact hb rfl
end
structure Un (fs ex:List Addr) (H H':Hp) (h h':Heap):Prop where
 keep:∀b o,h.get? b=some o→H b=none→b∉fs→b∉ex→h'.get? b=some o
 slot:∀b o,h.get? b=some o→H b=none→b∈fs→b∉ex→∃sl,h'.get? b=some {o with slots:=sl}
 free:∀b o,h.get? b=some o→H b=none→b∉ex→H' b=none
 there:∀b o,h.get? b=some o→b∉ex→∃o',h'.get? b=some o'
 iq:∀b xs,H b=some (.tup xs)→H' b=some (.tup xs)
 g8:∀b o u,H b=some (.cP o u)→H' b=some (.cP o u)
 ir:∀b ps,H b=some (.mw ps)→∃more,H' b=some (.mw (ps++more))
section
variable {fs C0 ex kH:List Addr} {H H1 H2:Hp} {h h1 h2 h':Heap} {a x e:Addr} {o:HO}
theorem Un.any(u:Un fs ex H H1 h h1){ob:Obj}(q:h.get? b=some ob)(n:H b=none)(hx:b∉ex):∃sl,h1.get? b=some {ob with slots:=sl}:=by
 by_cases hb:b∈fs;·exact u.slot b ob q n hb hx
 ·exact ⟨ob.slots,u.keep b ob q n hb hx⟩
theorem Un.kept(k:∀b u,h.get? b=some u→h'.get? b=some u):Un fs ex H H h h':=
 ⟨fun b ob q _ _ _=>k b ob q,fun b ob q _ _ _=>⟨ob.slots,k b ob q⟩,fun _ _ _ n _=>n,fun b ob q _=>⟨ob,k b ob q⟩,fun _ _ q=>q,fun _ _ _ q=>q,fun _ ps q=>⟨#[],by rw [q];simp⟩⟩
theorem Un.refl:Un fs ex H H h h:=Un.kept fun _ _ q=>q
theorem Un.laid(k:∀b u,h.get? b=some u→h'.get? b=some u)(hp:h.objs.size≤a)(hn:H a=none):Un fs ex H (upd H a o) h h' where
 keep:=fun b u q _ _ _=>k b u q
 slot:=fun b u q _ _ _=>⟨u.slots,k b u q⟩
 free:=fun b u q n _=>by rw [aK (dC (dF (bP q) hp))];exact n
 there:=fun b u q _=>⟨u,k b u q⟩
 iq:=fun b xs q=>by rw [aK (je q hn)];exact q
 g8:=fun b u xs q=>by rw [aK (je q hn)];exact q
 ir:=fun b ps q=>⟨#[],by rw [aK (je q hn),q];simp⟩
theorem Un.write(mu:xc (H x))(he:e=x∨H e=some (.own x))(k:∀b u,b≠e→h.get? b=some u→h'.get? b=some u)(sk:∃u,h'.get? e=some u):Un fs ex H (upd H x o) h h':=by
 have hx:∀b,H b=none→b≠x:=fun b n z=>by subst z;rw [n] at mu;exact mu
 have hb:∀b,H b=none→b≠e:=fun b n z=>by
  subst z;rcases he with r | r;·exact hx b n r
  ·rw [n] at r;cases r
 have hm:∀b u,H b=some u→¬xc (some u)→b≠x:=fun b u q nm z=>by subst z;rw [q] at mu;exact nm mu
 refine ⟨fun b u q n _ _=>k b u (hb b n) q,fun b u q n _ _=>⟨u.slots,k b u (hb b n) q⟩,fun b u q n _=>by rw [aK (hx b n)];exact n,fun b u q _=>?_,
  fun b xs q=>by rw [aK (hm b _ q fun z=>z)];exact q,fun b u xs q=>by rw [aK (hm b _ q fun z=>z)];exact q,fun b ps q=>⟨#[],by rw [aK (hm b _ q fun z=>z),q];simp⟩⟩
 by_cases pb:b=e;·subst pb;exact sk
 ·exact ⟨u,k b u pb q⟩
end
def zx(h:Heap)(H:Hp):List Addr:=(List.range h.objs.size).filter fun a=>(H a).isSome
def mB(h:Heap)(H:Hp):Heap:=PySem.W.hideAll h (zx h H)
theorem N8(h:Heap)(H:Hp):(mB h H).objs.size=h.objs.size:=PySem.W.hideAll_size _ _
theorem N9{o:Obj}(e:h.get? b=some o)(n:H b=none):(mB h H).get? b=some o:=
 y4 _ e fun hm=>by have q:(H b).isSome=true:=(i8.mp hm).2;rw [n] at q;simp at q
theorem N_{o:Obj}(e:(mB h H).get? b=some o):h.get? b=some o∧H b=none:=by
 have e':h.get? b=some o:=PySem.W.of_hideAll (zx h H) e;refine ⟨e',?_⟩;cases q:H b with
 | none=>rfl
 | some x=>
  have hm:b∈zx h H:=i8.mpr ⟨cA.mpr (bP e'),by simp [q]⟩
  have z:(mB h H).get? b=none:=PySem.W.hideAll_none (zx h H) hm;rw [z] at e;cases e
structure Mod (K:aC) (mg:dq) (base:Heap):Prop where
 df:K.In base
 glob:base.Ns mainGlobals mg
 blt:∃mb,base.Ns builtinsNs mb∧∀x:Str,x ≠ "__name__"→mb x=bootBuiltins x
 nolimit:base.NoLimit
structure Cx where
 prog:Program
 w:World
 K:PySem.W.Frag
 mg:Str→Option Value
 base:Heap
 A:Around
 N:List Str
 s₀:Shared
 H₀:Hp
 env:Env
 outer:List Env
 stack:List Env
 ex:List Addr
 fn:Str→Bool
 calm:Bool
 pn:List (Addr×Obj)
 xe:Value→Shared→Prop
def cV(l:List Env):List Addr:=l.filterMap (·.frame)
abbrev Cx.fs (X:Cx):List Addr:=cV X.outer
def nK(sc:Scope)(x:Str):Prop:=sc.names.lookup x=some .local∨sc.names.lookup x=some .cell∨sc.names.lookup x=some .free
def Loc(sc:Scope)(x:Str):Prop:=sc.names.lookup x=some .local∨sc.names.lookup x=some .cell
def Look(env:Env)(h:Heap)(m:dq)(x:Str)(u:Value):Prop:=
 (env.kindOf x=some .local∧m x=some u)∨((env.kindOf x=some .cell∨env.kindOf x=some .free)∧∃c,env.cells.lookup x=some c∧h.IsCell c (some u))
structure Cx.Ok (X:Cx):Prop where
 mod:Mod X.K X.mg X.base
 kind:X.env.scope.kind=.function
 glob:X.env.globals=mainGlobals
 blt:X.env.builtins=builtinsNs
 above:X.s₀.heap.objs.size≤X.env.locals
 inj:∀x y c,X.env.cells.lookup x=some c→X.env.cells.lookup y=some c→x=y
 has:∀x,(X.env.kindOf x=some .cell∨X.env.kindOf x=some .free)→∃c,X.env.cells.lookup x=some c
 pe:∀x c,X.fn x=true→X.env.cells.lookup x=some c→X.s₀.heap.objs.size≤c
 hd:X.calm=true→X.A.handled=none
 frames:X.A.frames=some X.stack
 jf:X.stack=X.outer∨(X.stack=X.env::X.outer∧X.env.frame=some X.env.locals)
 Hm:∀b∈X.ex,b≠X.env.locals∧∀x c,X.env.cells.lookup x=some c→c≠b
 bs:∀b o,X.base.get? b=some o→X.s₀.heap.get? b=some o∧X.H₀ b=none
 jg:X.base.objs.size≤X.s₀.heap.objs.size
 pd:∀b o,X.base.get? b=some o→b∉X.ex
 pf:∀b∈X.ex,b∉X.fs
 jM:X.s₀.heap.FunFrames X.base X.outer
 mC:∀b∈X.fs,X.H₀ b=none
structure Inv (X:Cx) (pins:a9) (σ:List (Option V)) (H:Hp) (s:Shared):Prop where
 ok:X.Ok
 os:s.os=X.s₀.os
 bare:AllBare s.gens
 base:Un X.fs X.ex X.H₀ H X.s₀.heap s.heap
 loc:∃m,s.heap.Ns X.env.locals m∧∀(i:Nat) (x:Str) (v:V),X.N[i]?=some x→σ[i]?=some (some v)→nK X.env.scope x→∃u,RelV v u∧Look X.env s.heap m x u
 cell:∀x c,X.env.cells.lookup x=some c→∃v,s.heap.IsCell c v
 free:H X.env.locals=none
 jN:∀x c,X.env.cells.lookup x=some c→H c=none
 pin:∀p∈X.pn++pins,s.heap.get? p.1=some p.2∧H p.1=none∧p.1≠X.env.locals∧p.1∉X.fs∧∀v,p.2.data≠.cell v
 aD:cL X.prog X.w H s.heap
 len:σ.length=X.N.length
section
variable {X:Cx} {pins:a9} {σ:List (Option V)} {H H':Hp} {s:Shared} {h':Heap}
theorem Cx.Ok.Oa(ok:X.Ok){o:Obj}(e:X.base.get? b=some o):b∉X.fs:=fun hb=>by have:=(ok.jM.mem hb).1;rw [e] at this;cases this
theorem Inv.bs(I:Inv X pins σ H s):∀b o,X.base.get? b=some o→s.heap.get? b=some o∧H b=none:=fun b o e=>⟨I.base.keep b o (I.ok.bs b o e).1 (I.ok.bs b o e).2 (I.ok.Oa e) (I.ok.pd b o e),I.base.free b o (I.ok.bs b o e).1 (I.ok.bs b o e).2 (I.ok.pd b o e)⟩
theorem Inv.bk(I:Inv X pins σ H s):∀b o,X.base.get? b=some o→s.heap.get? b=some o:=fun b o e=>(I.bs b o e).1
theorem Inv.mod(I:Inv X pins σ H s):Mod X.K X.mg X.base:=I.ok.mod
theorem Inv.dW(I:Inv X pins σ H s):X.K.In s.heap:=I.ok.mod.df.keeps I.bk
theorem Inv.lt(I:Inv X pins σ H s):X.env.locals<s.heap.objs.size:=let ⟨_,hn,_⟩:=I.loc;hn.lt
theorem Inv.sz(I:Inv X pins σ H s):X.s₀.heap.objs.size≤s.heap.objs.size:=bE I.ok.above (jF I.lt)
theorem Inv.Ob(I:Inv X pins σ H s)(h:s.heap.objs.size≤a):a∉X.fs:=fun hb=>by obtain ⟨_,o,ho,_⟩:=I.ok.jM.mem hb;exact absurd (dF (bP ho) (bE I.sz h)) (dS _)
theorem Inv.ph(I:Inv X pins σ H s):∀x c,X.env.cells.lookup x=some c→c≠X.env.locals:=fun x c e z=>by obtain ⟨v,o,ho,hd⟩:=I.cell x c e;obtain ⟨m,⟨o',es,ep,lE,C1,_⟩,_⟩:=I.loc;rw [z,lE] at ho;cases ho;rw [C1] at hd;cases hd
theorem Inv.jM(I:Inv X pins σ H s):s.heap.FunFrames X.base X.outer:=by
 have all:∀(l:List Env),(∀b∈cV l,b∈X.fs)→X.s₀.heap.FunFrames X.base l→s.heap.FunFrames X.base l:=by
  intro l
  induction l with
  | nil=>intro _ _;trivial
  | cons env r ih=>
   intro hs hl;obtain ⟨hk,⟨L,o,hf,hn,ho,hd⟩,hr⟩:=hl;have hL:L∈X.fs:=hs L (by unfold cV;rw [y6,hf];exact hZ)
   obtain ⟨sl,e⟩:=I.base.slot L o ho (I.ok.mC L hL) hL fun z=>I.ok.pf L z hL;exact ⟨hk,⟨L,_,hf,hn,e,hd⟩,ih (fun b hb=>hs b (by unfold cV;rw [y6,hf];exact fA _ hb)) hr⟩
 exact all X.outer (fun _ hb=>hb) I.ok.jM
theorem Inv.stack(I:Inv X pins σ H s):s.heap.FunFrames X.base X.stack:=by
 rcases I.ok.jf with e | ⟨e,hf⟩;·rw [e];exact I.jM
 ·rw [e]
  obtain ⟨m,hn,_⟩:=I.loc;refine .cons (by rw [I.ok.kind];decide) hf hn ?_ I.jM
  exact Heap.get?_none_of_le (bE I.ok.jg I.ok.above)
theorem Inv.xf(I:Inv X pins σ H s):∀b∈cV X.stack,b∈X.env.locals::X.fs:=fun b hb=>by
 rcases I.ok.jf with e | ⟨e,hf⟩;·rw [e] at hb;exact fA _ hb
 ·rw [e] at hb
  unfold cV at hb;rw [y6,hf] at hb;exact hb
theorem Inv.xg(I:Inv X pins σ H s):∀b∈cV X.stack,H b=none:=fun b hb=>by
 rcases c_.mp (I.xf b hb) with e | hb;·rw [e];exact I.free
 ·obtain ⟨_,o,ho,_⟩:=I.ok.jM.mem hb
  exact I.base.free b o ho (I.ok.mC b hb) fun z=>I.ok.pf b z hb
variable {g':Array GenState} {t':Nat} {d':Drawn} {ch:List Addr}
theorem Inv.step(I:Inv X pins σ H s)
  (lF:∀b∈ch,(b∈X.ex∨X.s₀.heap.objs.size≤b)∧b≠X.env.locals∧(∀x c,X.env.cells.lookup x=some c→c≠b)∧∀p∈X.pn++pins,p.1≠b)
  (keep:∀b o,b≠X.env.locals→b∉X.fs→b∉ch→s.heap.get? b=some o→H b=none→h'.get? b=some o)
  (slot:∀b o,b≠X.env.locals→b∈X.fs→b∉ch→s.heap.get? b=some o→H b=none→∃sl,h'.get? b=some {o with slots:=sl}) (free:∀b o,b∉ch→s.heap.get? b=some o→H b=none→H' b=none)
  (there:∀b o,b∉ch→s.heap.get? b=some o→∃o',h'.get? b=some o')
  (iq:∀b xs,H b=some (.tup xs)→H' b=some (.tup xs)) (g8:∀b o u,H b=some (.cP o u)→H' b=some (.cP o u)) (ir:∀b ps,H b=some (.mw ps)→∃more,H' b=some (.mw (ps++more)))
  (ns:∀m,s.heap.Ns X.env.locals m→h'.Ns X.env.locals m) (aD:cL X.prog X.w H' h') (hg:AllBare g') :
  Inv X pins σ H' {s with heap:=h',gens:=g',drawn:=d',toks:=t'}:=by
 have Hn:∀b o,X.s₀.heap.get? b=some o→b≠X.env.locals:=fun b o e=>dC (dF (bP e) I.ok.above);have zy:∀b o,X.s₀.heap.get? b=some o→b∉X.ex→b∉ch:=fun b o e hx hb=>by
  rcases (lF b hb).1 with z | z;·exact hx z
  ·exact absurd (dF (bP e) z) (dS _)
 have cellK:∀x c,X.env.cells.lookup x=some c→∀v,s.heap.IsCell c v→h'.IsCell c v:=fun x c e v ⟨o,ho,hd⟩=>by
  have xh:c∉ch:=fun z=>(lF c z).2.2.1 x c e rfl;by_cases hc:c∈X.fs
  ·obtain ⟨sl,q⟩:=slot c o (I.ph x c e) hc xh ho (I.jN x c e)
   exact ⟨_,q,hd⟩
  ·exact ⟨o,keep c o (I.ph x c e) hc xh ho (I.jN x c e),hd⟩
 refine ⟨I.ok,I.os,hg,⟨fun b o e n hb hx=>?_,fun b o e n hb hx=>?_,fun b o e n hx=>?_,fun b o e hx=>?_,fun b xs e=>iq b xs (I.base.iq b xs e),fun b o xs e=>g8 b o xs (I.base.g8 b o xs e),fun b ps e=>?_⟩,?_,fun x c e=>?_,?_,fun x c e=>?_,fun p hp=>?_,aD,I.len⟩;·exact keep b o (Hn b o e) hb (zy b o e hx) (I.base.keep b o e n hb hx) (I.base.free b o e n hx)
 ·obtain ⟨sl,e1⟩:=I.base.slot b o e n hb hx
  obtain ⟨Oc,e2⟩:=slot b _ (Hn b o e) hb (zy b o e hx) e1 (I.base.free b o e n hx);exact ⟨Oc,e2⟩
 ·obtain ⟨o',e1⟩:=I.base.there b o e hx
  exact free b o' (zy b o e hx) e1 (I.base.free b o e n hx)
 ·obtain ⟨o',e1⟩:=I.base.there b o e hx
  exact there b o' (zy b o e hx) e1
 ·obtain ⟨m1,e1⟩:=I.base.ir b ps e
  obtain ⟨m2,e2⟩:=ir b _ e1;exact ⟨m1++m2,by rw [e2,Array.append_assoc]⟩
 ·obtain ⟨m,hn,hl⟩:=I.loc
  refine ⟨m,ns m hn,fun i x v e1 e2 e3=>?_⟩;obtain ⟨u,r,l⟩:=hl i x v e1 e2 e3;refine ⟨u,r,?_⟩;rcases l with l | ⟨k,c,e,z⟩;·exact .inl l
  ·exact .inr ⟨k,c,e,cellK x c e _ z⟩
 ·obtain ⟨v,z⟩:=I.cell x c e
  exact ⟨v,cellK x c e v z⟩
 ·obtain ⟨m,⟨o,_,_,ho,_⟩,_⟩:=I.loc
  exact free _ o (fun z=>(lF _ z).2.1 rfl) ho I.free
 ·obtain ⟨v,o,ho,hd⟩:=I.cell x c e
  exact free c o (fun z=>(lF c z).2.2.1 x c e rfl) ho (I.jN x c e)
 ·obtain ⟨e,n,ne,nf,d⟩:=I.pin p hp
  have xh:p.1∉ch:=fun z=>(lF p.1 z).2.2.2 p hp rfl;exact ⟨keep p.1 p.2 ne nf xh e n,free p.1 p.2 xh e n,ne,nf,d⟩
theorem Inv.un(I:Inv X pins σ H s)(u:Un X.fs [] H H' s.heap h')(aD:cL X.prog X.w H' h'):Inv X pins σ H' {s with heap:=h',toks:=t'}:=by
 obtain ⟨m,⟨o,es,ep,ho,r⟩,_⟩:=id I.loc;obtain ⟨sl,hL⟩:=u.any ho I.free (by simp)
 exact I.step (g':=s.gens) (d':=s.drawn) (ch:=[]) (fun _ z=>nomatch z) (fun b o _ hb _ e n=>u.keep b o e n hb (by simp)) (fun b o _ hb _ e n=>u.slot b o e n hb (by simp)) (fun b o _ e n=>u.free b o e n (by simp)) (fun b o _ e=>u.there b o e (by simp)) u.iq u.g8 u.ir (fun m' hm=>by obtain ⟨o',C2,C3,lE,r'⟩:=hm;rw [ho] at lE;cases lE;exact ⟨_,C2,C3,hL,r'⟩) aD I.bare
theorem Inv.call(I:Inv X pins σ H s)(u:Un (cV X.stack) ch H H' s.heap h')(aD:cL X.prog X.w H' h')(hg:AllBare g')
  (lF:∀b∈ch,(b∈X.ex∨X.s₀.heap.objs.size≤b)∧b≠X.env.locals∧(∀x c,X.env.cells.lookup x=some c→c≠b)∧∀p∈X.pn++pins,p.1≠b) :
  Inv X pins σ H' {s with heap:=h',gens:=g',drawn:=d',toks:=t'}:=by
 obtain ⟨m,⟨o,es,ep,ho,r⟩,_⟩:=id I.loc;obtain ⟨sl,hL⟩:=u.any ho I.free fun z=>(lF _ z).2.1 rfl;exact I.step (ch:=ch) lF (fun b o hL hb hc e n=>u.keep b o e n (fun z=>(c_.mp (I.xf b z)).elim hL hb) hc) (fun b o _ _ hc e n=>u.any e n hc) (fun b o hc e n=>u.free b o e n hc) (fun b o hc e=>u.there b o e hc) u.iq u.g8 u.ir (fun m' hm=>by obtain ⟨o',C2,C3,lE,r'⟩:=hm;rw [ho] at lE;cases lE;exact ⟨_,C2,C3,hL,r'⟩) aD hg
theorem Inv.turned{it:Addr}(I:Inv X pins σ H s)(k:∀b o,b≠it→s.heap.get? b=some o→h'.get? b=some o)(hn:H it=none)(hL:it≠X.env.locals)
  (h1:it∈X.ex∨X.s₀.heap.objs.size≤it) (h2:∀x c,X.env.cells.lookup x=some c→c≠it) (h3:∀p∈X.pn++pins,p.1≠it):Inv X pins σ H {s with heap:=h',toks:=t'}:=by
 have Hw:∀b u,H b=some u→b≠it:=fun b u e z=>by rw [z,hn] at e;cases e
 refine I.step (g':=s.gens) (d':=s.drawn) (ch:=[it]) (fun b hb=>?_) (fun b o _ _ hc e _=>k b o (fun z=>hc (by simp [z])) e) (fun b o _ _ hc e _=>⟨o.slots,k b o (fun z=>hc (by simp [z])) e⟩) (fun _ _ _ _ n=>n)
  (fun b o hc e=>⟨o,k b o (fun z=>hc (by simp [z])) e⟩) (fun _ _ e=>e) (fun _ _ _ e=>e) (fun b ps e=>⟨#[],by rw [e];simp⟩) (fun m hm=>?_) (fun b u e=>?_) I.bare
 ·have e:b=it:=by simpa using hb
  subst e;exact ⟨h1,hL,h2,h3⟩
 ·obtain ⟨o,es,ep,ho,r⟩:=hm
  exact ⟨o,es,ep,k _ o (Ne.symm hL) ho,r⟩
 ·refine (I.aD b u e).kG (fun c v hc q=>k c v ?_ q) (fun _ q=>q) fun _ _ q=>q
  rcases hc with z | z;·rw [z];exact Hw b u e
  ·exact Hw c _ z
theorem Inv.tok(I:Inv X pins σ H s)(t:Nat):Inv X pins σ H {s with toks:=t}:=I.un (h':=s.heap) (t':=t) Un.refl I.aD
theorem Inv.kept(I:Inv X pins σ H s)(k:∀b u,s.heap.get? b=some u→h'.get? b=some u):Inv X pins σ H {s with heap:=h',toks:=t'}:=I.un (Un.kept k) (I.aD.kept k)
theorem Inv.laid(I:Inv X pins σ H s)(k:∀b u,s.heap.get? b=some u→h'.get? b=some u)(hp:s.heap.objs.size≤a)(new:cQ X.prog X.w (upd H a o) h' a o) :
  Inv X pins σ (upd H a o) {s with heap:=h',toks:=t'}:=I.un (Un.laid k hp (I.aD.fresh hp)) (I.aD.laid k hp new)
theorem Inv.write{x e:Addr}(I:Inv X pins σ H s)(mu:xc (H x))(he:e=x∨H e=some (.own x))(k:∀b u,b≠e→s.heap.get? b=some u→h'.get? b=some u)(sk:∃u,h'.get? e=some u)
  (new:cQ X.prog X.w (upd H x o) h' x o):Inv X pins σ (upd H x o) {s with heap:=h',toks:=t'}:=I.un (Un.write mu he k sk) (I.aD.write mu he k sk new)
theorem Inv.Hy{Hz:a9}(I:Inv X pins σ H s)(h:∀p∈Hz,s.heap.get? p.1=some p.2∧H p.1=none∧p.1≠X.env.locals∧p.1∉X.fs∧∀v,p.2.data≠.cell v):Inv X Hz σ H s:=
 ⟨I.ok,I.os,I.bare,I.base,I.loc,I.cell,I.free,I.jN,fun p hp=>(lh.mp hp).elim (fun z=>I.pin p (List.mem_append_left _ z)) (h p),I.aD,I.len⟩
variable {i:Nat} {x:Str}
theorem HA{N:List Str}(hN:N.Nodup){j:Nat}(a:N[i]?=some x)(b:N[j]?=some x):i=j:=by obtain ⟨h1,e1⟩:=bQ.mp a;obtain ⟨h2,e2⟩:=bQ.mp b;exact (List.getElem_inj hN).mp (e1.trans e2.symm)
variable {M:Model} {A:Around} {E:aN} {v:V} {u:Value} {Q:Unit→Shared→Prop}
theorem C4(I:Inv X pins σ H s)(hN:X.N.Nodup)(hi:X.N[i]?=some x)(hx:Loc X.env.scope x)(r:RelV v u)
  (h:∀s',Inv X pins (σ.set i (some v)) H s'→(∃a,Heap.SameBut a s.heap s'.heap∧(a=X.env.locals∨X.env.cells.lookup x=some a))→Q () s') (hf:X.fn x=true∨X.env.scope.names.lookup x=some .local:=by first | exact .inl rfl | exact .inr rfl | assumption):wpAny M A (storeName X.env x u) Q E s:=by
 obtain ⟨m,hn,hl⟩:=id I.loc;have Od:(X.env.scope.kind == .class || (X.env.scope.kind == .module && X.env.locals != X.env.globals))=false:=by rw [I.ok.kind];rfl
 have HB:i<σ.length:=by rw [I.len];exact (bQ.mp hi).1
 have ph:=I.ph;have tracked:∀{a:Addr} {h':Heap},(∃o,s.heap.get? a=some o∧H a=none)→Heap.SameBut a s.heap h'→cL X.prog X.w H h':=fun{a h'} ha hs b ob e=>by
  obtain ⟨_,_,HC⟩:=ha;refine (I.aD b ob e).kG (fun c w' hc q=>(hs.2 c ?_).trans q) (fun _ q=>q) fun _ _ q=>q;rintro rfl;rcases hc with rfl | hc;·rw [HC] at e;cases e
  ·rw [HC] at hc;cases hc
 rcases hx with hk | hk
 ·refine wpAny_storeName_local hk hn (fun h' Oe hs=>?_) Od
  obtain ⟨oL,_,_,Of,_⟩:=id hn;refine h _ ⟨I.ok,I.os,I.bare,⟨fun b o e n hb hx=>?_,fun b o e n hb hx=>?_,I.base.free,fun b o e hx=>?_,I.base.iq,I.base.g8,I.base.ir⟩,⟨_,Oe,fun j y v' e1 e2 e3=>?_⟩,fun y c e=>?_,I.free,I.jN,fun p hp=>?_,tracked ⟨oL,Of,I.free⟩ hs,by simpa using I.len⟩ ⟨_,hs,.inl rfl⟩
  ·exact (hs.2 b (dC (dF (bP e) I.ok.above))).trans (I.base.keep b o e n hb hx)
  ·obtain ⟨sl,e1⟩:=I.base.slot b o e n hb hx
   exact ⟨sl,(hs.2 b (dC (dF (bP e) I.ok.above))).trans e1⟩
  ·obtain ⟨o',e1⟩:=I.base.there b o e hx
   exact ⟨o',(hs.2 b (dC (dF (bP e) I.ok.above))).trans e1⟩
  ·by_cases hj:j=i
   ·subst hj
    rw [hi] at e1;cases e1;rw [List.getElem?_set_self HB] at e2;cases e2;exact ⟨u,r,.inl ⟨hk,by simp⟩⟩
   ·rw [List.getElem?_set_ne (Ne.symm hj)] at e2
    obtain ⟨u',r',q⟩:=hl j y v' e1 e2 e3;refine ⟨u',r',?_⟩;rcases q with ⟨k,e⟩ | ⟨k,c,e,z⟩
    ·refine .inl ⟨k,?_⟩
     have:y≠x:=fun e=>hj (HA hN e1 (e▸hi));simp [this,e]
    ·exact .inr ⟨k,c,e,z.sameBut hs (ph y c e)⟩
  ·obtain ⟨w',z⟩:=I.cell y c e
   exact ⟨w',z.sameBut hs (ph y c e)⟩
  ·obtain ⟨e,n,ne,nf,d⟩:=I.pin p hp
   exact ⟨(hs.2 p.1 ne).trans e,n,ne,nf,d⟩
 ·have C5:X.fn x=true:=by
   rcases hf with z | z;·exact z
   ·rw [z] at hk;cases hk
  obtain ⟨c,hc⟩:=I.ok.has x (.inl hk);obtain ⟨w',z⟩:=I.cell x c hc;refine wpAny_storeName_cell I.ok.kind hk hc z (fun h' d9 hs=>?_);obtain ⟨oc,HD,Og⟩:=id z;refine h {s with heap:=h'} ⟨I.ok,I.os,I.bare,⟨fun b o e n hb hx=>?_,fun b o e n hb hx=>?_,I.base.free,fun b o e hx=>?_,I.base.iq,I.base.g8,I.base.ir⟩,⟨m,hn.sameBut hs (Ne.symm (ph x c hc)),fun j y v' e1 e2 e3=>?_⟩,fun y c' e=>?_,I.free,I.jN,fun p hp=>?_,tracked ⟨oc,HD,I.jN x c hc⟩ hs,by simpa using I.len⟩ ⟨c,hs,.inr hc⟩
  ·exact (hs.2 b (dC (dF (bP e) (I.ok.pe x c C5 hc)))).trans (I.base.keep b o e n hb hx)
  ·obtain ⟨sl,e1⟩:=I.base.slot b o e n hb hx
   exact ⟨sl,(hs.2 b (dC (dF (bP e) (I.ok.pe x c C5 hc)))).trans e1⟩
  ·obtain ⟨o',e1⟩:=I.base.there b o e hx
   exact ⟨o',(hs.2 b (dC (dF (bP e) (I.ok.pe x c C5 hc)))).trans e1⟩
  ·by_cases hj:j=i
   ·subst hj
    rw [hi] at e1;cases e1;rw [List.getElem?_set_self HB] at e2;cases e2;exact ⟨u,r,.inr ⟨.inl hk,c,hc,d9⟩⟩
   ·rw [List.getElem?_set_ne (Ne.symm hj)] at e2
    obtain ⟨u',r',q⟩:=hl j y v' e1 e2 e3;refine ⟨u',r',?_⟩;rcases q with q | ⟨k,c',e,z'⟩;·exact .inl q
    ·refine .inr ⟨k,c',e,z'.sameBut hs ?_⟩
     rintro rfl;exact hj (HA hN e1 (I.ok.inj _ _ _ e hc▸hi))
  ·by_cases HE:c'=c
   ·subst HE;exact ⟨_,d9⟩
   ·obtain ⟨w2,z2⟩:=I.cell y c' e
    exact ⟨w2,z2.sameBut hs HE⟩
  ·obtain ⟨e,n,ne,nf,d⟩:=I.pin p hp
   refine ⟨(hs.2 p.1 ?_).trans e,n,ne,nf,d⟩;intro q;rw [q,HD] at e;have q':oc=p.2:=Option.some.inj e;exact d w' (by rw [←q'];exact Og)
theorem xi(I:Inv X pins σ H s)(hN:X.N.Nodup)(hi:X.N[i]?=some x)(hx:Loc X.env.scope x)(r:RelV v u)
  (h:∀s',Inv X pins (σ.set i (some v)) H s'→Q () s') (hf:X.fn x=true∨X.env.scope.names.lookup x=some .local:=by first | exact .inl rfl | exact .inr rfl | assumption):wpAny M A (storeName X.env x u) Q E s:=
 C4 I hN hi hx r (fun s' I' _=>h s' I') hf
theorem Inv.pj{s':Shared}(I:Inv X pins σ H s)(ho:s'.os=s.os)(u:Un (cV X.stack) ch H H' s.heap s'.heap)(aD:cL X.prog X.w H' s'.heap)(hg:AllBare s'.gens)
  (lF:∀b∈ch,(b∈X.ex∨X.s₀.heap.objs.size≤b)∧b≠X.env.locals∧(∀x c,X.env.cells.lookup x=some c→c≠b)∧∀p∈X.pn++pins,p.1≠b):Inv X pins σ H' s':=by
 obtain ⟨h',g',d',t',o'⟩:=s';have e:o'=s.os:=ho;subst e;exact I.call (g':=g') (t':=t') (d':=d') u aD hg lF
end
abbrev XK:=Value→Option Addr→Hp→Prop
abbrev St:=List (Option V)
abbrev VK:=V→Hp→Prop
abbrev TE:=St→Hp→VK→Prop
abbrev TT:=St→Hp→(Bool→Hp→Prop)→Prop
abbrev TA:=St→Hp→(List V→Hp→Prop)→Prop
structure Ends where
 nx:St→Hp→Prop
 rt:VK
 bk:St→Hp→Prop:=fun _ _=>False
 ct:St→Hp→Prop:=fun _ _=>False
abbrev TS:=Ends→St→Hp→Prop
def EP(X:Cx)(pins:a9)(σ:St)(Q:VK)(u:Value)(s':Shared):Prop:=∃v H',Inv X pins σ H' s'∧RelV v u∧Q v H'
def TP(X:Cx)(pins:a9)(σ:St)(Q:Bool→Hp→Prop)(b:Bool)(s':Shared):Prop:=∃H',Inv X pins σ H' s'∧Q b H'
def AP(X:Cx)(pins:a9)(σ:St)(Q:List V→Hp→Prop)(us:List Value)(s':Shared):Prop:=∃vs H',Inv X pins σ H' s'∧Vals vs us∧Q vs H'
def SP(X:Cx)(pins:a9)(D:Ends)(f:Flow)(s':Shared):Prop:=
 match f with
 | .next=>∃σ' H',Inv X pins σ' H' s'∧D.nx σ' H'
 | .brk=>∃σ' H',Inv X pins σ' H' s'∧D.bk σ' H'
 | .cont=>∃σ' H',Inv X pins σ' H' s'∧D.ct σ' H'
 | .ret u=>∃v σ' H',Inv X pins σ' H' s'∧RelV v u∧D.rt v H'
def PE(X:Cx)(e:Expr)(t:TE):Prop:=
 ∀(pins:a9) (s:Shared) (σ:St) (H:Hp) (Q:VK),Inv X pins σ H s→t σ H Q→wpAny (model X.prog X.w) X.A (eval e X.env) (EP X pins σ Q) X.xe s
def PT(X:Cx)(e:Expr)(t:TT):Prop:=
 ∀(pins:a9) (s:Shared) (σ:St) (H:Hp) (Q:Bool→Hp→Prop),Inv X pins σ H s→t σ H Q→wpAny (model X.prog X.w) X.A (isTrue e X.env (eval e X.env)) (TP X pins σ Q) X.xe s
def PW(X:Cx)(e:Expr)(t:TT):Prop:=
 ∀(whole:Sem Value) (pins:a9) (s:Shared) (σ:St) (H:Hp) (Q:Bool→Hp→Prop),Inv X pins σ H s→t σ H Q→wpAny (model X.prog X.w) X.A (isTrue e X.env whole) (TP X pins σ Q) X.xe s
variable {X:Cx}
theorem PW.pt{e:Expr}{t:TT}(h:PW X e t):PT X e t:=h _
def PA(X:Cx)(es:List Expr)(t:TA):Prop:=
 ∀(pos:Pos) (pins:a9) (s:Shared) (σ:St) (H:Hp) (Q:List V→Hp→Prop),Inv X pins σ H s→t σ H Q→wpAny (model X.prog X.w) X.A (spliced (backTo pos (starEach es X.env))) (AP X pins σ Q) X.xe s
def PS(X:Cx)(st:Stmt)(t:TS):Prop:=
 ∀(pins:a9) (s:Shared) (σ:St) (H:Hp) (D:Ends),Inv X pins σ H s→t D σ H→wpAny (model X.prog X.w) X.A (exec st X.env) (SP X pins D) X.xe s
def eZ(X:Cx)(st:List Stmt)(t:TS):Prop:=
 ∀(pins:a9) (s:Shared) (σ:St) (H:Hp) (D:Ends),Inv X pins σ H s→t D σ H→wpAny (model X.prog X.w) X.A (execs st X.env) (SP X pins D) X.xe s
variable {M:Model} {A:Around} {E:aN} {s:Shared}
theorem aR{α:Type}{t:Sem α}{Q Q':α→Shared→Prop}(h:wpAny M A t Q E s)(hQ:∀a s,Q a s→Q' a s):wpAny M A t Q' E s:=dG h hQ fun _ _ x=>x
section
variable {X:Cx}
variable {pins:a9} {σ:St}
theorem bin{a b:Expr}{ta tb:TE}(ha:PE X a ta)(hb:PE X b tb){R:V→V→Hp→Prop}(I:Inv X pins σ H s)(h:ta σ H fun x H1=>tb σ H1 fun y H2=>R x y H2)
  {α:Type} {Q:α→Shared→Prop} {f:Value→Value→Sem α}
  (hf:∀v u s2 x y H2,Inv X pins σ H2 s2→RelV x v→RelV y u→R x y H2→wpAny (model X.prog X.w) X.A (f v u) Q X.xe s2) :
  wpAny (model X.prog X.w) X.A (eval a X.env) (fun v s₁=>wpAny (model X.prog X.w) X.A (eval b X.env) (fun u s₂=>wpAny (model X.prog X.w) X.A (f v u) Q X.xe s₂) X.xe s₁) X.xe s:=by
 refine aR (ha pins s σ H _ I h) fun v s1 ⟨x,H1,I1,r1,q1⟩=>?_;refine aR (hb pins s1 σ H1 _ I1 q1) fun u s2 ⟨y,H2,I2,r2,q2⟩=>?_;exact hf v u s2 x y H2 I2 r1 r2 q2
def nM(i:Nat):TE:=fun σ H Q=>∃v,σ[i]?=some (some v)∧Q v H
def tC(v:V):TE:=fun _ H Q=>Q v H
variable {x:Str} {pos:Pos}
theorem Oh{i:Nat}(hN:X.N[i]?=some x)(hv:nK X.env.scope x)(hd:(x == ("__debug__":Str))=false:=by decide)(f9:(x == ("__classdict__":Str))=false:=by decide):PE X (.Name x pos) (nM i):=by
 intro pins s σ H Q I h;obtain ⟨v,e,h⟩:=h;obtain ⟨m,hn,hl⟩:=I.loc;obtain ⟨u,r,l⟩:=hl i x v hN e hv;have fin:EP X pins σ Q u s:=⟨v,H,I,r,h⟩;rcases l with ⟨hk,hm⟩ | ⟨hk,c,hc,zA⟩;·exact wpAny_Name (wpAny_loadName_local I.ok.kind hk hn hm fin) hd
 ·rcases hk with hk | hk
  ·exact wpAny_Name (wpAny_loadName_cell I.ok.kind hk hc zA fin) hd
  ·exact wpAny_Name (wpAny_loadName_free I.ok.kind hk hc zA fin f9) hd
theorem ah{i j pos}:PE X (.Constant (.int i) j pos) (tC (.int i)):=fun _ _ _ H _ I h=>wpAny_Constant_int ⟨.int i,H,I.tok _,⟨_,rfl⟩,h⟩
theorem kJ{b j pos}:PE X (.Constant (.bool b) j pos) (tC (.bl b)):=fun _ _ _ H _ I h=>Constant_bool ⟨.bl b,H,I,rfl,h⟩
theorem pz{j pos}:PE X (.Constant .none j pos) (tC .aV):=fun _ _ _ H _ I h=>Constant_none ⟨.aV,H,I,rfl,h⟩
theorem eN{x j pos}:PE X (.Constant (.str x) j pos) (tC (.str x)):=fun _ _ _ H _ I h=>Calls.Constant_str ⟨.str x,H,I.tok _,⟨_,rfl⟩,h⟩
def Gl(X:Cx)(x:Str):Prop:=X.env.kindOf x=some .globalImplicit
variable {u:Value} {Q:aN}
theorem zB(I:Inv X pins σ H s)(hg:Gl X x)(hm:X.mg x=some u)(h:Q u s)
  (hd:(x == ("__debug__":Str))=false:=by decide):wpAny (model X.prog X.w) X.A (eval (.Name x pos) X.env) Q E s:=
 Calls.Name_function_global I.ok.kind hg (Calls.loadGlobal_global (by rw [I.ok.glob];exact I.mod.glob.keeps I.bk) hm h) hd
theorem nN(I:Inv X pins σ H s)(hg:Gl X x)(hm:X.mg x=none)(hv:bootBuiltins x=some u)(h:Q u s)
  (hn:x ≠ "__name__":=by decide) (hd:(x == ("__debug__":Str))=false:=by decide):wpAny (model X.prog X.w) X.A (eval (.Name x pos) X.env) Q E s:=by
 obtain ⟨mb,h1,h2⟩:=I.mod.blt;exact Calls.Name_function_global I.ok.kind hg (Calls.loadGlobal_builtin (by rw [I.ok.glob];exact I.mod.glob.keeps I.bk) hm (by rw [I.ok.blt];exact h1.keeps I.bk) ((h2 x hn).trans hv) h) hd
variable {v:V}
theorem HF(hg:Gl X x)(hm:X.mg x=some u)(r:RelV v u)(hd:(x == ("__debug__":Str))=false:=by decide):PE X (.Name x pos) (tC v):=
 fun _ _ _ H _ I h=>zB I hg hm ⟨v,H,I,r,h⟩ hd
theorem xj(hg:Gl X x)(hm:X.mg x=none)(hv:bootBuiltins x=some u)(r:RelV v u)(hn:x ≠ "__name__":=by decide)(hd:(x == ("__debug__":Str))=false:=by decide):PE X (.Name x pos) (tC v):=
 fun _ _ _ H _ I h=>nN I hg hm hv ⟨v,H,I,r,h⟩ hn hd
variable {a b:Expr} {ta tb:TE} {pos:Pos}
def PC(X:Cx)(op:CmpOp)(a b:Expr)(t:TE):Prop:=
 ∀(pins:a9) (s:Shared) (σ:St) (H:Hp) (Q:VK),Inv X pins σ H s→t σ H Q→
  wpAny (model X.prog X.w) X.A (eval a X.env) (fun v s₁=>wpAny (model X.prog X.w) X.A (eval b X.env) (fun u s₂=>wpAny (model X.prog X.w) X.A (compareOp op v u) (EP X pins σ Q) X.xe s₂) X.xe s₁) X.xe s
def tB(t:TE):TT:=fun σ H Q=>t σ H fun x H1=>∃c,x=.bl c∧Q c H1
variable {t:TE}
theorem aca{op:CmpOp}(h:PC X op a b t)(h1:behindInMarks op b=false:=by first | exact acb _ (by decide) (by decide) | rfl):PT X (.Compare a [op] [b] pos) (tB t):=by intro pins s σ H Q I hw;refine wpAny_isTrue_Compare1 (aR (h pins s σ H _ I hw) fun v s1 h1=>aR h1 fun u s2 h2=>aR h2 fun c s3 ⟨x,H1,I1,r1,q1⟩=>?_) h1;obtain ⟨d,rfl,q⟩:=q1;cases r1;exact mm ⟨H1,I1,q⟩
theorem nO{e:Expr}(h:PE X e t)(he:∀whole,isTrue e X.env whole=(do let v ←whole;standAt e.pos;holding [v] (truthy v)):=by intro _;rfl):PT X e (tB t):=by
 intro pins s σ H Q I hw
 refine isTrue_plain (aR (h pins s σ H _ I hw) fun v s1 ⟨x,H1,I1,r1,q1⟩=>?_) (he _)
 obtain ⟨d,rfl,q⟩:=q1
 cases r1
 exact mm ⟨H1,I1,q⟩
variable {tA xk:TT} {rest:List Expr}
def Oi(t u:TT):TT:=fun σ H Q=>t σ H fun c H1=>if c=true then u σ H1 Q else Q false H1
def Oj(t u:TT):TT:=fun σ H Q=>t σ H fun c H1=>if c=true then Q true H1 else u σ H1 Q
def HG(t:TT):TT:=fun σ H Q=>t σ H fun c H1=>Q (!c) H1
theorem pw_and1(ha:PT X a tA):PW X (.BoolOp .And [a] pos) tA:=by
 intro wh pins s σ H Q I h;refine isTrue_and (aR (ha pins s σ H Q I h) fun c s1 e=>?_);cases c with
 | true=>exact isTrue_and_nil e
 | false=>exact e
theorem pw_or1(ha:PT X a tA):PW X (.BoolOp .Or [a] pos) tA:=by
 intro wh pins s σ H Q I h;refine isTrue_or (aR (ha pins s σ H Q I h) fun c s1 e=>?_);cases c with
 | false=>exact isTrue_or_nil e
 | true=>exact e
theorem pw_and(ha:PT X a tA)(hb:PW X (.BoolOp .And (b::rest) pos) xk):PW X (.BoolOp .And (a::b::rest) pos) (Oi tA xk):=by
 intro wh pins s σ H Q I h;refine isTrue_and (aR (ha pins s σ H _ I h) fun c s1 ⟨H1,I1,q1⟩=>?_);cases c with
 | true=>exact hb wh pins s1 σ H1 Q I1 q1
 | false=>exact ⟨H1,I1,q1⟩
theorem pw_or(ha:PT X a tA)(hb:PW X (.BoolOp .Or (b::rest) pos) xk):PW X (.BoolOp .Or (a::b::rest) pos) (Oj tA xk):=by
 intro wh pins s σ H Q I h;refine isTrue_or (aR (ha pins s σ H _ I h) fun c s1 ⟨H1,I1,q1⟩=>?_);cases c with
 | true=>exact ⟨H1,I1,q1⟩
 | false=>exact hb wh pins s1 σ H1 Q I1 q1
theorem xl(ha:PT X a tA):PT X (.UnaryOp .Not a pos) (HG tA):=by intro pins s σ H Q I h;exact isTrue_not (ha pins s σ H (fun c H1=>Q (!c) H1) I h)
def Ol(ta tb:TE):TE:=fun σ H Q=>ta σ H fun x H1=>∃c,x=.bl c∧if c=true then tb σ H1 Q else Q (.bl false) H1
def Om(ta:TE):TE:=fun σ H Q=>ta σ H fun x H1=>∃c,x=.bl c∧Q (.bl (!c)) H1
theorem C6{op}(h:PE X a t):PE X (.BoolOp op [a] pos) t:=fun pins s σ H Q I hw=>BoolOp_one (h pins s σ H Q I hw)
theorem xn(ha:PE X a ta)(hb:PE X (.BoolOp .And (b::rest) pos) tb):PE X (.BoolOp .And (a::b::rest) pos) (Ol ta tb):=by
 intro pins s σ H Q I h;refine BoolOp_and (aR (ha pins s σ H _ I h) fun v s1 ⟨x,H1,I1,r1,q1⟩=>?_);obtain ⟨c,rfl,q1⟩:=q1;cases r1;refine mm ?_;cases c with
 | true=>exact hb pins s1 σ H1 Q I1 q1
 | false=>exact ⟨.bl false,H1,I1,rfl,q1⟩
theorem Oo(ha:PE X a ta):PE X (.UnaryOp .Not a pos) (Om ta):=by intro pins s σ H Q I h;refine UnaryOp_ (aR (ha pins s σ H _ I h) fun v s1 ⟨x,H1,I1,r1,q1⟩=>?_);obtain ⟨c,rfl,q1⟩:=q1;cases r1;exact not_of (mm ⟨.bl (!c),H1,I1,rfl,q1⟩)
end
def bZ(K:aC)(H:Hp)(a:Addr)(xs:List V):Prop:=
 Rd H a (.lst xs) ∨
  ∃(o:Obj) (ai:Array Value) (n:Nat),K.lookup a=some o∧o.cls=.type "list"∧o.dict=none∧o.data=.seq ai n∧ai.size≤sizeLine∧Vals xs ai.toList
def dN(K:aC)(H:Hp)(a:Addr)(xs:List V):Prop:=
 Rd H a (.tup xs) ∨
  ∃(o:Obj) (ai:Array Value) (n:Nat),K.lookup a=some o∧o.cls=.type "tuple"∧o.data=.seq ai n∧ai.size≤sizeLine∧Vals xs ai.toList
def Oq:Value→Option V
 | .none=>some .aV
 | .bool b=>some (.bl b)
 | .int i _=>some (.int i)
 | .str x _=>some (.str x)
 | .bytes b _=>some (.jL b)
 | .float b _=>some (.oZ b)
 | .ref a=>some (.ref a)
 | .type n=>some (.ty n)
 | _=>none
variable {x:V} {u:Value}
theorem RelV.abs(r:RelV x u):Oq u=some x:=by
 cases x with
 | aV=>cases r;rfl
 | bl _=>cases r;rfl
 | int _=>obtain ⟨t,rfl⟩:=r;rfl
 | str _=>obtain ⟨t,rfl⟩:=r;rfl
 | jL _=>obtain ⟨t,rfl⟩:=r;rfl
 | oZ _=>obtain ⟨t,rfl⟩:=r;rfl
 | ref _=>cases r;rfl
 | ty _=>cases r;rfl
theorem RelV.inj{y:V}(r:RelV x u)(q:RelV y u):x=y:=Option.some.inj (r.abs.symm.trans q.abs)
theorem Vals.inj:∀{xs ys:List V} {us:List Value},Vals xs us→Vals ys us→xs=ys
 | _,_,_,.nil,.nil=>rfl
 | _,_,_,.cons r t,.cons r' t'=>by rw [r.inj r',Vals.inj t t']
section
variable {X:Cx} {pins:a9} {σ:St} {H:Hp} {s:Shared} {a:Addr} {xs ys:List V}
variable {K:aC}
theorem bZ.of(h:H a=some (.lst xs)):bZ K H a xs:=.inl (.inl h)
theorem dN.of(h:H a=some (.tup xs)):dN K H a xs:=.inl (.inl h)
theorem Inv.list(I:Inv X pins σ H s)(h:bZ X.K H a xs):∃ai:List Value,Vals xs ai∧PlainL s.heap a ai.toArray∧xs.length≤sizeLine:=by
 rcases h with h | ⟨o,ai,n,hk,hc,hd,hs,hz,r⟩
 ·obtain ⟨z,ai,n,r,e⟩:=h.ok I.aD
  exact ⟨ai,r,⟨_,n,e,rfl,rfl,rfl⟩,z⟩
 ·refine ⟨ai.toList,r,⟨o,n,I.dW a o hk,hc,hd,by simpa using hs⟩,?_⟩
  have e:=r.length;simp only [Array.length_toList] at e;lia
theorem Inv.tuple(I:Inv X pins σ H s)(h:dN X.K H a xs):∃ai:List Value,Vals xs ai∧IsTup s.heap a ai.toArray∧xs.length≤sizeLine:=by
 rcases h with h | ⟨o,ai,n,hk,hc,hs,hz,r⟩
 ·obtain ⟨z,ai,r,p⟩:=h.ok I.aD
  exact ⟨ai,r,p,z⟩
 ·refine ⟨ai.toList,r,⟨o,I.dW a o hk,hc,n,by simpa using hs⟩,?_⟩
  have e:=r.length;simp only [Array.length_toList] at e;lia
theorem Inv.C7(I:Inv X pins σ H s)(h:bZ X.K H a xs)(h':bZ X.K H a ys):xs=ys:=by
 obtain ⟨ai,r,⟨o,n,e,_,_,d⟩,_⟩:=I.list h;obtain ⟨its',r',⟨o',n',e',_,_,d'⟩,_⟩:=I.list h';rw [e] at e';cases e';rw [d] at d';injection d' with d1 _;have:ai=its':=by simpa using gL Array.toList d1
 subst this;exact r.inj r'
theorem Inv.Ot(I:Inv X pins σ H s)(h:dN X.K H a xs)(h':dN X.K H a ys):xs=ys:=by
 obtain ⟨ai,r,⟨o,e,_,n,d⟩,_⟩:=I.tuple h;obtain ⟨its',r',⟨o',e',_,n',d'⟩,_⟩:=I.tuple h';rw [e] at e';cases e';rw [d] at d';injection d' with d1 _;have:ai=its':=by simpa using gL Array.toList d1
 subst this;exact r.inj r'
end
abbrev Cx.lG (X:Cx) (E:aN):Cx:={X with xe:=E}
abbrev Cx.lH (X:Cx):Cx:=X.lG fun _ _=>False
theorem Cx.Ok.lG(ok:X.Ok)(E:aN):(X.lG E).Ok:=
 ⟨ok.mod,ok.kind,ok.glob,ok.blt,ok.above,ok.inj,ok.has,ok.pe,ok.hd,ok.frames,ok.jf,ok.Hm,ok.bs,ok.jg,ok.pd,ok.pf,ok.jM,ok.mC⟩
theorem Cx.Ok.nQ(ok:(X.lG E).Ok):X.Ok:=
 ⟨ok.mod,ok.kind,ok.glob,ok.blt,ok.above,ok.inj,ok.has,ok.pe,ok.hd,ok.frames,ok.jf,ok.Hm,ok.bs,ok.jg,ok.pd,ok.pf,ok.jM,ok.mC⟩
section
variable {X:Cx} {pins:a9} {σ:St} {H:Hp} {s:Shared} {E:aN}
theorem Inv.lG(I:Inv X pins σ H s)(E:aN):Inv (X.lG E) pins σ H s:=⟨I.ok.lG E,I.os,I.bare,I.base,I.loc,I.cell,I.free,I.jN,I.pin,I.aD,I.len⟩
theorem Inv.nQ(I:Inv (X.lG E) pins σ H s):Inv X pins σ H s:=⟨I.ok.nQ,I.os,I.bare,I.base,I.loc,I.cell,I.free,I.jN,I.pin,I.aD,I.len⟩
theorem SP.nQ{D:Ends}{f:Flow}{s':Shared}(h:SP (X.lG E) pins D f s'):SP X pins D f s':=by
 cases f with
 | next=>obtain ⟨σ',H',I,q⟩:=h;exact ⟨σ',H',I.nQ,q⟩
 | brk=>obtain ⟨σ',H',I,q⟩:=h;exact ⟨σ',H',I.nQ,q⟩
 | cont=>obtain ⟨σ',H',I,q⟩:=h;exact ⟨σ',H',I.nQ,q⟩
 | ret u=>obtain ⟨v,σ',H',I,r,q⟩:=h;exact ⟨v,σ',H',I.nQ,r,q⟩
theorem eZ.lH{st:List Stmt}{t:TS}(h:eZ X.lH st t):eZ X st t:=fun pins s σ H D I hw=>dG (h pins s σ H D (I.lG _) hw) (fun _ _ q=>q.nQ) fun _ _ z=>False.elim z
end
section
variable {X:Cx} {st:Stmt} {rest:List Stmt} {t u:TS} {e:Expr} {te:TE} {pos:Pos}
def C8:TS:=fun D σ H=>D.nx σ H
def C9(t u:TS):TS:=fun D σ H=>t {D with nx:=u D} σ H
theorem cH:eZ X [] C8:=fun _ _ σ H _ I h=>y7 ⟨σ,H,I,h⟩
theorem aq(h1:PS X st t)(h2:eZ X rest u):eZ X (st::rest) (C9 t u):=by
 intro pins s σ H D I h;refine wpAny_execs_cons (aR (h1 pins s σ H {D with nx:=u D} I h) fun f s1 q=>?_);cases f with
 | next=>obtain ⟨σ',H',I',q⟩:=q;exact h2 pins s1 σ' H' D I' q
 | ret v=>exact q
 | brk=>exact q
 | cont=>exact q
theorem ay(h1:PS X st t):eZ X [st] t:=by
 intro pins s σ H D I h;refine wpAny_execs_cons (aR (h1 pins s σ H D I h) fun f s1 q=>?_);cases f with
 | next=>exact y7 q
 | ret v=>exact q
 | brk=>exact q
 | cont=>exact q
theorem Inv.quiet{pins:a9}{σ:St}(I:Inv X pins σ H s):interactive X.env=false:=by simp [interactive,I.ok.kind]
def Ou(te:TE):TS:=fun D σ H=>te σ H fun _ H1=>D.nx σ H1
theorem kK(he:PE X e te)(hs:swapsWith e none pos.line X.env=pure false:=by rfl):PS X (.Expr e pos) (Ou te):=by intro pins s σ H D I h;exact wpAny_Expr_any (aR (he pins s σ H _ I h) fun v s1 ⟨x,H1,I1,r1,q1⟩=>⟨σ,H1,I1,q1⟩) I.quiet hs
def HH(te:TE):TS:=fun D σ H=>te σ H D.rt
theorem ba(he:PE X e te):PS X (.Return (some e) pos) (HH te):=by intro pins s σ H D I h;exact wpAny_Return_some (aR (he pins s σ H _ I h) fun v s1 ⟨x,H1,I1,r1,q1⟩=>⟨x,σ,H1,I1,r1,q1⟩)
def HI(c:TT)(t u:TS):TS:=fun D σ H=>c σ H fun b H1=>if b=true then t D σ H1 else u D σ H1
theorem cu{c:Expr}{a b:List Stmt}{tc:TT}(hc:PT X c tc)(ha:eZ X a t)(hb:eZ X b u):PS X (.If c a b pos) (HI tc t u):=by
 intro pins s σ H D I h;refine wpAny_If (aR (hc pins s σ H _ I h) fun d s1 ⟨H1,I1,q1⟩=>?_);cases d with
 | true=>exact ha pins s1 σ H1 D I1 q1
 | false=>exact hb pins s1 σ H1 D I1 q1
def Ov:TS:=fun _ _ _=>False
theorem Ow{Ox:List Stmt}:eZ X Ox Ov:=fun _ _ _ _ _ _ h=>h.elim
end
abbrev TG:=V→St→Hp→(St→Hp→Prop)→Prop
abbrev pA:=List V→St→Hp→(St→Hp→Prop)→Prop
def PG(X:Cx)(target:Expr)(t:TG):Prop:=
 ∀(pins:a9) (s:Shared) (σ:St) (H:Hp) (v:V) (u:Value) (Q:St→Hp→Prop),Inv X pins σ H s→RelV v u→t v σ H Q→
  wpAny (model X.prog X.w) X.A (assign target X.env u) (fun _ s'=>∃σ' H',Inv X pins σ' H' s'∧Q σ' H') X.xe s
def zC(X:Cx)(ts:List Expr)(t:pA):Prop:=
 ∀(pins:a9) (s:Shared) (σ:St) (H:Hp) (vs:List V) (us:List Value) (Q:St→Hp→Prop),Inv X pins σ H s→Vals vs us→t vs σ H Q→
  wpAny (model X.prog X.w) X.A (assignInOrder ((assignEach ts X.env).map (·.2)) us) (fun _ s'=>∃σ' H',Inv X pins σ' H' s'∧Q σ' H') X.xe s
abbrev C_:=V→V→V→Hp→(Hp→Prop)→Prop
def HJ(X:Cx)(t:C_):Prop:=
 ∀(pins:a9) (s:Shared) (σ:St) (H:Hp) (o i v:V) (ov iv u:Value) (Q:Hp→Prop),Inv X pins σ H s→RelV o ov→RelV i iv→RelV v u→t o i v H Q→
  wpAny (model X.prog X.w) X.A (setItem ov iv u) (fun _ s'=>∃H',Inv X pins σ H' s'∧Q H') X.xe s
abbrev zD:=V→V→Hp→VK→Prop
def HK(X:Cx)(op:Operator)(t:zD):Prop:=
 ∀(pins:a9) (s:Shared) (σ:St) (H:Hp) (x y:V) (v u:Value) (Q:VK),Inv X pins σ H s→RelV x v→RelV y u→t x y H Q→
  wpAny (model X.prog X.w) X.A (inplaceOp op v u) (EP X pins σ Q) X.xe s
section
variable {X:Cx} {pos:Pos}
def cW(i:Nat):TG:=fun v σ H Q=>Q (σ.set i (some v)) H
variable {i:Nat}
theorem cX{x:Str}(hN:X.N.Nodup)(hi:X.N[i]?=some x)(hx:Loc X.env.scope x)(hf:X.fn x=true∨X.env.scope.names.lookup x=some .local:=by first | exact .inl rfl | exact .inr rfl | assumption):PG X (.Name x pos) (cW i):=by intro pins s σ H v u Q I r h;exact wpAny_assign_Name (xi I hN hi hx r (fun s' I'=>⟨_,H,I',h⟩) hf)
def Oy:pA:=fun vs σ H Q=>vs=[]∧Q σ H
def Oz(t:TG)(u:pA):pA:=fun vs σ H Q=>∃v r,vs=v::r∧t v σ H fun σ' H'=>u r σ' H' Q
theorem sq:zC X [] Oy:=by intro pins s σ H vs us Q I r h;obtain ⟨e,h⟩:=h;subst e;cases r;exact assignInOrder_nil ⟨σ,H,I,h⟩
variable {e:Expr} {es:List Expr}
theorem iW{t:TG}{u:pA}(h1:PG X e t)(h2:zC X es u)
  (hs:(assignEach (e::es) X.env).map (·.2)=assign e X.env::(assignEach es X.env).map (·.2):=by rfl):zC X (e::es) (Oz t u):=by
 intro pins s σ H vs us Q I r h;obtain ⟨v,vr,e1,h⟩:=h;subst e1;cases r with
 | cons r rr=>rw [hs];refine assignInOrder_cons (aR (h1 pins s σ H _ _ _ I r h) fun _ s1 ⟨σ1,H1,I1,q1⟩=>?_);exact h2 pins s1 σ1 H1 _ _ Q I1 rr q1
def OA(K:aC)(n:Nat)(t:pA):TG:=fun v σ H Q=>∃a xs,v=.ref a∧dN K H a xs∧xs.length=n∧t xs σ H Q
theorem su{k:Nat}{t:pA}{n:Nat}(hc:X.calm=true)(h:zC X es t)
  (hn:(assignEach es X.env).length=n:=by rfl) (Dc:(assignEach es X.env).findIdx? (·.1)=none:=by rfl):PG X (.Tuple es k pos) (OA X.K n t):=by
 intro pins s σ H v u Q I r hw;obtain ⟨a,xs,e1,hq,hl,hw⟩:=hw;subst e1;cases r;obtain ⟨ai,rv,ht,hz⟩:=I.tuple hq;refine assign_Tuple_tuple (I.ok.hd hc) ht (by simp [hn,←hl,rv.length]) Dc fun h' hx=>?_
 have I1:Inv X pins σ H {s with heap:=h'}:=I.kept (t':=s.toks) fun b o e=>hx b o (dC (bP e)) e;exact h pins _ σ H xs _ Q I1 (by simpa using rv) hw
def OB(to ti:TE)(t:C_):TG:=fun v σ H Q=>to σ H fun o H1=>ti σ H1 fun i H2=>t o i v H2 fun H3=>Q σ H3
theorem jh{o i:Expr}{to ti:TE}{t:C_}(ho:PE X o to)(hi:PE X i ti)(hs:HJ X t)
  (ha:∀v,assign (.Subscript o i pos) X.env v=(do
   let ov ←holding [v] (eval o X.env)
   let iv ←holding [v,ov] (eval i X.env)
   standAt pos
   holding [v,ov,iv] (setItem ov iv v)
   release [v,ov,iv] []):=by intro _;rfl):PG X (.Subscript o i pos) (OB to ti t):=by
 intro pins s σ H v u Q I r h
 rw [ha]
 refine bI (wD (aR (ho pins s σ H _ I h) fun ov s1 ⟨x,H1,I1,r1,q1⟩=>?_))
 refine bI (wD (aR (hi pins s1 σ H1 _ I1 q1) fun iv s2 ⟨y,H2,I2,r2,q2⟩=>?_))
 refine bI (wpAny_standAt (bI (wD (aR (hs pins s2 σ H2 x y v ov iv u _ I2 r1 r2 r q2) fun _ s3 ⟨H3,I3,q3⟩=>?_))))
 exact wpAny_release ⟨σ,H3,I3,q3⟩
def nR(te:TE)(g:TG):TS:=fun D σ H=>te σ H fun x H1=>g x σ H1 D.nx
theorem iu{tg e:Expr}{te:TE}{g:TG}(he:PE X e te)(hg:PG X tg g)(hs:swapsWithSole [tg] e pos.line X.env=pure false:=by rfl)(hw:swappedStores [tg] e X.env=pure none:=by rfl)
  (h1:(assignEach [tg] X.env).map (·.2)=[assign tg X.env]:=by rfl):PS X (.Assign [tg] e pos) (nR te g):=by
 intro pins s σ H D I h;refine wpAny_Assign_stores (aR (he pins s σ H _ I h) fun v s1 ⟨x,H1,I1,r1,q1⟩=>?_) hs hw;rw [h1];exact aR (hg pins s1 σ H1 x v _ I1 r1 q1) fun _ s2 q=>q
variable {te:TE} {pos':Pos}
theorem OC{x:Str}(hN:X.N.Nodup)(hi:X.N[i]?=some x)(hx:Loc X.env.scope x)(he:PE X e te)(hs:swapsWith e (some (.Name x pos')) pos.line X.env=pure false:=by rfl)(hf:X.fn x=true∨X.env.scope.names.lookup x=some .local:=by first | exact .inl rfl | exact .inr rfl | assumption) :
  PS X (.Assign [.Name x pos'] e pos) (nR te (cW i)):=by
 intro pins s σ H D I h;refine wpAny_Assign_Name (aR (he pins s σ H _ I h) fun v s1 ⟨y,H1,I1,r1,q1⟩=>?_) hs;exact xi I1 hN hi hx r1 (fun s2 I2=>⟨_,H1,I2,q1⟩) hf
def OD(i j:Nat)(ta:TA):TS:=fun D σ H=>ta σ H fun vs H1=>∃v w,vs=[v,w]∧D.nx ((σ.set i (some v)).set j (some w)) H1
theorem zE{j:Nat}{x y:Str}{a b:Expr}{ta:TA}{px py pt:Pos}{kt k2 Dd}(hc:X.calm=true)(hN:X.N.Nodup)(hi:X.N[i]?=some x)(hj:X.N[j]?=some y)(sv:i≠j)
  (hx:X.env.scope.names.lookup x=some .local) (hy:X.env.scope.names.lookup y=some .local) (ha:PA X [a,b] ta)
  (hw:swappedStores [.Tuple [.Name x px,.Name y py] kt pt] (.Tuple [a,b] k2 Dd) X.env=pure (some [x,y]))
  (hs:swapsWithSole [.Tuple [.Name x px,.Name y py] kt pt] (.Tuple [a,b] k2 Dd) pos.line X.env=pure false:=by rfl) :
  PS X (.Assign [.Tuple [.Name x px,.Name y py] kt pt] (.Tuple [a,b] k2 Dd) pos) (OD i j ta):=by
 intro pins s σ H D I h
 rw [exec_Assign_arm]
 refine bI (wpAny_standAt ?_)
 rw [hs]
 refine bI (dH ?_)
 rw [aj (by decide)]
 refine bI (Tuple_ (aR (ha _ pins s σ H _ I h) fun us s1 ⟨vs,H1,I1,r1,q1⟩=>?_))
 obtain ⟨v,w,e1,q1⟩:=q1
 subst e1
 obtain ⟨u1,u2,rfl,rv,kL⟩:∃u1 u2,us=[u1,u2]∧RelV v u1∧RelV w u2:=by
  cases r1 with
  | cons p q=>
   cases q with
   | cons p' q'=>
    cases q'
    exact ⟨_,_,rfl,p,p'⟩
 refine y8 ?_ (by show 2≤sizeLine;decide)
 have I2:Inv X pins σ H1 {s1 with heap:=s1.heap.push {cls:=.type "tuple",data:=.seq [u1,u2].toArray}}:=I1.kept (t':=s1.toks) fun b o e=>cF _ e
 rw [hw]
 refine bI (dH ?_)
 show wpAny (model X.prog X.w) X.A (do rule "assign.swapped-stores";let items ←unpackItems (.ref s1.heap.objs.size) 2 none;assignInOrder [fun v=>bindName X.env y v,fun v=>bindName X.env x v] items.reverse;pure Flow.next) _ _ _
 refine bI (wpAny_rule (bI (unpackItems_tuple (items:=#[u1,u2]) (I.ok.hd hc) (IsTup.new s1.heap _) fun h' HL=>?_)))
 have I3:=I2.kept (h':=h') (t':=s1.toks) fun b o e=>HL b o (dC (bP e)) e
 show wpAny _ _ (assignInOrder [fun v=>bindName X.env y v,fun v=>bindName X.env x v] [u2,u1] >>= fun _=>pure Flow.next) _ _ _
 refine bI (assignInOrder_cons (wpAny_bindName (xi I3 hN hj (.inl hy) kL (fun s2 I4=>?_) (.inr hy))))
 refine assignInOrder_cons (wpAny_bindName (xi I4 hN hi (.inl hx) rv (fun s3 I5=>assignInOrder_nil (dH ?_)) (.inr hx)))
 rw [List.set_comm _ _ (Ne.symm sv)] at I5
 exact ⟨_,H1,I5,q1⟩
def OE(i:Nat)(te:TE)(ti:zD):TS:=fun D σ H=>∃x,σ[i]?=some (some x)∧te σ H fun y H1=>ti x y H1 fun z H2=>D.nx (σ.set i (some z)) H2
theorem OF{x:Str}{op:Operator}{ti:zD}(hN:X.N.Nodup)(hi:X.N[i]?=some x)(hx:Loc X.env.scope x)(he:PE X e te)(ho:HK X op ti)(hf:X.fn x=true∨X.env.scope.names.lookup x=some .local:=by first | exact .inl rfl | exact .inr rfl | assumption) :
  PS X (.AugAssign (.Name x pos') op e pos) (OE i te ti):=by
 intro pins s σ H D I h;obtain ⟨v,e1,h⟩:=h;obtain ⟨m,hn,hl⟩:=I.loc;have OG:nK X.env.scope x:=by rcases hx with k | k;exact .inl k;exact .inr (.inl k)
 obtain ⟨u,r,l⟩:=hl i x v hi e1 OG;refine wpAny_AugAssign_Name ?_;have go:wpAny (model X.prog X.w) X.A (eval e X.env) (fun w s₂=>wpAny (model X.prog X.w) X.A (inplaceOp op u w) (fun r s₃=>wpAny (model X.prog X.w) X.A (storeName X.env x r) (fun _=>SP X pins D .next) X.xe s₃) X.xe s₂) X.xe s:=by refine aR (he pins s σ H _ I h) fun w s1 ⟨y,H1,I1,r1,q1⟩=>?_;refine aR (ho pins s1 σ H1 v y u w _ I1 r r1 q1) fun z s2 ⟨zv,H2,I2,r2,q2⟩=>?_;exact xi I2 hN hi hx r2 (fun s3 I3=>⟨_,H2,I3,q2⟩) hf
 rcases l with ⟨hk,hm⟩ | ⟨hk,c,hc,zA⟩;·exact wpAny_loadName_local I.ok.kind hk hn hm go
 ·rcases hk with hk | hk
  ·exact wpAny_loadName_cell I.ok.kind hk hc zA go
  ·rcases hx with k | k
   ·have:X.env.scope.names.lookup x=some .free:=hk
    rw [k] at this;cases this
   ·have:X.env.scope.names.lookup x=some .free:=hk
    rw [k] at this;cases this
def OH(f:Int→Int→Int):zD:=fun x y H Q=>∃i j,x=.int i∧y=.int j∧Q (.int (f i j)) H
theorem OI:HK X .Add (OH fun i j=>i+j):=by intro pins s σ H x y v u Q I r1 r2 h;obtain ⟨i,j,e1,e2,q⟩:=h;subst e1;subst e2;obtain ⟨t,rfl⟩:=r1;obtain ⟨t',rfl⟩:=r2;exact iadd_int ⟨.int _,H,I.tok _,⟨_,rfl⟩,q⟩
end
section
variable {X:Cx} {pos:Pos}
def OJ(c:TT)(tb:TS):TS:=fun D σ H=>∃W:Nat→St→Hp→Prop,(∃m,W m σ H)∧∀m σ H,W m σ H→
 c σ H fun b H1=>if b=true then ∃N:St→Hp→Prop,(∀σ' H',N σ' H'→∃m',m'<m∧W m' σ' H')∧tb {D with nx:=N,ct:=N,bk:=D.nx} σ H1 else D.nx σ H1
theorem sA{c:Expr}{body:List Stmt}{tc:TT}{tb:TS}(hp:PassesOwn (model X.prog X.w) X.A X.env X.xe)(hc:PT X c tc)(hb:eZ X body tb):PS X (.While c body [] pos) (OJ tc tb):=by
 intro pins s σ H D I h;obtain ⟨W,⟨m0,w0⟩,turn⟩:=h;refine wpAny_While (codeAny_whileLoop (fun n s'=>∃σ' H',Inv X pins σ' H' s'∧W n σ' H') ?_ m0 ⟨σ,H,I,w0⟩);rintro n s1 ⟨σ1,H1,I1,w1⟩;refine oN hp (aR (hc pins s1 σ1 H1 _ I1 (turn n σ1 H1 w1)) fun b s2 ⟨H2,I2,q2⟩=>?_);cases b with
 | true=>
  obtain ⟨N,hN,q2⟩:=q2;rw [ak rfl];refine oN hp (aR (hb pins s2 σ1 H2 _ I2 q2) fun f s3 q3=>?_);cases f with
  | next=>obtain ⟨σ3,H3,I3,n3⟩:=q3;obtain ⟨m',hm,w3⟩:=hN σ3 H3 n3;exact ⟨m',hm,σ3,H3,I3,w3⟩
  | cont=>obtain ⟨σ3,H3,I3,n3⟩:=q3;obtain ⟨m',hm,w3⟩:=hN σ3 H3 n3;exact ⟨m',hm,σ3,H3,I3,w3⟩
  | brk=>exact q3
  | ret v=>exact q3
 | false=>rw [aj dI];exact y7 ⟨σ1,H2,I2,q2⟩
end
structure It where
 go:Nat→Hp→Prop
 f_:Nat→Hp→V→Hp→Prop
 stop:Nat→Hp→Prop
def mD(X:Cx)(pins:a9)(H:Hp)(b:Addr):Prop:=
 H b=none∧b≠X.env.locals∧b∉X.fs∧(b∈X.ex∨X.s₀.heap.objs.size≤b)∧(∀x c,X.env.cells.lookup x=some c→c≠b)∧∀p∈X.pn++pins,p.1≠b
variable {σ:St}
theorem Inv.pB{pins:a9}{H':Hp}(I:Inv X pins σ H s)(hb:s.heap.objs.size≤b)(hn:H' b=none):mD X pins H' b:=by
 refine ⟨hn,Nat.ne_of_gt (dF I.lt hb),I.Ob hb,.inr (bE I.sz hb),fun x c e z=>?_,fun p hp z=>?_⟩
 ·obtain ⟨v,q⟩:=I.cell x c e
  exact absurd (dF q.lt (by rw [z];exact hb)) (dS _)
 ·exact absurd (dF (bP (I.pin p hp).1) (by rw [z];exact hb)) (dS _)
structure Turn (P:Program) (w:World) (K:aC) (tg:Expr) (J:It) (fp:List Addr) (it:Addr) (tn:Nat→Heap→Prop):Prop where
 mem:it∈fp
 obj:∀i h,tn i h→∀b∈fp,∃o,h.get? b=some o∧∀v,o.data≠.cell v
 keep:∀i h h',tn i h→(∀b∈fp,∀o,h.get? b=some o→h'.get? b=some o)→tn i h'
 item:∀(X:Cx),X.prog=P→X.w=w→X.K=K→X.calm=true→∀(i:Nat) (pins:a9) (s:Shared) (σ:St) (H:Hp) (E:aN),Inv X pins σ H s→(∀b∈fp,mD X pins H b)→tn i s.heap→J.go i H→
  wpAny (model P w) X.A (pyNext (.ref it)) (fun r s1=>∃u,r=some u ∧
   wpAny (model P w) X.A (letOwnedTupleGo tg (.ref it) u) (fun _ s2=>∃x H',Inv X pins σ H' s2∧RelV x u∧J.f_ i H x H'∧tn (i+1) s2.heap∧∀b∈fp,H' b=none) E s1) E s
 done:∀(X:Cx),X.prog=P→X.w=w→X.K=K→X.calm=true→∀(i:Nat) (pins:a9) (s:Shared) (σ:St) (H:Hp) (E:aN),Inv X pins σ H s→(∀b∈fp,mD X pins H b)→tn i s.heap→J.stop i H→
  wpAny (model P w) X.A (pyNext (.ref it)) (fun r s1=>r=none∧Inv X pins σ H s1) E s
 self:∀(A:Around) (i:Nat) (s:Shared) (Q:aN) (E:aN),tn i s.heap→Q (.ref it) s→wpAny (model P w) A (pyIter (.ref it)) Q E s
abbrev TI:=St→Hp→(It→Hp→Prop)→Prop
def zF(X:Cx)(pins:a9)(σ:St)(tg:Expr)(R:It→Hp→Prop)(xo:Value)(s2:Shared):Prop:=
 ∃(it:Addr) (fp:List Addr) (tn:Nat→Heap→Prop) (J:It) (H':Hp),xo=.ref it∧Inv X pins σ H' s2∧Turn X.prog X.w X.K tg J fp it tn∧tn 0 s2.heap∧(∀b∈fp,mD X pins H' b)∧R J H'
def PI(X:Cx)(tg iter:Expr)(wi:TI):Prop:=
 ∀(pins:a9) (s:Shared) (σ:St) (H:Hp) (R:It→Hp→Prop),Inv X pins σ H s→wi σ H R→
  wpAny (model X.prog X.w) X.A (eval iter X.env) (fun v s1=>wpAny (model X.prog X.w) X.A (pyIter v) (zF X pins σ tg R) X.xe s1) X.xe s
variable {tg:Expr}
theorem sC{it:Addr}{o:Obj}{n:String}{vs:Array Value}{Q:Unit→Shared→Prop}(ho:s.heap.get? it=some o)(hc:o.cls=.type n)(hd:o.data=.fields vs)
    (hn:["enumerate","zip","dict_itemiterator","dict_reverseitemiterator","odict_iterator","itertools.zip_longest","itertools.pairwise"].contains n=false) (hQ:Q () s):wpAny M A (letOwnedTupleGo tg (.ref it) u) Q E s:=by
  unfold letOwnedTupleGo
  cases tg <;> first
    | exact dH hQ
    | (cases u <;> first
        | exact dH hQ
        | (refine bI (wpAny_load ho ?_)
           rw [hc,hd];show wpAny M A (if (["enumerate","zip","dict_itemiterator","dict_reverseitemiterator","odict_iterator","itertools.zip_longest","itertools.pairwise"].contains n && vs[0]? == some (rawInt _))=true then _ else _) Q E s
           rw [aj (by intro h;rw [hn,Bool.false_and] at h;cases h)]
           exact dH hQ))
def sD(K:aC)(a:Addr):It:=
 ⟨fun i H=>∃xs x,bZ K H a xs∧xs[i]?=some x,fun i H x H'=>H'=H∧∀xs,bZ K H a xs→xs[i]?=some x,fun i H=>∃xs,bZ K H a xs∧xs.length≤i⟩
def xp(K:aC)(a:Addr):It:=
 ⟨fun i H=>∃xs x,dN K H a xs∧xs[i]?=some x,fun i H x H'=>H'=H∧∀xs,dN K H a xs→xs[i]?=some x,fun i H=>∃xs,dN K H a xs∧xs.length≤i⟩
def mE(lo:Int)(n:Nat):It:=⟨fun i _=>i<n,fun i H x H'=>H'=H∧x=.int (lo+i),fun i _=>n≤i⟩
variable {K:aC}
theorem OK(a it:Addr):Turn P w K tg (sD K a) [it] it (fun i h=>h.IsListIter it a i) where
 mem:=by simp
 obj:=fun i h st b hb=>by
  have e:b=it:=by simpa using hb
  subst e;obtain ⟨o,e,c,d⟩:=st;exact ⟨o,e,fun v z=>by rw [d] at z;cases z⟩
 keep:=fun i h h' st k=>st.at fun o e=>k it (by simp) o e
 item:=by
  intro X hP hw hK hc i pins s σ H E I hf st hg;subst hP hw hK;obtain ⟨xs,x,hq,hx⟩:=hg;obtain ⟨ai,rv,p,hz⟩:=I.list hq;obtain ⟨u,hu,ru⟩:=rv.get hx;obtain ⟨f0,f1,f2,f3,f4,f5⟩:=hf it (by simp)
  refine wpAny_pyNext_list_item st p.isList (x:=u) (by simpa using hu) fun h' gM sb=>?_
  have I1:Inv X pins σ H {s with heap:=h'}:=I.turned (t':=s.toks) (fun b o hb e=>(sb.2 b hb).trans e) f0 f1 f3 f4 f5;obtain ⟨o,e,c,d⟩:=id gM;exact ⟨u,rfl,sC (s:={s with heap:=h'}) e c d (by decide) ⟨x,H,I1,ru,⟨rfl,fun ys hy=>by rw [I.C7 hy hq];exact hx⟩,gM,fun b hb=>(hf b hb).1⟩⟩
 done:=by
  intro X hP hw hK hc i pins s σ H E I hf st hg;subst hP hw hK;obtain ⟨xs,hq,hx⟩:=hg;obtain ⟨ai,rv,p,hz⟩:=I.list hq;obtain ⟨f0,f1,f2,f3,f4,f5⟩:=hf it (by simp)
  have hl:=rv.length;exact wpAny_pyNext_list_end (I.ok.hd hc) st p.isList (by simp;lia) fun h' eb=>⟨rfl,I.turned (t':=s.toks) (fun b o hb e=>eb b o hb e) f0 f1 f3 f4 f5⟩
 self:=fun _ _ _ _ _ st h=>wpAny_pyIter_listiter st h
theorem OL(a it:Addr):Turn P w K tg (xp K a) [it] it (fun i h=>h.IsTupleIter it a i) where
 mem:=by simp
 obj:=fun i h st b hb=>by
  have e:b=it:=by simpa using hb
  subst e;obtain ⟨o,e,c,d⟩:=st;exact ⟨o,e,fun v z=>by rw [d] at z;cases z⟩
 keep:=fun i h h' st k=>st.at fun o e=>k it (by simp) o e
 item:=by
  intro X hP hw hK hc i pins s σ H E I hf st hg;subst hP hw hK;obtain ⟨xs,x,hq,hx⟩:=hg;obtain ⟨ai,rv,p,hz⟩:=I.tuple hq;obtain ⟨u,hu,ru⟩:=rv.get hx;obtain ⟨f0,f1,f2,f3,f4,f5⟩:=hf it (by simp)
  refine wpAny_pyNext_tuple_item st (show s.heap.IsTuple a ai.toArray from p) (x:=u) (by simpa using hu) fun h' gM sb=>?_
  have I1:Inv X pins σ H {s with heap:=h'}:=I.turned (t':=s.toks) (fun b o hb e=>(sb.2 b hb).trans e) f0 f1 f3 f4 f5;obtain ⟨o,e,c,d⟩:=id gM;exact ⟨u,rfl,sC (s:={s with heap:=h'}) e c d (by decide) ⟨x,H,I1,ru,⟨rfl,fun ys hy=>by rw [I.Ot hy hq];exact hx⟩,gM,fun b hb=>(hf b hb).1⟩⟩
 done:=by
  intro X hP hw hK hc i pins s σ H E I hf st hg;subst hP hw hK;obtain ⟨xs,hq,hx⟩:=hg;obtain ⟨ai,rv,p,hz⟩:=I.tuple hq;obtain ⟨f0,f1,f2,f3,f4,f5⟩:=hf it (by simp)
  have hl:=rv.length;exact wpAny_pyNext_tuple_end (I.ok.hd hc) st (show s.heap.IsTuple a ai.toArray from p) (by simp;lia) fun h' eb=>⟨rfl,I.turned (t':=s.toks) (fun b o hb e=>eb b o hb e) f0 f1 f3 f4 f5⟩
 self:=fun _ _ _ _ _ st h=>wpAny_pyIter_tupleiter st h
theorem OM(it:Addr)(lo:Int)(n:Nat):Turn P w K tg (mE lo n) [it] it (fun i h=>IsRangeIter h it (lo+(i:Nat)*1) ((n:Int)-(i:Nat)) 1) where
 mem:=by simp
 obj:=fun i h st b hb=>by
  have e:b=it:=by simpa using hb
  subst e;exact ⟨_,st,fun v z=>by have z':Data.fields _=Data.cell v:=z;cases z'⟩
 keep:=fun i h h' st k=>k it (by simp) _ st
 item:=by
  intro X hP hw hK hc i pins s σ H E I hf st hg;subst hP hw hK;obtain ⟨f0,f1,f2,f3,f4,f5⟩:=hf it (by simp)
  have W:=Walks.range (prog:=X.prog) (w:=X.w) (I.ok.hd hc) it lo 1 n;refine W.item i s _ _ hg st fun v h' tk hv gM kk=>?_;obtain ⟨t,rfl⟩:=hv;have I1:Inv X pins σ H {s with heap:=h',toks:=tk}:=I.turned (fun b o hb e=>kk b o (by simpa using hb) e) f0 f1 f3 f4 f5
  refine ⟨_,rfl,sC (s:={s with heap:=h',toks:=tk}) (n:="range_iterator") gM rfl rfl (by decide) ⟨.int (lo+i),H,I1,⟨t,?_⟩,⟨rfl,rfl⟩,gM,fun b hb=>(hf b hb).1⟩⟩
  rw [fW]
 done:=by
  intro X hP hw hK hc i pins s σ H E I hf st hg;subst hP hw hK;obtain ⟨f0,f1,f2,f3,f4,f5⟩:=hf it (by simp)
  exact wpAny_pyNext_range_end (I.ok.hd hc) st (by have:n≤i:=hg;lia) fun h' eb=>⟨rfl,I.turned (t':=s.toks) (fun b o hb e=>eb b o hb e) f0 f1 f3 f4 f5⟩
 self:=fun _ _ _ _ _ st h=>wpAny_pyIter_rangeiter st h
section
variable {X:Cx} {tg:Expr}
def HM(K:aC)(tl:TE):TI:=fun σ H R=>tl σ H fun x H1=>∃a,x=.ref a∧(∃xs,bZ K H1 a xs)∧R (sD K a) H1
def ON(K:aC)(tl:TE):TI:=fun σ H R=>tl σ H fun x H1=>∃a,x=.ref a∧(∃xs,dN K H1 a xs)∧R (xp K a) H1
variable {l:Expr} {tl:TE}
theorem fD(hl:PE X l tl):PI X tg l (HM X.K tl):=by
 intro pins s σ H R I h;refine aR (hl pins s σ H _ I h) fun v s1 ⟨x,H1,I1,r1,q1⟩=>?_;obtain ⟨a,e,⟨xs,hq⟩,q⟩:=q1;subst e;cases r1;obtain ⟨ai,rv,p,hz⟩:=I1.list hq;refine wF p.isList ?_;refine ⟨s1.heap.objs.size,[s1.heap.objs.size],_,_,H1,rfl,I1.kept (t':=s1.toks) fun b o e=>cF _ e,OK a _,⟨_,eX _ rfl,rfl,rfl⟩,fun b hb=>?_,q⟩;have e:b=s1.heap.objs.size:=by simpa using hb
 subst e;exact I1.pB (aG _) (I1.aD.fresh (aG _))
theorem OO(hl:PE X l tl):PI X tg l (ON X.K tl):=by
 intro pins s σ H R I h;refine aR (hl pins s σ H _ I h) fun v s1 ⟨x,H1,I1,r1,q1⟩=>?_;obtain ⟨a,e,⟨xs,hq⟩,q⟩:=q1;subst e;cases r1;obtain ⟨ai,rv,p,hz⟩:=I1.tuple hq;refine wpAny_pyIter_tuple (show s1.heap.IsTuple a ai.toArray from p) ?_;refine ⟨s1.heap.objs.size,[s1.heap.objs.size],_,_,H1,rfl,I1.kept (t':=s1.toks) fun b o e=>cF _ e,OL a _,⟨_,eX _ rfl,rfl,rfl⟩,fun b hb=>?_,q⟩;have e:b=s1.heap.objs.size:=by simpa using hb
 subst e;exact I1.pB (aG _) (I1.aD.fresh (aG _))
variable {pins:a9}
theorem HN{R:It→Hp→Prop}{lo hi:Int}{t u v:Tok}{tk:Nat}(I:Inv X pins σ H s)(h1:-(2 ^ 62)≤lo)(h2:lo<2 ^ 62)(h3:-(2 ^ 62)≤hi)(h4:hi<2 ^ 62)
  (q:R (mE lo (hi-lo).toNat) H):wpAny (model X.prog X.w) X.A (pyIter (.ref s.heap.objs.size)) (zF X pins σ tg R) E {s with heap:=s.heap.push {cls:=.type "range",data:=.fields #[.int lo t,.int hi u,.int 1 v]},toks:=tk}:=by
 refine wpAny_pyIter_range (IsRange.new ..) (small_one h1 h2 h3 h4) ?_;have I1:Inv X pins σ H {s with heap:=s.heap.push {cls:=.type "range",data:=.fields #[.int lo t,.int hi u,.int 1 v]},toks:=tk}:=I.kept fun b o e=>cF _ e
 refine ⟨(s.heap.push {cls:=.type "range",data:=.fields #[.int lo t,.int hi u,.int 1 v]}).objs.size,[(s.heap.push {cls:=.type "range",data:=.fields #[.int lo t,.int hi u,.int 1 v]}).objs.size],_,_,H,rfl,
  I1.kept (t':=tk) fun b o e=>cF _ e,OM _ lo (hi-lo).toNat,?_,fun b hb=>?_,q⟩
 ·have e1:lo+((0:Nat):Int)*1=lo:=by simp
  have e2:(((hi-lo).toNat:Nat):Int)-((0:Nat):Int)=Builtin.Range.rangeSize lo hi 1:=by rw [rangeSize_one];split <;> lia
  show IsRangeIter _ _ (lo+((0:Nat):Int)*1) ((((hi-lo).toNat:Nat):Int)-((0:Nat):Int)) 1;rw [e1,e2];exact eX _ rfl
 ·have e:b=(s.heap.push {cls:=.type "range",data:=.fields #[.int lo t,.int hi u,.int 1 v]}).objs.size:=by simpa using hb
  subst e;exact I1.pB (aG _) (I1.aD.fresh (aG _))
def HP(ta:TA):TI:=fun σ H R=>ta σ H fun vs H1=>∃j:Int,vs=[.int j]∧-(2 ^ 62)≤j∧j<2 ^ 62∧R (mE 0 j.toNat) H1
def OP(ta:TA):TI:=fun σ H R=>ta σ H fun vs H1=>∃i j:Int,vs=[.int i,.int j]∧(-(2 ^ 62)≤i∧i<2 ^ 62∧-(2 ^ 62)≤j∧j<2 ^ 62)∧R (mE i (j-i).toNat) H1
variable {ta:TA} {p pos:Pos}
theorem gN{a:Expr}(hg:Gl X "range")(hm:X.mg "range"=none)(ha:PA X [a] ta)(hs:starEach [a] X.env=[(false,eval a X.env)]:=by rfl):PI X tg (.Call (.Name "range" p) [a] [] pos) (HP ta):=by
 intro pins s σ H R I h;refine Call_ (nN I hg hm boot_range (rZ (aR (ha pos pins s σ H _ I h) fun us s1 ⟨vs,H1,I1,r1,q1⟩=>?_) hs rfl));obtain ⟨j,e,q1,q2,q⟩:=q1;subst e;cases r1 with
 | cons r rr=>cases rr;obtain ⟨t,rfl⟩:=r;exact call_range_1 (HN I1 (by lia) (by lia) q1 q2 (by simpa using q))
theorem OQ{a b:Expr}(hg:Gl X "range")(hm:X.mg "range"=none)(ha:PA X [a,b] ta)(hs:starEach [a,b] X.env=[(false,eval a X.env),(false,eval b X.env)]:=by rfl)(lJ:starEach [b] X.env=[(false,eval b X.env)]:=by rfl) :
  PI X tg (.Call (.Name "range" p) [a,b] [] pos) (OP ta):=by
 intro pins s σ H R I h;refine Call_ (nN I hg hm boot_range (rZ (aR (ha pos pins s σ H _ I h) fun us s1 ⟨vs,H1,I1,r1,q1⟩=>?_) (by rw [hs,lJ]) (by rw [lJ];rfl)))
 obtain ⟨i,j,e,⟨q1,q2,q3,q4⟩,q⟩:=q1;subst e;cases r1 with
 | cons r rr=>
  cases rr with
  | cons r' rr=>cases rr;obtain ⟨t,rfl⟩:=r;obtain ⟨t',rfl⟩:=r';exact call_range_2 (HN I1 q1 q2 q3 q4 q)
def OR(wi:TI)(g:TG)(tb:TS):TS:=fun D σ H=>wi σ H fun J H1=>∃W:Nat→Nat→St→Hp→Prop,(∃m,W 0 m σ H1)∧∀i m σ H,W i m σ H→
 (J.stop i H∧D.nx σ H)∨(J.go i H∧∃N:St→Hp→Prop,(∀σ' H',N σ' H'→∃m',m'<m∧W (i+1) m' σ' H')∧∀x H',J.f_ i H x H'→g x σ H' fun σ2 H2=>tb {D with nx:=N,ct:=N,bk:=D.nx} σ2 H2)
def lK(fp:List Addr)(h:Heap):List (Addr×Obj):=fp.filterMap fun b=>(h.get? b).map fun o=>(b,o)
variable {fp:List Addr}
theorem nS{o:Obj}(hb:b∈fp)(e:h.get? b=some o):(b,o)∈lK fp h:=List.mem_filterMap.mpr ⟨b,hb,by rw [e];rfl⟩
theorem OS{p:Addr×Obj}(hp:p∈lK fp h):p.1∈fp∧h.get? p.1=some p.2:=by
 obtain ⟨b,hb,e⟩:=List.mem_filterMap.mp hp;cases q:h.get? b with
 | none=>rw [q] at e;cases e
 | some o=>rw [q] at e;have e':(b,o)=p:=Option.some.inj e;subst e';exact ⟨hb,q⟩
theorem Inv.pinned(I:Inv X pins σ H s)(hf:∀b∈fp,mD X pins H b)(ho:∀b∈fp,∃o,s.heap.get? b=some o∧∀v,o.data≠.cell v):Inv X (pins++lK fp s.heap) σ H s:=
 I.Hy fun p hp=>(lh.mp hp).elim (fun z=>I.pin p (fX _ z)) fun z=>by obtain ⟨hb,e⟩:=OS z;obtain ⟨f0,f1,f2,_⟩:=hf p.1 hb;obtain ⟨o,e',d⟩:=ho p.1 hb;rw [e] at e';cases e';exact ⟨e,f0,f1,f2,d⟩
theorem Inv.sE{pl:a9}(I:Inv X (pins++pl) σ H s):Inv X pins σ H s:=I.Hy fun p hp=>I.pin p (fX _ (List.mem_append_left _ hp))
theorem fO{iter:Expr}{body:List Stmt}{wi:TI}{g:TG}{tb:TS}(hp:PassesOwn (model X.prog X.w) X.A X.env X.xe)(hc:X.calm=true)(hi:PI X tg iter wi)(hg:PG X tg g)(hb:eZ X body tb)
  (hs:∀x,foldedSetIterable iter X.env x=pure x:=by intro _;rfl):PS X (.For tg iter body [] pos) (OR wi g tb):=by
 intro pins s σ H D I h;refine wpAny_For (aR (hi pins s σ H _ I h) fun v s1 h1=>aR h1 fun xo s2 h2=>?_) hs;obtain ⟨it,fp,tn,J,H2,e,I2,T,e8,f2,W,⟨m0,w0⟩,turn⟩:=h2;subst e;have iw:∀{H':Hp},(∀b∈fp,H' b=none)→∀b∈fp,mD X pins H' b:=fun hn b hb=>⟨hn b hb,(f2 b hb).2⟩;refine codeAny_forLoop_any (fun n s'=>∃i σ' H',Inv X pins σ' H' s'∧tn i s'.heap∧(∀b∈fp,H' b=none)∧W i n σ' H') ?_ m0 ⟨0,σ,H2,I2,e8,fun b hb=>(f2 b hb).1,w0⟩;rintro n s3 ⟨i,σ3,H3,I3,HQ,HR,w3⟩;rcases turn i n σ3 H3 w3 with ⟨stop,qn⟩ | ⟨go,N,hN,step⟩
 ·refine oN hp (aR (T.done X rfl rfl rfl hc i pins s3 σ3 H3 X.xe I3 (iw HR) HQ stop) fun r s4 ⟨hr,I4⟩=>?_)
  subst hr;exact y7 ⟨σ3,H3,I4,qn⟩
 ·refine oN hp (aR (T.item X rfl rfl rfl hc i pins s3 σ3 H3 X.xe I3 (iw HR) HQ go) fun r s4 ⟨u,hr,h4⟩=>?_)
  subst hr;refine oN hp (aR h4 fun _ s5 ⟨x,H5,I5,r5,y5,iy,pD⟩=>?_);have pE:=I5.pinned (iw pD) (T.obj _ _ iy);refine oN hp (aR (hg _ s5 σ3 H5 x u _ pE r5 (step x H5 y5)) fun _ s6 ⟨σ6,H6,I6,q6⟩=>?_);refine oN hp (aR (hb _ s6 σ6 H6 _ I6 q6) fun f s7 q7=>?_);have again:∀{σ7:St} {H7:Hp},Inv X (pins++lK fp s5.heap) σ7 H7 s7→N σ7 H7→∃m,m<n∧∃i σ' H',Inv X pins σ' H' s7∧tn i s7.heap∧(∀b∈fp,H' b=none)∧W i m σ' H':=fun{σ7 H7} I7 n7=>by obtain ⟨m',hm,w7⟩:=hN σ7 H7 n7;refine ⟨m',hm,i+1,σ7,H7,I7.sE,T.keep _ _ _ iy fun b hb o e=>(I7.pin (b,o) (fX _ (fX _ (nS hb e)))).1,fun b hb=>?_,w7⟩;obtain ⟨o,e,d⟩:=T.obj _ _ iy b hb;exact (I7.pin (b,o) (fX _ (fX _ (nS hb e)))).2.1
  cases f with
  | next=>obtain ⟨σ7,H7,I7,n7⟩:=q7;exact again I7 n7
  | cont=>obtain ⟨σ7,H7,I7,n7⟩:=q7;exact again I7 n7
  | brk=>obtain ⟨σ7,H7,I7,q7⟩:=q7;exact ⟨σ7,H7,I7.sE,q7⟩
  | ret v=>obtain ⟨x7,σ7,H7,I7,r7,q7⟩:=q7;exact ⟨x7,σ7,H7,I7.sE,r7,q7⟩
end
variable {g:TG} {tb:TS} {D:Ends}
theorem mF(Pv:Nat→St→Hp→Prop)(h0:Pv 0 σ H)(hl:∀i σ H,i≤xs.length→Pv i σ H→bZ K H a xs)
  (hs:∀i x σ H,xs[i]?=some x→Pv i σ H→g x σ H fun σ2 H2=>tb {D with nx:=Pv (i+1),ct:=Pv (i+1),bk:=D.nx} σ2 H2) (hd:∀σ H,Pv xs.length σ H→D.nx σ H) :
  ∃W:Nat→Nat→St→Hp→Prop,(∃m,W 0 m σ H)∧∀i m σ H,W i m σ H→
   ((sD K a).stop i H∧D.nx σ H)∨((sD K a).go i H∧∃N:St→Hp→Prop,(∀σ' H',N σ' H'→∃m',m'<m∧W (i+1) m' σ' H')∧∀x H',(sD K a).f_ i H x H'→g x σ H' fun σ2 H2=>tb {D with nx:=N,ct:=N,bk:=D.nx} σ2 H2):=by
 refine ⟨fun i m σ H=>m=xs.length-i∧i≤xs.length∧Pv i σ H,⟨xs.length,by simp,b_ _,h0⟩,?_⟩
 rintro i m σ H ⟨rfl,hi,p⟩;have q:=hl i σ H hi p;by_cases bV:i<xs.length
 ·refine .inr ⟨⟨xs,xs[i],q,by simp [bV]⟩,Pv (i+1),fun σ' H' p'=>⟨xs.length-(i+1),by lia,rfl,bV,p'⟩,fun x H' y=>?_⟩
  obtain ⟨e,y⟩:=y;subst e;exact hs i x σ _ (y xs q) p
 ·have e:i=xs.length:=by lia
  subst e;exact .inl ⟨⟨xs,q,aG _⟩,hd σ H p⟩
theorem OT(Pv:Nat→St→Hp→Prop)(h0:Pv 0 σ H)(hl:∀i σ H,i≤xs.length→Pv i σ H→dN K H a xs)
  (hs:∀i x σ H,xs[i]?=some x→Pv i σ H→g x σ H fun σ2 H2=>tb {D with nx:=Pv (i+1),ct:=Pv (i+1),bk:=D.nx} σ2 H2) (hd:∀σ H,Pv xs.length σ H→D.nx σ H) :
  ∃W:Nat→Nat→St→Hp→Prop,(∃m,W 0 m σ H)∧∀i m σ H,W i m σ H→
   ((xp K a).stop i H∧D.nx σ H)∨((xp K a).go i H∧∃N:St→Hp→Prop,(∀σ' H',N σ' H'→∃m',m'<m∧W (i+1) m' σ' H')∧∀x H',(xp K a).f_ i H x H'→g x σ H' fun σ2 H2=>tb {D with nx:=N,ct:=N,bk:=D.nx} σ2 H2):=by
 refine ⟨fun i m σ H=>m=xs.length-i∧i≤xs.length∧Pv i σ H,⟨xs.length,by simp,b_ _,h0⟩,?_⟩
 rintro i m σ H ⟨rfl,hi,p⟩;have q:=hl i σ H hi p;by_cases bV:i<xs.length
 ·refine .inr ⟨⟨xs,xs[i],q,by simp [bV]⟩,Pv (i+1),fun σ' H' p'=>⟨xs.length-(i+1),by lia,rfl,bV,p'⟩,fun x H' y=>?_⟩
  obtain ⟨e,y⟩:=y;subst e;exact hs i x σ _ (y xs q) p
 ·have e:i=xs.length:=by lia
  subst e;exact .inl ⟨⟨xs,q,aG _⟩,hd σ H p⟩
variable {n:Nat}
theorem sF{lo:Int}(Pv:Nat→St→Hp→Prop)(h0:Pv 0 σ H)
  (hs:∀i σ H,i<n→Pv i σ H→g (.int (lo+i)) σ H fun σ2 H2=>tb {D with nx:=Pv (i+1),ct:=Pv (i+1),bk:=D.nx} σ2 H2) (hd:∀σ H,Pv n σ H→D.nx σ H) :
  ∃W:Nat→Nat→St→Hp→Prop,(∃m,W 0 m σ H)∧∀i m σ H,W i m σ H→
   ((mE lo n).stop i H∧D.nx σ H)∨((mE lo n).go i H∧∃N:St→Hp→Prop,(∀σ' H',N σ' H'→∃m',m'<m∧W (i+1) m' σ' H')∧∀x H',(mE lo n).f_ i H x H'→g x σ H' fun σ2 H2=>tb {D with nx:=N,ct:=N,bk:=D.nx} σ2 H2):=by
 refine ⟨fun i m σ H=>m=n-i∧i≤n∧Pv i σ H,⟨n,by simp,b_ _,h0⟩,?_⟩
 rintro i m σ H ⟨rfl,hi,p⟩;by_cases bV:i<n
 ·refine .inr ⟨bV,Pv (i+1),fun σ' H' p'=>⟨n-(i+1),by lia,rfl,bV,p'⟩,fun x H' y=>?_⟩
  obtain ⟨e,y⟩:=y;subst e y;exact hs i σ _ bV p
 ·have e:i=n:=by lia
  subst e;exact .inl ⟨aG _,hd σ H p⟩
abbrev R2:=V→V→Hp→VK→Prop
def cB(X:Cx)(f:Value→Value→Sem Value)(r:R2):Prop:=
 ∀(pins:a9) (s:Shared) (σ:St) (H:Hp) (x y:V) (v u:Value) (Q:VK),Inv X pins σ H s→RelV x v→RelV y u→r x y H Q→
  wpAny (model X.prog X.w) X.A (f v u) (EP X pins σ Q) X.xe s
def De(X:Cx)(f:Value→Sem Value)(r:V→Hp→VK→Prop):Prop:=
 ∀(pins:a9) (s:Shared) (σ:St) (H:Hp) (x:V) (v:Value) (Q:VK),Inv X pins σ H s→RelV x v→r x H Q→
  wpAny (model X.prog X.w) X.A (f v) (EP X pins σ Q) X.xe s
def gc(X:Cx)(f:Value)(r:List V→Hp→VK→Prop):Prop:=
 ∀(pins:a9) (s:Shared) (σ:St) (H:Hp) (xs:List V) (us:List Value) (Q:VK),Inv X pins σ H s→Vals xs us→r xs H Q→
  wpAny (model X.prog X.w) X.A (call f us) (EP X pins σ Q) X.xe s
def lL(r:R2)(ta tb:TE):TE:=fun σ H Q=>ta σ H fun x H1=>tb σ H1 fun y H2=>r x y H2 Q
def OU(r:V→Hp→VK→Prop)(ta:TE):TE:=fun σ H Q=>ta σ H fun x H1=>r x H1 Q
def rI(C:Int→Int→Prop)(g:Int→Int→V):R2:=fun x y H Q=>∃i j,x=.int i∧y=.int j∧C i j∧Q (g i j) H
def nU(g:Int→Int→V):R2:=fun x y H Q=>∃i j,x=.int i∧y=.int j∧Q (g i j) H
def rU(g:Int→V):V→Hp→VK→Prop:=fun x H Q=>∃i,x=.int i∧Q (g i) H
section
variable {X:Cx} {a b c:Expr} {ta tb tc:TE} {pos:Pos}
variable {f:Value→Value→Sem Value}
theorem Df(ha:PE X a ta)(hb:PE X b tb){pins:a9}{R:V→V→Hp→Prop}(I:Inv X pins σ H s)
  (h:ta σ H fun x H1=>tb σ H1 fun y H2=>R x y H2) {Q:aN}
  (hf:∀v u s2 x y H2,Inv X pins σ H2 s2→RelV x v→RelV y u→R x y H2→wpAny (model X.prog X.w) X.A (f v u) Q X.xe s2) :
  wpAny (model X.prog X.w) X.A (eval a X.env) (fun v s₁=>wpAny (model X.prog X.w) X.A (eval b X.env) (fun u s₂=>wpAny (model X.prog X.w) X.A (f v u) Q X.xe s₂) X.xe s₁) X.xe s:=by
 refine aR (ha pins s σ H _ I h) fun v s1 ⟨x,H1,I1,r1,q1⟩=>?_;refine aR (hb pins s1 σ H1 _ I1 q1) fun u s2 ⟨y,H2,I2,r2,q2⟩=>?_;exact hf v u s2 x y H2 I2 r1 r2 q2
theorem aB{op:Operator}{r:R2}(ho:cB X (binaryOp op) r)(ha:PE X a ta)(hb:PE X b tb):PE X (.BinOp a op b pos) (lL r ta tb):=by intro pins s σ H Q I h;exact wpAny_BinOp (Df ha hb I h fun v u s2 x y H2 I2 rx ry q=>ho pins s2 σ H2 x y v u Q I2 rx ry q)
theorem zG{op:UnaryOp}{r:V→Hp→VK→Prop}(ho:De X (unaryOp op) r)(ha:PE X a ta):PE X (.UnaryOp op a pos) (OU r ta):=by intro pins s σ H Q I h;exact UnaryOp_ (aR (ha pins s σ H _ I h) fun v s1 ⟨x,H1,I1,r1,q1⟩=>ho pins s1 σ H1 x v Q I1 r1 q1)
theorem pF{C:Int→Int→Prop}{g:Int→Int→Int}
  (rule:∀(i j:Int) (t u:Tok) (s:Shared) (Q:aN) (E:aN),C i j→Q (.int (g i j) s.toks) {s with toks:=s.toks+1}→wpAny (model X.prog X.w) X.A (f (.int i t) (.int j u)) Q E s) :
  cB X f (rI C fun i j=>.int (g i j)):=by
 intro pins s σ H x y v u Q I rx ry h;obtain ⟨i,j,rfl,rfl,hc,q⟩:=h;obtain ⟨t,rfl⟩:=rx;obtain ⟨t',rfl⟩:=ry;exact rule i j t t' s _ _ hc ⟨.int (g i j),H,I.tok _,⟨_,rfl⟩,q⟩
theorem HS{g:Int→Int→Int}
  (rule:∀(i j:Int) (t u:Tok) (s:Shared) (Q:aN) (E:aN),Q (.int (g i j) s.toks) {s with toks:=s.toks+1}→wpAny (model X.prog X.w) X.A (f (.int i t) (.int j u)) Q E s) :
  cB X f (nU fun i j=>.int (g i j)):=by
 intro pins s σ H x y v u Q I rx ry h;obtain ⟨i,j,rfl,rfl,q⟩:=h;obtain ⟨t,rfl⟩:=rx;obtain ⟨t',rfl⟩:=ry;exact rule i j t t' s _ _ ⟨.int (g i j),H,I.tok _,⟨_,rfl⟩,q⟩
theorem zH{g:Int→Int→Bool}
  (rule:∀(i j:Int) (t u:Tok) (s:Shared) (Q:aN) (E:aN),Q (.bool (g i j)) s→wpAny (model X.prog X.w) X.A (f (.int i t) (.int j u)) Q E s) :
  cB X f (nU fun i j=>.bl (g i j)):=by
 intro pins s σ H x y v u Q I rx ry h;obtain ⟨i,j,rfl,rfl,q⟩:=h;obtain ⟨t,rfl⟩:=rx;obtain ⟨t',rfl⟩:=ry;exact rule i j t t' s _ _ ⟨.bl (g i j),H,I,rfl,q⟩
def OV(i j:Int):Prop:=0<j∧j<1073741824
def Dg(i j:Int):Prop:=(-(2 ^ 64)<i∧i<2 ^ 64)∨(-(2 ^ 64)<j∧j<2 ^ 64)
theorem Dg.ok{i j:Int}(h:Dg i j):IntMulOk i j:=by
 rcases h with ⟨h1,h2⟩ | ⟨h1,h2⟩;·exact .of_left (intBits_le_64 h1 h2)
 ·exact .of_right (intBits_le_64 h1 h2)
theorem d_:cB X (binaryOp .Add) (nU fun i j=>.int (i+j)):=HS fun _ _ _ _ _ _ _ q=>add_int q
theorem jj:cB X (binaryOp .Sub) (nU fun i j=>.int (i-j)):=HS fun _ _ _ _ _ _ _ q=>sub_int q
theorem gz:cB X (binaryOp .Mult) (rI Dg fun i j=>.int (i*j)):=pF fun _ _ _ _ _ _ _ hc q=>mul_int q hc.ok
theorem zI:cB X (binaryOp .FloorDiv) (rI OV fun i j=>.int (i / j)):=pF fun i j _ _ _ _ _ hc q=>by have h1:(0:Int)<j:=hc.1;have h2:j<1073741824:=hc.2;exact floordiv_int (by lia) (by rw [Int.fdiv_eq_ediv_of_nonneg i (by lia)];exact q) (.inl (PyProof.noPylong_small (by lia)))
theorem gO:cB X (binaryOp .Mod) (rI (fun _ j=>0<j) fun i j=>.int (i % j)):=pF fun i j _ _ _ _ _ hc q=>by have h1:(0:Int)<j:=hc;exact mod_int' (by lia) (by rw [Int.fmod_eq_emod_of_nonneg i (by lia)];exact q)
theorem OW:cB X (binaryOp .Mod) (rI (fun _ j=>j≠0) fun i j=>.int (i.fmod j)):=pF fun _ _ _ _ _ _ _ hc q=>mod_int' hc q
theorem OX{f:Value→Sem Value}{g:Int→Int}
  (rule:∀(i:Int) (t:Tok) (s:Shared) (Q:aN) (E:aN),Q (.int (g i) s.toks) {s with toks:=s.toks+1}→wpAny (model X.prog X.w) X.A (f (.int i t)) Q E s) :
  De X f (rU fun i=>.int (g i)):=by
 intro pins s σ H x v Q I rx h;obtain ⟨i,rfl,q⟩:=h;obtain ⟨t,rfl⟩:=rx;exact rule i t s _ _ ⟨.int (g i),H,I.tok _,⟨_,rfl⟩,q⟩
theorem zJ:De X (unaryOp .USub) (rU fun i=>.int (-i)):=OX fun _ _ _ _ _ q=>neg_int q
end
def Dh:V→V→Bool
 | .aV,.aV=>true | .aV,.int _=>true | .int _,.aV=>true | .aV,.bl _=>true | .bl _,.aV=>true | .aV,.str _=>true | .str _,.aV=>true
 | .int _,.int _=>true | .bl _,.bl _=>true | .str _,.str _=>true | .jL _,.jL _=>true
 | .int _,.str _=>true | .str _,.int _=>true | .bl _,.str _=>true | .str _,.bl _=>true
 | _,_=>false
def HU:R2:=fun x y H Q=>Dh x y=true∧Q (.bl (decide (x=y))) H
def HV:R2:=fun x y H Q=>Dh x y=true∧Q (.bl (!decide (x=y))) H
theorem HW{i j:Int}:decide (V.int i=V.int j)=(i == j):=by rw [oO];simp
theorem HX{i j:Bool}:decide (V.bl i=V.bl j)=(i == j):=by rw [oO];simp
theorem HY{i j:Str}:decide (V.str i=V.str j)=(i == j):=by rw [oO];simp
theorem HZ{i j:Array UInt8}:decide (V.jL i=V.jL j)=(i.toList == j.toList):=by rw [oO];cases i;cases j;simp
section
variable {X:Cx} {a b c:Expr} {ta tb tc:TE} {pos:Pos}
theorem cZ{pins:a9}{Q:VK}{k k':Bool}(I:Inv X pins σ H s)(q:Q (.bl k) H)(e:k=k'):EP X pins σ Q (.bool k') s:=by subst e;exact ⟨.bl k,H,I,rfl,q⟩
theorem fE:cB X (compareOp .Eq) HU:=by
 intro pins s σ H x y v u Q I rx ry h;obtain ⟨hs,q⟩:=h;cases x with
 | aV=>
  cases rx;cases y with
  | aV=>cases ry;exact PySem.EqNone.eq_none_none (cZ I q (by simp))
  | bl j=>cases ry;exact PySem.EqNone.eq_none_bool (cZ I q (by simp))
  | int j=>obtain ⟨t',rfl⟩:=ry;exact PySem.EqNone.eq_none_int (cZ I q (by simp))
  | str j=>obtain ⟨t',rfl⟩:=ry;exact PySem.EqNone.eq_none_str (cZ I q (by simp))
  | _=>exact absurd (show false=true from hs) dI
 | bl i=>
  cases rx;cases y with
  | aV=>cases ry;exact PySem.EqNone.eq_bool_none (cZ I q (by simp))
  | bl j=>cases ry;exact eq_bool (cZ I q HX)
  | str j=>obtain ⟨t',rfl⟩:=ry;exact PySem.EqMixed.eq_bool_str (cZ I q (by simp))
  | _=>exact absurd (show false=true from hs) dI
 | int i=>
  obtain ⟨t,rfl⟩:=rx;cases y with
  | aV=>cases ry;exact PySem.EqNone.eq_int_none (cZ I q (by simp))
  | int j=>obtain ⟨t',rfl⟩:=ry;exact eq_int (cZ I q HW)
  | str j=>obtain ⟨t',rfl⟩:=ry;exact PySem.EqMixed.eq_int_str (cZ I q (by simp))
  | _=>exact absurd (show false=true from hs) dI
 | str i=>
  obtain ⟨t,rfl⟩:=rx;cases y with
  | aV=>cases ry;exact PySem.EqNone.eq_str_none (cZ I q (by simp))
  | bl j=>cases ry;exact PySem.EqMixed.eq_str_bool (cZ I q (by simp))
  | int j=>obtain ⟨t',rfl⟩:=ry;exact PySem.EqMixed.eq_str_int (cZ I q (by simp))
  | str j=>obtain ⟨t',rfl⟩:=ry;exact eq_str (cZ I q HY)
  | _=>exact absurd (show false=true from hs) dI
 | jL i=>
  obtain ⟨t,rfl⟩:=rx;cases y with
  | jL j=>obtain ⟨t',rfl⟩:=ry;exact PySem.W.eq_bytes (cZ I q HZ)
  | _=>exact absurd (show false=true from hs) dI
 | _=>cases y <;> exact absurd (show false=true from hs) dI
theorem jk:cB X (compareOp .NotEq) HV:=by
 intro pins s σ H x y v u Q I rx ry h;obtain ⟨hs,q⟩:=h;cases x with
 | aV=>
  cases rx;cases y with
  | aV=>cases ry;exact PySem.EqNone.ne_none_none (cZ I q (by simp))
  | bl j=>cases ry;exact PySem.EqNone.ne_none_bool (cZ I q (by simp))
  | int j=>obtain ⟨t',rfl⟩:=ry;exact PySem.EqNone.ne_none_int (cZ I q (by simp))
  | str j=>obtain ⟨t',rfl⟩:=ry;exact PySem.EqNone.ne_none_str (cZ I q (by simp))
  | _=>exact absurd (show false=true from hs) dI
 | bl i=>
  cases rx;cases y with
  | aV=>cases ry;exact PySem.EqNone.ne_bool_none (cZ I q (by simp))
  | bl j=>cases ry;exact ne_bool (cZ I q (gL not HX))
  | str j=>obtain ⟨t',rfl⟩:=ry;exact PySem.EqMixed.ne_bool_str (cZ I q (by simp))
  | _=>exact absurd (show false=true from hs) dI
 | int i=>
  obtain ⟨t,rfl⟩:=rx;cases y with
  | aV=>cases ry;exact PySem.EqNone.ne_int_none (cZ I q (by simp))
  | int j=>obtain ⟨t',rfl⟩:=ry;exact ne_int (cZ I q (gL not HW))
  | str j=>obtain ⟨t',rfl⟩:=ry;exact PySem.EqMixed.ne_int_str (cZ I q (by simp))
  | _=>exact absurd (show false=true from hs) dI
 | str i=>
  obtain ⟨t,rfl⟩:=rx;cases y with
  | aV=>cases ry;exact PySem.EqNone.ne_str_none (cZ I q (by simp))
  | bl j=>cases ry;exact PySem.EqMixed.ne_str_bool (cZ I q (by simp))
  | int j=>obtain ⟨t',rfl⟩:=ry;exact PySem.EqMixed.ne_str_int (cZ I q (by simp))
  | str j=>obtain ⟨t',rfl⟩:=ry;exact ne_str (cZ I q (gL not HY))
  | _=>exact absurd (show false=true from hs) dI
 | jL i=>
  obtain ⟨t,rfl⟩:=rx;cases y with
  | jL j=>obtain ⟨t',rfl⟩:=ry;exact PySem.W.ne_bytes (cZ I q (gL not HZ))
  | _=>exact absurd (show false=true from hs) dI
 | _=>cases y <;> exact absurd (show false=true from hs) dI
theorem sG:cB X (compareOp .Lt) (nU fun i j=>.bl (decide (i<j))):=zH fun _ _ _ _ _ _ _ q=>lt_int q
theorem Di:cB X (compareOp .LtE) (nU fun i j=>.bl (decide (i≤j))):=zH fun _ _ _ _ _ _ _ q=>le_int q
theorem xq:cB X (compareOp .Gt) (nU fun i j=>.bl (decide (j<i))):=zH fun _ _ _ _ _ _ _ q=>gt_int q
theorem H_:cB X (compareOp .GtE) (nU fun i j=>.bl (decide (j≤i))):=zH fun _ _ _ _ _ _ _ q=>ge_int q
theorem zK:cB X (compareOp .Is) (fun x y H Q=>y=.aV∧Q (.bl (decide (x=.aV))) H):=by
 intro pins s σ H x y v u Q I rx ry h;obtain ⟨rfl,q⟩:=h;cases ry;refine is_none_gen (cZ I q ?_)
 cases x <;> first
  | (cases rx;rfl)
  | (obtain ⟨t,rfl⟩:=rx;rfl)
theorem OY:cB X (compareOp .IsNot) (fun x y H Q=>y=.aV∧Q (.bl (!decide (x=.aV))) H):=by
 intro pins s σ H x y v u Q I rx ry h;obtain ⟨rfl,q⟩:=h;cases ry;refine isnot_none_gen (cZ I q ?_)
 cases x <;> first
  | (cases rx;rfl)
  | (obtain ⟨t,rfl⟩:=rx;rfl)
variable {op:CmpOp}
theorem Dj(b:Expr)(h:op≠.In:=by decide)(h2:op≠.NotIn:=by decide):behindInMarks op b=false:=by
 have e1:(op == CmpOp.In)=false:=by cases op <;> first | rfl | exact absurd rfl h
 have e2:(op == CmpOp.NotIn)=false:=by cases op <;> first | rfl | exact absurd rfl h2
 cases b <;> simp [behindInMarks,e1,e2]
theorem Ia{op:CmpOp}{r:R2}(ho:cB X (compareOp op) r)(ha:PE X a ta)(hb:PE X b tb)(hm:behindInMarks op b=false):PE X (.Compare a [op] [b] pos) (lL r ta tb):=by intro pins s σ H Q I h;exact wpAny_Compare1 (Df ha hb I h fun v u s2 x y H2 I2 rx ry q=>ho pins s2 σ H2 x y v u Q I2 rx ry q) hm
theorem nV{r:R2}(ho:cB X (compareOp op) r)(ha:PE X a ta)(hb:PE X b tb)(hm:behindInMarks op b=false:=by exact Dj _):PE X (.Compare a [op] [b] pos) (lL r ta tb):=Ia ho ha hb hm
def Ib(t:TE):TT:=fun σ H Q=>t σ H fun x H'=>∃k,x=.bl k∧Q k H'
theorem OZ{r:R2}(ho:cB X (compareOp op) r)(ha:PE X a ta)(hb:PE X b tb)(hm:behindInMarks op b=false):PT X (.Compare a [op] [b] pos) (Ib (lL r ta tb)):=by intro pins s σ H Q I h;refine wpAny_isTrue_Compare1 (aR (ha pins s σ H _ I h) fun v s1 ⟨x,H1,I1,r1,q1⟩=>aR (hb pins s1 σ H1 _ I1 q1) fun u s2 ⟨y,H2,I2,r2,q2⟩=>aR (ho pins s2 σ H2 x y v u _ I2 r1 r2 q2) fun c s3 ⟨z,H3,I3,r3,k,e,q3⟩=>?_) hm;subst e;cases r3;exact mm ⟨H3,I3,q3⟩
theorem bR{r:R2}(ho:cB X (compareOp op) r)(ha:PE X a ta)(hb:PE X b tb)(hm:behindInMarks op b=false:=by exact Dj _):PT X (.Compare a [op] [b] pos) (Ib (lL r ta tb)):=OZ ho ha hb hm
def O0(r r':R2)(ta tb tc:TE):TE:=fun σ H Q=>ta σ H fun x H1=>tb σ H1 fun y H2=>r x y H2 fun z H3=>∃k,z=.bl k ∧
 (if k=true then tc σ H3 fun w' H4=>r' y w' H4 Q else Q (.bl false) H3)
theorem O1{Dk:CmpOp}{r r':R2}(ho:cB X (compareOp op) r)(lE:cB X (compareOp Dk) r')(ha:PE X a ta)(hb:PE X b tb)(hc:PE X c tc)
  (hm:lastMarks [op,Dk] [b,c]=false:=by with_unfolding_all rfl):PE X (.Compare a [op,Dk] [b,c] pos) (O0 r r' ta tb tc):=by
 intro pins s σ H Q I h;refine Compare_chain (aR (ha pins s σ H _ I h) fun v s1 ⟨x,H1,I1,r1,q1⟩=>chain_link (aR (hb pins s1 σ H1 _ I1 q1) fun u s2 ⟨y,H2,I2,r2,q2⟩=>aR (ho pins s2 σ H2 x y v u _ I2 r1 r2 q2) fun d s3 ⟨z,H3,I3,r3,k,e,q3⟩=>?_)) hm;subst e;cases r3;refine mm ?_;cases k with
 | false=>exact ite_ff ⟨.bl false,H3,I3,rfl,q3⟩
 | true=>exact ite_tt (chain_last (aR (hc pins s3 σ H3 _ I3 q3) fun w' s4 ⟨z',H4,I4,r4,q4⟩=>lE pins s4 σ H4 y z' u w' Q I4 r2 r4 q4))
theorem zL:(sizeLine:Nat)<2 ^ 63:=by rw [sizeLine_eq];decide
theorem vals1(r:Vals [x] us):∃u,us=[u]∧RelV x u:=by
 cases r with
 | cons r1 r2=>cases r2;exact ⟨_,rfl,r1⟩
theorem vals2{y:V}(r:Vals [x,y] us):∃u w',us=[u,w']∧RelV x u∧RelV y w':=by
 cases r with
 | cons r1 r2=>
  cases r2 with
  | cons r3 r4=>cases r4;exact ⟨_,_,rfl,r1,r3⟩
theorem Dl:gc X (.builtin "abs") (fun xs H Q=>∃i,xs=[.int i]∧Q (.int (if i<0 then -i else i)) H):=by intro pins s σ H xs us Q I r h;obtain ⟨i,rfl,q⟩:=h;obtain ⟨u,rfl,t,rfl⟩:=vals1 r;exact call_abs_int fun u tk=>⟨.int (if i<0 then -i else i),H,I.tok _,⟨_,rfl⟩,q⟩
theorem O2(hc:X.calm=true):gc X (.builtin "max") (fun xs H Q=>∃i j,xs=[.int i,.int j]∧Q (.int (if j>i then j else i)) H):=by
 intro pins s σ H xs us Q I r h;obtain ⟨i,j,rfl,q⟩:=h;obtain ⟨u,w',rfl,⟨t,rfl⟩,⟨t',rfl⟩⟩:=vals2 r;refine max_two_ints (I.ok.hd hc) fun h' tk k=>⟨_,H,I.kept k,?_,q⟩;by_cases hj:j>i;·rw [ak hj,ak hj];exact ⟨_,rfl⟩
 ·rw [aj hj,aj hj];exact ⟨_,rfl⟩
theorem O3(hc:X.calm=true):gc X (.builtin "min") (fun xs H Q=>∃i j,xs=[.int i,.int j]∧Q (.int (if j<i then j else i)) H):=by
 intro pins s σ H xs us Q I r h;obtain ⟨i,j,rfl,q⟩:=h;obtain ⟨u,w',rfl,⟨t,rfl⟩,⟨t',rfl⟩⟩:=vals2 r;refine min_two_ints (I.ok.hd hc) fun h' tk k=>⟨_,H,I.kept k,?_,q⟩;by_cases hj:j<i;·rw [ak hj,ak hj];exact ⟨_,rfl⟩
 ·rw [aj hj,aj hj];exact ⟨_,rfl⟩
theorem Dm:gc X (.type "int") (fun xs H Q=>(∃i,xs=[.int i]∧Q (.int i) H)∨∃k,xs=[.bl k]∧Q (.int (if k then 1 else 0)) H):=by
 intro pins s σ H xs us Q I r h;rcases h with ⟨i,rfl,q⟩ | ⟨k,rfl,q⟩
 ·obtain ⟨u,rfl,t,rfl⟩:=vals1 r
  exact call_int_int ⟨.int i,H,I,⟨_,rfl⟩,q⟩
 ·obtain ⟨u,rfl,r1⟩:=vals1 r
  cases r1;exact call_int_bool ⟨.int (if k then 1 else 0),H,I.tok _,⟨_,rfl⟩,q⟩
end
structure pG (h:Heap) (x dx C:Addr) (mA:dq):Prop where
 obj:h.get? x=some (PySem.W.instObj C dx)
 ns:h.Ns1 dx mA
 ne:dx≠x
variable {dx:Addr} {mA:dq}
theorem O4(n:h.Ns1 dx mA):∃od,h.get? dx=some od∧∀name,PySem.W.lookIn name od=some (mA name):=by
 obtain ⟨o,es,ep,ho,hd,hk,_,hm⟩:=n;refine ⟨o,ho,fun name=>?_⟩;have e:=hm name;unfold nsFind findBy at e;rw [←Array.find?_toList] at e;unfold PySem.W.lookIn;rw [hd];dsimp only
 split
 ·rename_i y q
  rw [q] at e;exact gL some e
 ·rename_i q
  rw [q] at e;have a:es.toList.any (·.refKey)=false:=by rw [List.any_eq_false];intro y hy;obtain ⟨z,t,O5⟩:=hk y (Array.mem_toList_iff.mp hy);simp [DictEntry.refKey,O5]
  have a':¬es.toList.any (·.refKey)=true:=by rw [a];exact dI
  rw [aj a'];exact gL some e
variable {C:Addr}
theorem pG.look{x:Addr}(I:pG h x dx C mA):∃od,PySem.W.InstAt h x (PySem.W.instObj C dx) C (some od)∧∀name,PySem.W.lookIn name od=some (mA name):=
 let ⟨od,ho,hl⟩:=O4 I.ns
 ⟨od,⟨I.obj,rfl,rfl,ho⟩,hl⟩
section
variable {prog:Program} {w:World} {A:Around} {E:aN} {s:Shared} {K:aC} {x dx C f:Addr} {mA:dq} {name:Str} {v:Value}
theorem get_map{expr:Bool}{Q:aN}(X:K.In s.heap)(I:pG s.heap x dx C mA)(hg:PySem.W.plainGet K C name=true)(hh:PySem.W.hasDictIn K C=true)
  (ha:PySem.W.findIn K (.ref C) name=some none) (hv:mA name=some v) (g9:PySem.W.handedIn v=true) (h:Q v {s with toks:=s.toks+1}) :
  wpAny (model prog w) A (getAttr (.ref x) name expr) Q E s:=by
 obtain ⟨od,J,hl⟩:=I.look;exact PySem.W.get_value X J (PySem.W.plainGet_of hg).1 (PySem.W.findObj_own hh ha rfl (by rw [hl,hv])) g9 h
theorem O6{pl:Sem Bool}{Q:Value×List Value→Shared→Prop}(X:K.In s.heap)(I:pG s.heap x dx C mA)(hg:PySem.W.plainGet K C name=true)
  (hf:PySem.W.findIn K (.ref C) name=some (some (.ref f))) (ht:PySem.W.isFn K (.ref f)=true) (hv:mA name=none) (h:Q (.ref f,[.ref x]) s) :
  wpAny (model prog w) A (getMethod (.ref x) name pl) Q E s:=by
 obtain ⟨od,J,hl⟩:=I.look;exact PySem.W.method_fn X J (PySem.W.plainGet_of hg).1 (PySem.W.plainGet_of hg).2 hf (lq.mp ht) (by show (PySem.W.lookIn name od).map (·.isSome)=some false;rw [hl,hv];rfl) h
theorem O7{ns:List Str}{Q:Unit→Shared→Prop}(X:K.In s.heap)(I:pG s.heap x dx C mA)
  (hs:PySem.W.findIn K (.ref C) "__setattr__"=some (some (.builtin "object.__setattr__"))) (hp:PySem.W.plainOver K C=true) (ht:PySem.W.takerIn K C name=some none) (hh:PySem.W.hasDictIn K C=true)
  (hw:PySem.Within mA ns) (hsz:ns.length≤sizeLine)
  (h:∀h',pG h' x dx C (fun y=>if y=name then some v else mA y)→Heap.SameBut dx s.heap h'→Q () {s with heap:=h',toks:=s.toks+2}) :
  wpAny (model prog w) A (setAttr (.ref x) name v) Q E s:=by
 obtain ⟨od,J,hl⟩:=I.look;refine PySem.W.set_plain X J hs (PySem.W.osa_open (s:={s with toks:=s.toks+1}) (r:=none) X J hp ht fun b=>?_);obtain ⟨cd,hc,C1⟩:=PySem.W.any_some hh;have hx:s.heap.get? x=some ⟨.ref C,some dx,.plain,#[]⟩:=I.obj;refine bI (dH (bI (bI (wpAny_loadPart hx (bI (PySem.W.Looks.here (s:={s with toks:=s.toks+1}) (PySem.W.looks_clsIn X hc) ?_))))));rw [C1];refine dH (a:=some dx) (bI (dH (bI ?_)));refine wpAny_nsSet1 (s:={s with toks:=s.toks+1}) I.ns fun h' sI lJ=>?_;obtain ⟨oD,esD,epD,O8,O9,O_⟩:=sI.count (PySem.Within.cons name v hw);refine bI (wpAny_lookBehind O8 (by rw [O9];exact pastItsLine_dict (bE O_ (by rw [fY];lia))) ?_)
 exact dH (h _ ⟨(lJ.2 _ (Ne.symm I.ne)).trans I.obj,sI,I.ne⟩ lJ)
theorem Pa{R:Result→Shared→Prop}{vs:List Value}{kw:List (Str×Value)}(X:K.In s.heap)(hm:PySem.W.makesIn K C=true)
  (hi:PySem.W.findIn K (.ref C) "__init__"=some (some (.ref f))) (hf:PySem.W.typeIn K (.ref f)=some (.type "function"))
  (h:codeAny (model prog w) (A.under (.builtin "type.__call__" ⟨.ref C::vs,kw⟩)) (.call (.ref f) ⟨.ref (s.heap.objs.size+1)::vs,kw⟩) (PySem.W.InitBack (s.heap.objs.size+1) R)
   {s with heap:=(s.heap.push PySem.W.emptyDict).push (PySem.W.instObj C s.heap.objs.size)}) :
  codeAny (model prog w) A (.call (.ref C) ⟨vs,kw⟩) R s:=by
 obtain ⟨hh,g,d,t,os⟩:=s;exact PySem.W.make_core (PySem.W.makes_of X hm) (y9 X hi) (fun self=>PySem.W.bind_fn X self hf) (.inl rfl) h
end
def g_(f:Str)(v:V):List (Str×V)→List (Str×V)
 | []=>[(f,v)]
 | (g,x)::r=>if g=f then (g,v)::r else (g,x)::g_ f v r
theorem Ic(f g:Str)(v:V):∀fs:List (Str×V),(g_ f v fs).lookup g=if g=f then some v else fs.lookup g
 | []=>by
  show List.lookup g [(f,v)]=_;by_cases h:g=f
  ·have hb:(g == f)=true:=lq.mpr h
   simp only [List.lookup,hb,ak h]
  ·have hb:(g == f)=false:=km.mpr h
   simp only [List.lookup,hb,aj h]
 | (k,x)::r=>by
  have ih:=Ic f g v r;rw [show g_ f v ((k,x)::r)=(if k=f then (k,v)::r else (k,x)::g_ f v r) from rfl]
  by_cases hk:k=f
  ·rw [ak hk]
   by_cases h:g=k
   ·have hb:(g == k)=true:=lq.mpr h
    simp only [List.lookup,hb,ak (h.trans hk)]
   ·have hb:(g == k)=false:=km.mpr h
    simp only [List.lookup,hb,aj (fun e:g=f=>h (e.trans hk.symm))]
  ·rw [aj hk]
   by_cases h:g=k
   ·have hb:(g == k)=true:=lq.mpr h
    simp only [List.lookup,hb,aj (fun e:g=f=>hk (h.symm.trans e))]
   ·have hb:(g == k)=false:=km.mpr h
    simp only [List.lookup,hb];exact ih
theorem Dn(f:Str)(v:V):∀fs:List (Str×V),f∈(g_ f v fs).map (·.1)∧∀g,g∈fs.map (·.1)→g∈(g_ f v fs).map (·.1)
 | []=>⟨by simp [g_],fun g h=>by simp at h⟩
 | (k,x)::r=>by
  obtain ⟨i1,i2⟩:=Dn f v r;rw [show g_ f v ((k,x)::r)=(if k=f then (k,v)::r else (k,x)::g_ f v r) from rfl]
  by_cases hk:k=f
  ·rw [ak hk]
   subst hk;exact ⟨by simp,fun g h=>by simpa using h⟩
  ·rw [aj hk]
   refine ⟨?_,fun g h=>?_⟩
   ·rw [cG]
    exact fA _ i1
   ·rw [cG] at h ⊢
    rcases c_.mp h with e | e;·exact c_.mpr (.inl e)
    ·exact fA _ (i2 g e)
theorem Ie(f:Str)(v:V):∀fs:List (Str×V),(g_ f v fs).length≤fs.length+1
 | []=>by simp [g_]
 | (k,x)::r=>by
  have ih:=Ie f v r;rw [show g_ f v ((k,x)::r)=(if k=f then (k,v)::r else (k,x)::g_ f v r) from rfl]
  by_cases hk:k=f;·rw [ak hk,fY,fY];lia
  ·rw [aj hk,fY,fY];lia
variable {v:V}
theorem jd.some_of{o:Option Value}(r:jd (some v) o):∃u,o=some u∧RelV v u:=by
 cases o with
 | none=>exact (show False from r).elim
 | some u=>exact ⟨u,rfl,r⟩
theorem jd.none_of{o:Option Value}(r:jd none o):o=none:=by
 cases o with
 | none=>rfl
 | some u=>exact (show False from r).elim
theorem Pb(r:RelV v u):PySem.W.handedIn u=true:=by
 cases v with
 | aV=>cases (show u=Value.none from r);rfl
 | bl b=>cases (show u=Value.bool b from r);rfl
 | int i=>obtain ⟨t,e⟩:=(show ∃t,u=Value.int i t from r);cases e;rfl
 | str x=>obtain ⟨t,e⟩:=(show ∃t,u=Value.str x t from r);cases e;rfl
 | jL b=>obtain ⟨t,e⟩:=(show ∃t,u=Value.bytes b t from r);cases e;rfl
 | oZ b=>obtain ⟨t,e⟩:=(show ∃t,u=Value.float b t from r);cases e;rfl
 | ref a=>cases (show u=Value.ref a from r);rfl
 | ty n=>cases (show u=Value.type n from r);rfl
section
variable {P:Program} {w:World} {H H':Hp} {h h':Heap} {a C dx:Addr} {fs C0:List (Str×V)}
theorem zM(aD:cL P w H h)(e:H a=some (.ins C dx fs)):∃mA,pG h a dx C mA∧(∀f,jd (fs.lookup f) (mA f))∧PySem.Within mA (fs.map (·.1))∧fs.length≤1000∧H dx=some (.own a):=by obtain ⟨d,z,ne,ob,mA,n,r,q⟩:=(show cQ P w H h a (.ins C dx fs) from aD a _ e);exact ⟨mA,⟨ob,n,ne⟩,r,q,z,d⟩
end
structure kM (K:aC) (C:Addr):Prop where
 pg:PySem.W.plainGet K C Str.empty=true
 hd:PySem.W.hasDictIn K C=true
 po:PySem.W.plainOver K C=true
 sa:PySem.W.findIn K (.ref C) "__setattr__"=some (some (.builtin "object.__setattr__"))
theorem kM.get{K:aC}{C:Addr}(c:kM K C)(f:Str):PySem.W.plainGet K C f=true:=c.pg
def pH(K:aC)(C:Addr)(f:Str):Prop:=PySem.W.findIn K (.ref C) f=some none
theorem pH.Pc{f:Str}(n:pH K C f):PySem.W.takerIn K C f=some none:=by unfold PySem.W.takerIn;rw [show PySem.W.findIn K (.ref C) f=some none from n];rfl
structure Meth (K:aC) (C:Addr) (m:Str) (f:Addr):Prop where
 at_:PySem.W.findIn K (.ref C) m=some (some (.ref f))
 fn:PySem.W.isFn K (.ref f)=true
 kp:PySem.W.keepIn K (.ref f)=true
section
variable {X:Cx} {pins:a9} {σ:St} {H:Hp} {s:Shared} {a C dx:Addr} {fs:List (Str×V)} {f:Str} {v:V} {A:Around} {E:aN}
variable {Q:aN}
theorem Pd{b:Bool}(I:Inv X pins σ H s)(e:H a=some (.ins C dx fs))(c:kM X.K C)(n:pH X.K C f)(l:fs.lookup f=some v)
  (h:∀u s',Inv X pins σ H s'→RelV v u→Q u s'):wpAny (model X.prog X.w) A (getAttr (.ref a) f b) Q E s:=by
 obtain ⟨mA,O,r,_,_,_⟩:=zM I.aD e;obtain ⟨u,hu,ru⟩:=jd.some_of (v:=v) (o:=mA f) (by rw [←l];exact r f)
 exact get_map I.dW O (c.get f) c.hd n hu (Pb ru) (h u _ (I.tok _) ru)
theorem Ig{m:Str}{g:Addr}{pl:Sem Bool}{Q:Value×List Value→Shared→Prop}(I:Inv X pins σ H s)(e:H a=some (.ins C dx fs))(c:kM X.K C)(k:Meth X.K C m g)(l:fs.lookup m=none)
  (h:Q (.ref g,[.ref a]) s):wpAny (model X.prog X.w) A (getMethod (.ref a) m pl) Q E s:=by
 obtain ⟨mA,O,r,_,_,_⟩:=zM I.aD e;have hn:mA m=none:=jd.none_of (by rw [←l];exact r m)
 exact O6 I.dW O (c.get m) k.at_ k.fn hn h
theorem Pe{y:V}{Q:Unit→Shared→Prop}(I:Inv X pins σ H s)(e:H a=some (.ins C dx fs))(c:kM X.K C)(n:pH X.K C f)(hl:fs.length<1000)(ry:RelV y u)
  (h:∀s',Inv X pins σ (upd H a (.ins C dx (g_ f y fs))) s'→Q () s'):wpAny (model X.prog X.w) A (setAttr (.ref a) f u) Q E s:=by
 obtain ⟨mA,O,r,wi,_,ho⟩:=zM I.aD e;have hz:(fs.map (·.1)).length≤sizeLine:=by rw [aJ,sizeLine_eq];lia
 refine O7 I.dW O c.sa c.po n.Pc c.hd wi hz fun h' O' sb=>h _ ?_;have hd:∃o,h'.get? dx=some o:=let ⟨o,_,_,e',_⟩:=O'.ns;⟨o,e'⟩
 refine I.write (x:=a) (e:=dx) (by rw [e];exact True.intro) (.inr ho) (fun b q hb z=>(sb.2 b hb).trans z) hd ?_
 refine ⟨by rw [aK O.ne];exact ho,?_,O.ne,O'.obj,_,O'.ns,fun g=>?_,fun g hg=>?_⟩
 ·have:=Ie f y fs;lia
 ·show jd ((g_ f y fs).lookup g) (if g=f then some u else mA g)
  rw [Ic];by_cases q:g=f;·rw [ak q,ak q];exact ry
  ·rw [aj q,aj q];exact r g
 ·by_cases q:g=f
  ·rw [q];exact (Dn f y fs).1
  ·refine (Dn f y fs).2 g (wi g fun z=>hg ?_)
   show (if g=f then some u else mA g)=none
   rw [aj q];exact z
theorem Inv.made(I:Inv X pins σ H s):Inv X pins σ (upd (upd H s.heap.objs.size (.own (s.heap.objs.size+1))) (s.heap.objs.size+1) (.ins C s.heap.objs.size []))
  {s with heap:=(s.heap.push PySem.W.emptyDict).push (PySem.W.instObj C s.heap.objs.size)}:=by
 have e1:(s.heap.push PySem.W.emptyDict).get? s.heap.objs.size=some PySem.W.emptyDict:=eX s.heap rfl;have e2:((s.heap.push PySem.W.emptyDict).push (PySem.W.instObj C s.heap.objs.size)).get? (s.heap.objs.size+1)=some (PySem.W.instObj C s.heap.objs.size):=by
  have:=eX (s.heap.push PySem.W.emptyDict) (o:=PySem.W.instObj C s.heap.objs.size) rfl
  rwa [wG] at this
 have e3:(s.heap.push PySem.W.emptyDict).Ns s.heap.objs.size (fun _=>none):=⟨PySem.W.emptyDict,#[],_,e1,rfl,(fun e he=>absurd he (by simp)),fun _=>rfl⟩
 have I1:=I.laid (a:=s.heap.objs.size) (o:=.own (s.heap.objs.size+1)) (h':=s.heap.push PySem.W.emptyDict) (t':=s.toks) (fun b u q=>cF _ q) (aG _) ⟨_,e1⟩;refine I1.laid (a:=s.heap.objs.size+1) (o:=.ins C s.heap.objs.size []) (t':=s.toks) (fun b u q=>cF _ q) (Nat.le_of_eq (wG _ _)) ?_;have ne:s.heap.objs.size≠s.heap.objs.size+1:=dC (wH _);refine ⟨by rw [aK ne,aA],b_ _,ne,e2,fun _=>none,(Heap.Ns1.of_empty e3).at fun o q=>cF _ q,fun _=>True.intro,fun y hy=>absurd rfl hy⟩
theorem Pf{prog:Program}{env:Env}{e:Expr}{pos:Pos}(hb:attributeBase e f env (eval e env)=eval e env)
  (h:wpAny (model prog w) A (eval e env) (fun o s₁=>wpAny (model prog w) A (getAttr o f true) Q E s₁) E s):wpAny (model prog w) A (eval (.Attribute e f pos) env) Q E s:=
 Attribute_any_ h (by rw [arm_eval_Attribute,hb])
end
def Pg(K:aC)(ta:TE)(f:Str):TE:=fun σ H Q=>ta σ H fun x H1=>∃a C dx fs v,x=.ref a∧H1 a=some (.ins C dx fs)∧kM K C∧pH K C f∧fs.lookup f=some v∧Q v H1
def Ph(K:aC)(ta tv:TE)(f:Str):TS:=fun D σ H=>tv σ H fun y H1=>ta σ H1 fun x H2=>∃a C dx fs,x=.ref a∧H2 a=some (.ins C dx fs)∧kM K C∧pH K C f∧fs.length<1000 ∧
 D.nx σ (upd H2 a (.ins C dx (g_ f y fs)))
section
variable {X:Cx} {o e value:Expr} {f:Str} {pos pos' zN:Pos} {ta tv:TE}
theorem lM(he:PE X e ta)(hb:attributeBase e f X.env (eval e X.env)=eval e X.env):PE X (.Attribute e f pos) (Pg X.K ta f):=by intro pins s σ H Q I h;refine Pf hb (aR (he pins s σ H _ I h) fun u s1 ⟨x,H1,I1,rx,a,C,dx,fs,v,ex,ea,c,n,l,q⟩=>?_);subst ex;obtain rfl:u=Value.ref a:=rx;exact Pd I1 ea c n l fun u' s2 I2 ru=>⟨v,H1,I2,ru,q⟩
theorem Ih(ha:PE X o ta)(hv:PE X value tv)(hs:swapsWith value (some (.Attribute o f pos')) pos.line X.env=pure false):PS X (.Assign [.Attribute o f pos'] value pos) (Ph X.K ta tv f):=by intro pins s σ H D I h;refine plainObj_wpAny_Assign_Attribute (aR (hv pins s σ H _ I h) fun u s1 ⟨y,H1,I1,ry,q⟩=>aR (ha pins s1 σ H1 _ I1 q) fun ov s2 ⟨x,H2,I2,rx,a,C,dx,fs,ex,ea,c,n,l,q2⟩=>?_) hs;subst ex;obtain rfl:ov=Value.ref a:=rx;exact Pe I2 ea c n l ry fun s3 I3=>⟨σ,_,I3,q2⟩
theorem aeo{pl:Sem Bool}{m:Str}{apos:Pos}{args:List Expr}{pins:a9}{Q:aN}{te:TE}(he:PE X e te)(I:Inv X pins σ H s)
  (h:te σ H fun x H1=>∃a C dx fs g,x=.ref a∧H1 a=some (.ins C dx fs)∧kM X.K C∧Meth X.K C m g∧fs.lookup m=none ∧
   ∀s1,Inv X pins σ H1 s1→wpAny (model X.prog X.w) X.A (callWith pos (.ref g) [.ref a] (backTo pos (starEach args X.env)) (backToKw pos (keywordEach [] X.env))) Q X.xe s1)
  (ht:eval (.Call (.Attribute e m apos) args [] pos) X.env=(do
   let ov ←eval e X.env
   standAt apos.atName
   let (f,first) ←holding [ov] (getMethod ov m pl)
   callWith pos f first (backTo pos (starEach args X.env)) (backToKw pos (keywordEach [] X.env)))) :
  wpAny (model X.prog X.w) X.A (eval (.Call (.Attribute e m apos) args [] pos) X.env) Q X.xe s:=by
 refine PySem.W.methodCall_KW (pl:=pl) (aR (he pins s σ H _ I h) fun u s1 ⟨x,H1,I1,rx,a,C,dx,fs,g,ex,ea,c,k,l,q⟩=>?_) ht
 subst ex
 obtain rfl:u=Value.ref a:=rx
 exact Ig I1 ea c k l (q s1 I1)
end
section
variable {X:Cx} {pins:a9} {σ:St} {H:Hp} {s:Shared} {A:Around} {E:aN} {Q:aN} {c:Value} {b:Bool}
inductive jn (K:aC) (H:Hp):V→Value→Prop where
 | aV:jn K H .aV (.type "NoneType")
 | bl (x:Bool):jn K H (.bl x) (.type "bool")
 | int (i:Int):jn K H (.int i) (.type "int")
 | str (x:Str):jn K H (.str x) (.type "str")
 | oZ (x:UInt64):jn K H (.oZ x) (.type "float")
 | lst {a:Addr} {xs:List V} (e:H a=some (.lst xs)):jn K H (.ref a) (.type "list")
 | cP {a:Addr} {o:Obj} {xs:List V} (e:H a=some (.cP o (.lst xs))):jn K H (.ref a) (.type "list")
 | tup {a:Addr} {xs:List V} (e:H a=some (.tup xs)):jn K H (.ref a) (.type "tuple")
 | dK {a:Addr} {aw:List (Key×V)} (e:H a=some (.dK aw)):jn K H (.ref a) (.type "dict")
 | dT {a:Addr} {aw:List (List Key×V)} (e:H a=some (.dT aw)):jn K H (.ref a) (.type "dict")
 | ins {a C dx:Addr} {fs:List (Str×V)} (e:H a=some (.ins C dx fs)) (cl:kM K C) (ha:PySem.W.findIn K (.ref C) "__class__"=some (some (.builtin "object.__class__")))
   (hn:PySem.W.specialIn K (.builtin "object.__class__") "__get__"=some (some (.builtin "getset_descriptor.__get__"))) (Ii:PySem.W.takesIn K (.builtin "object.__class__")=some true)
   (hm:PySem.W.mroIn K C (.type "object")=some true):jn K H (.ref a) (.ref C)
theorem Pj{t:Value}(I:Inv X pins σ H s)(rx:RelV x u)(ty:jn X.K H x t)(e:PySem.W.kitOne X.K t c=some b)(h:∀tk,Q (.bool b) {s with toks:=tk}) :
  wpAny (model X.prog X.w) A (call (.builtin "isinstance") [u,c]) Q E s:=by
 cases ty with
 | aV=>cases (show u=Value.none from rx);exact i9 PySem.W.kitx_none I.dW True.intro e (fun z=>nomatch z) h
 | bl y=>cases (show u=Value.bool y from rx);exact i9 PySem.W.kitx_bool I.dW True.intro e (fun z=>nomatch z) h
 | int i=>obtain ⟨t,q⟩:=(show ∃t,u=Value.int i t from rx);cases q;exact i9 PySem.W.kitx_int I.dW True.intro e (fun z=>nomatch z) h
 | str y=>obtain ⟨t,q⟩:=(show ∃t,u=Value.str y t from rx);cases q;exact i9 PySem.W.kitx_str I.dW True.intro e (fun z=>nomatch z) h
 | oZ y=>obtain ⟨t,q⟩:=(show ∃t,u=Value.float y t from rx);cases q;exact i9 PySem.W.kitx_float I.dW True.intro e (fun z=>nomatch z) h
 | @lst a xs ea=>cases (show u=Value.ref a from rx);obtain ⟨_,_,n,_,h1⟩:=(show cQ X.prog X.w H s.heap a (.lst xs) from I.aD a _ ea);exact i9 PySem.W.kitx_list I.dW ⟨_,h1,rfl⟩ e (fun z=>nomatch z) h
 | @cP a ob xs ea=>cases (show u=Value.ref a from rx);obtain ⟨_,_,_,n,_,h1⟩:=(show cQ X.prog X.w H s.heap a (.cP ob (.lst xs)) from I.aD a _ ea);exact i9 PySem.W.kitx_list I.dW ⟨_,h1,rfl⟩ e (fun z=>nomatch z) h
 | @tup a xs ea=>cases (show u=Value.ref a from rx);obtain ⟨_,_,_,p⟩:=(show cQ X.prog X.w H s.heap a (.tup xs) from I.aD a _ ea);obtain ⟨o,h1,h2,_⟩:=p;exact i9 PySem.W.kitx_tuple I.dW ⟨o,h1,h2⟩ e (fun z=>nomatch z) h
 | @dK a aw ea=>cases (show u=Value.ref a from rx);obtain ⟨_,_,vs,_,p⟩:=(show cQ X.prog X.w H s.heap a (.dK aw) from I.aD a _ ea);obtain ⟨o,es,ep,h1,h2,_⟩:=p;exact i9 PySem.W.kitx_dict I.dW ⟨o,h1,h2.1⟩ e (fun z=>nomatch z) h
 | @dT a aw ea=>cases (show u=Value.ref a from rx);obtain ⟨_,_,xs,_,o,es,ep,h1,h2,_⟩:=(show cQ X.prog X.w H s.heap a (.dT aw) from I.aD a _ ea);exact i9 PySem.W.kitx_dict I.dW ⟨o,h1,h2.1⟩ e (fun z=>nomatch z) h
 | @ins a C dx fs ea cl ha hn Ii hm=>cases (show u=Value.ref a from rx);obtain ⟨mA,O,_⟩:=zM I.aD ea;obtain ⟨od,J,_⟩:=O.look;exact i9 (PySem.W.kitx_own (cl.get _) cl.hd ha hn Ii hm) I.dW J e (fun z=>nomatch z) h
end
structure dr (k:Nat) (A:Around):Prop where
 hd:A.handled=none
 dp:A.depth+3*k+5<recursionLimit
 un:A.units+16*k+200<cLine
variable {k:Nat}
theorem dr.mono{j:Nat}(r:dr k A)(h:j≤k):dr j A:=⟨r.hd,by have:=r.dp;lia,by have:=r.un;lia⟩
theorem dr.deeper(r:dr (k+1) A)(env:Env):dr k (A.deeper env):=
 ⟨r.hd,by have:=r.dp;show A.depth+1+3*k+5<_;lia,by have:=r.un;show A.units+3+16*k+200<_;lia⟩
variable {kw:List (Str×Value)}
theorem Pk:(A.under (.builtin "type.__call__" ⟨.ref C::us,kw⟩)).depth=A.depth+1:=by first | rfl | simp [Around.under,Code.weight,Code.isCreation,Code.isGuard,Code.isCaller,Code.frames,Code.isFrame,guardIds]
theorem Pl:(A.under (.builtin "type.__call__" ⟨.ref C::us,kw⟩)).units=A.units+1:=by first | rfl | simp [Around.under,Code.cUnits,Code.frames,Code.isFrame]
theorem dr.make(r:dr (k+1) A)(C:Addr)(us:List Value)(kw:List (Str×Value)):dr k (A.under (.builtin "type.__call__" ⟨.ref C::us,kw⟩)):=
 ⟨r.hd,by have:=r.dp;rw [Pk];lia,by have:=r.un;rw [Pl];lia⟩
theorem dr.depth(r:dr k A):A.depth<recursionLimit:=by have:=r.dp;lia
theorem dr.units(r:dr k A):A.units+64<cLine:=by have:=r.un;lia
theorem dr.zO(r:dr k A):A.units<cLine:=by have:=r.un;lia
def gg:TA:=fun _ H Q=>Q [] H
def iX(ta:TE)(tr:TA):TA:=fun σ H Q=>ta σ H fun x H1=>tr σ H1 fun xs H2=>Q (x::xs) H2
section
variable {X:Cx} {e:Expr} {es:List Expr} {te:TE} {t:TA} {pos:Pos}
theorem ae:PA X [] gg:=fun _ _ _ _ H Q I h=>Calls.spliced_nil ⟨[],H,I,.nil,h⟩
theorem Pm(ha:PE X e te)(hr:PA X es t)(hs:starEach (e::es) X.env=(false,eval e X.env)::starEach es X.env:=by rfl):PA X (e::es) (iX te t):=by intro pos pins s σ H Q I h;rw [hs];show wpAny _ _ (spliced ((false,eval e X.env)::backTo pos (starEach es X.env))) _ _ s;refine Calls.spliced_cons (aR (ha pins s σ H _ I h) fun u s1 ⟨x,H1,I1,r1,q1⟩=>?_);exact aR (hr pos pins s1 σ H1 _ I1 q1) fun us s2 ⟨xs,H2,I2,r2,q2⟩=>⟨x::xs,H2,I2,.cons r1 r2,q2⟩
def Pn(t:TA):TE:=fun σ H Q=>t σ H fun xs H1=>xs.length≤sizeLine∧∀p,H1 p=none→Q (.ref p) (upd H1 p (.tup xs))
def Po(t:TA):TE:=fun σ H Q=>t σ H fun xs H1=>xs.length≤sizeLine∧∀p,H1 p=none→Q (.ref p) (upd H1 p (.lst xs))
theorem eO{x1}(h:PA X es t):PE X (.Tuple es x1 pos) (Pn t):=by
 intro pins s σ H Q I hq;refine wpAny_Tuple_spliced (aR (h pos pins s σ H _ I hq) fun us s1 ⟨xs,H1,I1,r,z,q⟩=>⟨by rw [←r.length];exact z,?_⟩)
 have hf:H1 s1.heap.objs.size=none:=I1.aD.fresh (aG _);refine ⟨.ref s1.heap.objs.size,upd H1 s1.heap.objs.size (.tup xs),I1.laid (t':=s1.toks) (fun b u e=>cF _ e) (aG _) ?_,rfl,q _ hf⟩;exact ⟨z,us,r,⟨_,eX _ rfl,rfl,_,rfl⟩⟩
theorem gA(h:PA X es t):PE X (.List es pos) (Po t):=by
 intro pins s σ H Q I hq;refine wpAny_List_spliced (aR (h pos pins s σ H _ I hq) fun us s1 ⟨xs,H1,I1,r,z,q⟩=>⟨by rw [←r.length];exact z,?_⟩)
 have hf:H1 s1.heap.objs.size=none:=I1.aD.fresh (aG _);refine ⟨.ref s1.heap.objs.size,upd H1 s1.heap.objs.size (.lst xs),I1.laid (t':=s1.toks) (fun b u e=>cF _ e) (aG _) ?_,rfl,q _ hf⟩;exact ⟨z,us,0,r,eX _ rfl⟩
end
abbrev Sp:=List V→Hp→VK→XK→Prop
abbrev iz:=List Env→Hp→Shared→XK→Value→Shared→Prop
structure pI (P:Program) (w:World) (K:aC) (mg:dq) (base:Heap) (A:Around) (outer:List Env) (s:Shared) (H:Hp):Prop where
 frames:A.frames=some outer
 mod:Mod K mg base
 bs:∀b o,base.get? b=some o→s.heap.get? b=some o∧H b=none
 jg:base.objs.size≤s.heap.objs.size
 jM:s.heap.FunFrames base outer
 mC:∀b∈cV outer,H b=none
 aD:cL P w H s.heap
 bare:AllBare s.gens
def CE(outer:List Env)(P:Program)(w:World)(H:Hp)(s:Shared)(Q:VK)(u:Value)(s':Shared):Prop:=
 ∃v H',s'.os=s.os∧AllBare s'.gens∧Un (cV outer) [] H H' s.heap s'.heap∧cL P w H' s'.heap∧RelV v u∧Q v H'
def CR(CX:iz)(outer:List Env)(P:Program)(w:World)(H:Hp)(s:Shared)(Q:VK)(E:XK)(r:Result)(s':Shared):Prop:=
 match r with
 | .ok (.ret u)=>CE outer P w H s Q u s'
 | .ok _=>False
 | .error e=>CX outer H s E e s'
structure bh (P:Program) (w:World) (K:aC) (mg:dq) (base:Heap) (CX:iz) (k:Nat) (f:Addr) (fd:FuncData) (ps:List Str) (sp:Sp):Prop where
 len:∀vs H Q E,sp vs H Q E→vs.length=ps.length
 run:∀(A:Around) (outer:List Env) (s:Shared) (H:Hp) (args:Args) (us:List Value) (vs:List V) (Q:VK) (E:XK),dr k A→pI P w K mg base A outer s H→BindsTo s fd args (ps.zip us)→Vals vs us→sp vs H Q E→
  codeAny (model P w) A (.call (.ref f) args) (CR CX outer P w H s Q E) s
variable {mg:dq} {base:Heap} {outer:List Env}
theorem pI.make(e:pI P w K mg base A outer s H)(C:Addr)(us:List Value)(kw:List (Str×Value)) :
  pI P w K mg base (A.under (.builtin "type.__call__" ⟨.ref C::us,kw⟩)) outer s H:=⟨by first | exact e.frames | (simpa [Around.under,Code.envs,Code.isFrame,pushEnvs] using e.frames),e.mod,e.bs,e.jg,e.jM,e.mC,e.aD,e.bare⟩
section
variable {X:Cx} {pins:a9} {σ:St} {H:Hp} {s s':Shared}
theorem Inv.Ij(I:Inv X pins σ H s):pI X.prog X.w X.K X.mg X.base X.A X.stack s H:=
 ⟨I.ok.frames,I.ok.mod,I.bs,bE I.ok.jg I.sz,I.stack,I.xg,I.aD,I.bare⟩
theorem Inv.after{Q:VK}(I:Inv X pins σ H s)(h:CE X.stack X.prog X.w H s Q u s'):EP X pins σ Q u s':=by obtain ⟨v,H',os,bare,un,aD,r,q⟩:=h;obtain ⟨hh,g,d,t,Pp⟩:=s';obtain rfl:Pp=s.os:=os;exact ⟨v,H',I.call (h':=hh) (g':=g) (d':=d) (t':=t) (ch:=[]) un aD bare (fun b z=>absurd z (by simp)),r,q⟩
end
def Dp(sp:Sp)(fF:List V)(E:XK)(t:TA):TE:=fun σ H Q=>t σ H fun vs H1=>sp (vs++fF) H1 Q E
def Pq(C:Addr)(m:Str)(sp:Sp)(fF:List V)(E:XK)(ta:TE)(t:TA):TE:=fun σ H Q=>ta σ H fun x H1=>∃a dx fs,x=.ref a∧H1 a=some (.ins C dx fs)∧fs.lookup m=none ∧
 t σ H1 fun vs H2=>sp (x::(vs++fF)) H2 Q E
def Pt(C:Addr)(sp:Sp)(fF:List V)(E:XK)(t:TA):TE:=fun σ H Q=>t σ H fun vs H1=>∀x dx,H1 x=none→H1 dx=none→dx≠x→
 sp (.ref x::(vs++fF)) (upd (upd H1 dx (.own x)) x (.ins C dx [])) (fun v H2=>v=.aV∧Q (.ref x) H2) E
def Binds(K:aC)(fd:FuncData)(ps:List Str)(ds:List Value):Prop:=
 ∀(s:Shared) (us:List Value),K.In s.heap→(us++ds).length=ps.length→BindsTo s fd ⟨us,[]⟩ (ps.zip (us++ds))
variable {ps:List Str}
theorem Binds.all{fd:FuncData}(h:∀us:List Value,us.length=ps.length→bindArgs fd ⟨us,[]⟩=pure (ps.zip us)):Binds K fd ps []:=fun s us _ hl=>by rw [lz] at hl ⊢;exact .of_eq (h us hl)
def Passes(CX:iz)(X:Cx)(E:XK):Prop:=∀(pins:a9) (σ:St) (H:Hp) (s:Shared) (e:Value) (s':Shared),Inv X pins σ H s→CX X.stack H s E e s'→X.xe e s'
section
variable {X:Cx} {CX:iz} {k:Nat} {f C:Addr} {fd:FuncData} {ps:List Str} {sp:Sp} {fF:List V} {ds:List Value} {E:XK} {x m:Str} {p pos apos:Pos} {e o:Expr} {es:List Expr} {ta:TE} {t:TA}
variable {pins:a9} {Q:VK}
theorem Ik{vs:List V}(F:bh X.prog X.w X.K X.mg X.base CX k f fd ps sp)(hr:dr k X.A)(hb:Binds X.K fd ps ds)(hd:Vals fF ds)(hx:Passes CX X E)
  (I:Inv X pins σ H s) (r:Vals vs us) (h:sp (vs++fF) H Q E):wpAny (model X.prog X.w) X.A (call (.ref f) us) (EP X pins σ Q) X.xe s:=by
 have r2:Vals (vs++fF) (us++ds):=r.append hd;have hl:(us++ds).length=ps.length:=by rw [←r2.length];exact F.len _ _ _ _ h
 refine wpAny_call (codeAny_mono (F.run X.A X.stack s H ⟨us,[]⟩ (us++ds) (vs++fF) Q E hr I.Ij (hb s us I.dW hl) r2 h) fun r s' hq=>?_);cases r with
 | error e=>exact hx pins σ H s e s' I hq
 | ok fl=>
  cases fl with
  | ret u=>exact I.after hq
  | next=>exact False.elim hq
  | brk=>exact False.elim hq
  | cont=>exact False.elim hq
theorem Dq(F:bh X.prog X.w X.K X.mg X.base CX k f fd ps sp)(hr:dr k X.A)(hg:Gl X x)(hm:X.mg x=some (.ref f))(hk:PySem.W.keepIn X.K (.ref f)=true)(hb:Binds X.K fd ps ds)(hd:Vals fF ds)(hx:Passes CX X E)
  (ha:PA X (e::es) t) (mG:(x == ("__debug__":Str))=false:=by decide) (he:starEach (e::es) X.env=(false,eval e X.env)::starEach es X.env:=by rfl) (jO:(backTo pos (starEach es X.env)).any (·.1)=false:=by rfl) :
  PE X (.Call (.Name x p) (e::es) [] pos) (Dp sp fF E t):=by
 intro pins s σ H Q I h;refine y_ (zB I hg hm ?_ mG);refine PySem.W.callWith_K (h₀:=X.base) I.ok.mod.df hk (aR (ha pos pins s σ H _ I h) fun us s1 ⟨vs,H1,I1,r,q⟩=>⟨I1.dW,?_⟩) he jO;exact Ik F hr hb hd hx I1 r q
theorem aI{j:Nat}(F:bh X.prog X.w X.K X.mg X.base CX k f fd ps sp)(hr:dr j X.A)(hm:X.mg x=some (.ref f))(hk:PySem.W.keepIn X.K (.ref f)=true)(hb:Binds X.K fd ps [])(hx:Passes CX X E)
  (ha:PA X (e::es) t) (hj:k≤j:=by decide) (hg:Gl X x:=by exact rfl) (mG:(x == ("__debug__":Str))=false:=by decide) (he:starEach (e::es) X.env=(false,eval e X.env)::starEach es X.env:=by rfl) (jO:(backTo pos (starEach es X.env)).any (·.1)=false:=by rfl) :
  PE X (.Call (.Name x p) (e::es) [] pos) (Dp sp [] E t):=Dq F (hr.mono hj) hg hm hk hb .nil hx ha mG he jO
theorem jP{pl:Sem Bool}(he:PE X o ta)(c:kM X.K C)(hm:Meth X.K C m f)(F:bh X.prog X.w X.K X.mg X.base CX k f fd ps sp)(hr:dr k X.A)(hb:Binds X.K fd ps ds)(hd:Vals fF ds)(hx:Passes CX X E)(ha:PA X (e::es) t)
  (Dc:starEach (e::es) X.env=(false,eval e X.env)::starEach es X.env:=by rfl) (jO:(backTo pos (starEach es X.env)).any (·.1)=false:=by rfl)
  (ht:eval (.Call (.Attribute o m apos) (e::es) [] pos) X.env=(do
   let ov ←eval o X.env
   standAt apos.atName
   let (f,first) ←holding [ov] (getMethod ov m pl)
   callWith pos f first (backTo pos (starEach (e::es) X.env)) (backToKw pos (keywordEach [] X.env))):=by rfl) :
  PE X (.Call (.Attribute o m apos) (e::es) [] pos) (Pq C m sp fF E ta t):=by
 intro pins s σ H Q I h
 refine PySem.W.methodCall_KW (pl:=pl) (aR (he pins s σ H _ I h) fun u s1 ⟨x,H1,I1,rx,a,dx,fs,ex,ea,l,q⟩=>?_) ht
 subst ex
 obtain rfl:u=Value.ref a:=rx
 refine Ig I1 ea c hm l ?_
 refine PySem.W.callWith_K (first:=[.ref a]) (h₀:=X.base) I.ok.mod.df hm.kp (aR (ha pos pins s1 σ H1 _ I1 q) fun us s2 ⟨vs,H2,I2,r,q2⟩=>⟨I2.dW,?_⟩) Dc jO
 exact Ik (us:=.ref a::us) (vs:=.ref a::vs) F hr hb hd hx I2 (.cons rfl r) q2
structure Mk (K:aC) (C f:Addr):Prop where
 makes:PySem.W.makesIn K C=true
 init:PySem.W.findIn K (.ref C) "__init__"=some (some (.ref f))
 fn:PySem.W.isFn K (.ref f)=true
 kp:PySem.W.keepIn K (.ref C)=true
theorem Pu{vs:List V}(M:Mk X.K C f)(F:bh X.prog X.w X.K X.mg X.base CX k f fd ps sp)(hr:dr (k+1) X.A)(hb:Binds X.K fd ps ds)(hd:Vals fF ds)
  (hx:Passes CX X E) (I:Inv X pins σ H s) (r:Vals vs us)
  (h:∀x dx,H x=none→H dx=none→dx≠x→sp (.ref x::(vs++fF)) (upd (upd H dx (.own x)) x (.ins C dx [])) (fun v H2=>v=.aV∧Q (.ref x) H2) E) :
  wpAny (model X.prog X.w) X.A (call (.ref C) us) (EP X pins σ Q) X.xe s:=by
 have hq:=h (s.heap.objs.size+1) s.heap.objs.size (I.aD.fresh (ko _)) (I.aD.fresh (aG _)) (dC (wH _));have I2:=Inv.made (C:=C) I;have r2:Vals (V.ref (s.heap.objs.size+1)::(vs++fF)) (Value.ref (s.heap.objs.size+1)::(us++ds)):=.cons rfl (r.append hd);have hl:(Value.ref (s.heap.objs.size+1)::us++ds).length=ps.length:=by have e:=r2.length;rw [F.len _ _ _ _ hq] at e;exact e.symm
 refine wpAny_call (Pa (f:=f) I.dW M.makes M.init (lq.mp M.fn) (codeAny_mono (F.run _ X.stack _ _ ⟨Value.ref (s.heap.objs.size+1)::us,[]⟩ (Value.ref (s.heap.objs.size+1)::(us++ds)) _ _ E (hr.make C us [])
  (I2.Ij.make C us []) (hb _ (Value.ref (s.heap.objs.size+1)::us) I2.dW hl) r2 hq) fun r s' fG=>?_))
 cases r with
 | error e=>exact hx pins σ _ _ e s' I2 fG
 | ok fl=>
  cases fl with
  | ret u=>obtain ⟨v,H',I3,rv,ev,q3⟩:=I2.after fG;subst ev;exact ⟨rv,⟨V.ref (s.heap.objs.size+1),H',I3,rfl,q3⟩⟩
  | next=>exact False.elim fG
  | brk=>exact False.elim fG
  | cont=>exact False.elim fG
theorem Pw(M:Mk X.K C f)(F:bh X.prog X.w X.K X.mg X.base CX k f fd ps sp)(hr:dr (k+1) X.A)(hg:Gl X x)(hm:X.mg x=some (.ref C))(hb:Binds X.K fd ps ds)(hd:Vals fF ds)(hx:Passes CX X E)
  (ha:PA X (e::es) t) (mG:(x == ("__debug__":Str))=false:=by decide) (he:starEach (e::es) X.env=(false,eval e X.env)::starEach es X.env:=by rfl) (jO:(backTo pos (starEach es X.env)).any (·.1)=false:=by rfl) :
  PE X (.Call (.Name x p) (e::es) [] pos) (Pt C sp fF E t):=by
 intro pins s σ H Q I h;refine y_ (zB I hg hm ?_ mG);refine PySem.W.callWith_K (h₀:=X.base) I.ok.mod.df M.kp (aR (ha pos pins s σ H _ I h) fun us s1 ⟨vs,H1,I1,r,q⟩=>⟨I1.dW,?_⟩) he jO;exact Pu M F hr hb hd hx I1 r q
end
section
variable {X:Cx} {CX:iz} {k:Nat} {f C:Addr} {fd:FuncData} {ps ks:List Str} {sp:Sp} {E:XK} {x m:Str} {p pos apos Il:Pos} {e o:Expr} {es:List Expr} {Px:List Keyword} {te ta:TE} {t tk:TA} {nm:Option Str}
variable {g:List Value→List Value→List Value} {gV:List V→List V→List V}
end
structure bD (N P:List Str) (sc:Scope):Prop where
 kind:sc.kind=.function
 co:sc.isCoroutine=false
 gen:sc.isGenerator=false
 nd:N.Nodup
 pre:N.take P.length=P
 par:∀x∈P,sc.names.lookup x=some .local∨sc.names.lookup x=some .cell
 Py:∀y∈sc.names,y.2≠.free
variable {N:List Str} {sc:Scope}
theorem bM{P:List Str}(h1:sc.kind=.function:=by rfl)(h2:sc.isCoroutine=false:=by rfl)(h3:sc.isGenerator=false:=by rfl)(h4:N.Nodup:=by decide +kernel)(h5:N.take P.length=P:=by rfl)(h6:∀x∈P,sc.names.lookup x=some .local∨sc.names.lookup x=some .cell:=by decide +kernel)(h7:∀y∈sc.names,y.2≠.free:=by decide +kernel):bD N P sc:=⟨h1,h2,h3,h4,h5,h6,h7⟩
theorem Im{kindOf:Str→Option NameKind}{x:Str}:∀{binds:List (Str×Value)} {m:dq},(∀v,(x,v)∉binds)→bindL kindOf binds m x=m x
 | [],_,_=>rfl
 | (n,v)::r,m,h=>by
  unfold bindL;rw [Im fun w hw=>h w (fA _ hw)]
  split
  ·have:x≠n:=by rintro rfl;exact h v hZ
   simp [this]
  ·rfl
theorem Io{kindOf:Str→Option NameKind}{x:Str}:∀{binds:List (Str×Value)} {m:dq},(∀v,(x,v)∉binds)→bindC kindOf binds m x=m x
 | [],_,_=>rfl
 | (n,v)::r,m,h=>by
  unfold bindC;rw [Io fun w hw=>h w (fA _ hw)]
  split
  ·rfl
  ·have:x≠n:=by rintro rfl;exact h v hZ
   simp [this]
theorem Ip{kindOf:Str→Option NameKind}{x:Str}{v:Value}:∀{P:List Str} {vs:List Value} {i:Nat} {m:dq},P.Nodup→P[i]?=some x→vs[i]?=some v→kindOf x=some .local→
  bindL kindOf (P.zip vs) m x=some v
 | [],_,_,_,_,h,_,_=>by simp at h
 | _::_,[],_,_,_,_,h,_=>by simp at h
 | p::P,w::vs,0,m,nd,h1,h2,hk=>by simp at h1 h2;subst h1;subst h2;show bindL kindOf ((p,w)::P.zip vs) m p=_;unfold bindL;rw [Im fun v hv=>(jG.mp nd).1 (List.of_mem_zip hv).1,ak hk];simp
 | p::P,w::vs,i+1,m,nd,h1,h2,hk=>by show bindL kindOf ((p,w)::P.zip vs) m x=_;unfold bindL;exact Ip (i:=i) (jG.mp nd).2 (by simpa using h1) (by simpa using h2) hk
theorem Iq{kindOf:Str→Option NameKind}{x:Str}{v:Value}:∀{P:List Str} {vs:List Value} {i:Nat} {m:dq},P.Nodup→P[i]?=some x→vs[i]?=some v→kindOf x≠some .local→
  bindC kindOf (P.zip vs) m x=some v
 | [],_,_,_,_,h,_,_=>by simp at h
 | _::_,[],_,_,_,_,h,_=>by simp at h
 | p::P,w::vs,0,m,nd,h1,h2,hk=>by simp at h1 h2;subst h1;subst h2;show bindC kindOf ((p,w)::P.zip vs) m p=_;unfold bindC;rw [Io fun v hv=>(jG.mp nd).1 (List.of_mem_zip hv).1,aj hk];simp
 | p::P,w::vs,i+1,m,nd,h1,h2,hk=>by show bindC kindOf ((p,w)::P.zip vs) m x=_;unfold bindC;exact Iq (i:=i) (jG.mp nd).2 (by simpa using h1) (by simpa using h2) hk
def start(N:List Str)(vs:List V):St:=vs.map some++List.replicate (N.length-vs.length) none
def jo(CX:iz)(P:Program)(w:World)(K:aC)(mg:dq)(base:Heap)(N:List Str)(qual:Str)(scope:Scope)(f:Addr)(cd:Value)(A:Around)(outer:List Env)(s:Shared)(H:Hp)(E:XK):Cx where
 prog:=P
 w:=w
 K:=K
 mg:=mg
 base:=base
 A:=A.deeper (envOfC qual scope s.heap.objs.size f cd)
 N:=N
 s₀:=s
 H₀:=H
 env:=envOfC qual scope s.heap.objs.size f cd
 outer:=outer
 stack:=envOfC qual scope s.heap.objs.size f cd::outer
 ex:=[]
 calm:=true
 fn:=fun _=>true
 pn:=[]
 xe:=fun e s'=>wpAny (model P w) (A.deeper (envOfC qual scope s.heap.objs.size f cd)) (leaving (envOfC qual scope s.heap.objs.size f cd) e) (fun _ hE=>CX outer H s E e hE) (fun e' hE=>CX outer H s E e' hE) s'
theorem Ir{x:Str}(h:sc.names.lookup x=some .cell):∃c,(cellsFrom n sc.names []).lookup x=some c:=by have q:=PySem.W.cellsFrom_some sc.names n [] (.inl h);exact CH.mp q
variable {CX:iz} {qual:Str} {scope:Scope} {f:Addr}
theorem Pz{cd:Value}{s1:Shared}{E:XK}{vs:List V}
  (S:bD N ps scope) (hd:A.handled=none) (e0:pI P w K mg base A outer s H) (hl:vs.length=ps.length) (r:Vals vs us)
  (x:InCallC s s.heap.objs.size (bindL (envOfC qual scope s.heap.objs.size f cd).kindOf (ps.zip us) fun _=>none) (cellsFrom (s.heap.objs.size+1) scope.names []) (bindC (envOfC qual scope s.heap.objs.size f cd).kindOf (ps.zip us) fun _=>none) s1) :
  Inv (jo CX P w K mg base N qual scope f cd A outer s H E) [] (start N vs) H s1:=by
 have jO:ps.length≤N.length:=by have:=gL List.length S.pre;rw [kr] at this;lia
 obtain ⟨h1,tk,rfl,hk⟩:=x.done;have xr:∀b:Addr,b∉(jo CX P w K mg base N qual scope f cd A outer s H E).ex:=fun b z=>absurd (show b∈([]:List Addr) from z) (by simp)
 refine ⟨⟨e0.mod,S.kind,rfl,rfl,aG _,fun y z c h1 h2=>?_,fun y hy=>?_,fun y c _ h=>?_,fun _=>hd,Around.frames_deeper e0.frames,.inr ⟨rfl,rfl⟩,fun b z=>absurd z (xr b),e0.bs,e0.jg,fun b _ _=>xr b,fun b z=>absurd z (xr b),e0.jM,e0.mC⟩,
  rfl,e0.bare,Un.kept hk,⟨_,x.toInCall.ns,fun i y v h1 h2 h3=>?_⟩,fun y c h=>⟨_,x.cell y c h⟩,e0.aD.fresh (aG _),fun y c h=>?_,fun p hp=>absurd (show p∈([]:a9) from hp) (by simp),e0.aD.kept hk,?_⟩
 ·exact name_of_addr x.apart (lA h1) (lA h2)
 ·have hy:scope.names.lookup y=some .cell∨scope.names.lookup y=some .free:=hy
  rcases hy with hy | hy;·exact Ir hy
  ·exact absurd rfl (S.Py _ (lA hy))
 ·exact jF (x.above y c (lA h))
 ·have hi:i<vs.length:=by
   unfold start at h2;by_cases hi:i<vs.length;·exact hi
   ·rw [lB (by simpa using hi)] at h2
    rw [List.getElem?_replicate] at h2
    split at h2 <;> cases h2
  have ha:vs[i]?=some v:=by
   unfold start at h2;rw [nC (by simpa using hi),cx] at h2
   cases e:vs[i]? with
   | none=>rw [e] at h2;cases h2
   | some a=>rw [e] at h2;cases h2;rfl
  obtain ⟨u,hu,rv⟩:=r.get ha;have hp:ps[i]?=some y:=by rw [←S.pre,List.getElem?_take_of_lt (by lia)];exact h1
  have Iu:ps.Nodup:=by rw [←S.pre];exact S.nd.sublist (wI _ _)
  refine ⟨u,rv,?_⟩;rcases S.par y (fZ hp) with k | k;·exact .inl ⟨k,Ip Iu hp hu k⟩
  ·obtain ⟨c,e⟩:=Ir (n:=s.heap.objs.size+1) k
   refine .inr ⟨.inl k,c,e,?_⟩;have q:=x.cell y c e;rw [Iq Iu hp hu (by show scope.names.lookup y≠_;rw [k];decide)] at q
   exact q
 ·exact e0.aD.fresh (jF (x.above y c (lA h)))
 ·unfold start
  show _=N.length;rw [gu,aJ,List.length_replicate];lia
theorem Dr{name:Str}{params:Arguments}{body:List Stmt}{dV kV doc pm bq ct oc:Value}{an od:Option Addr}
  {gh:Array (Option Value)} {sp:Sp} (lk:K.lookup f=some ⟨oc,od,.func (PySem.W.fnOf name qual params body scope dV kV doc pm an bq ct),gh⟩) (f9:PySem.W.codeIn K bq qual=true) (S:bD N ps scope)
  (len:∀vs H Q E,sp vs H Q E→vs.length=ps.length)
  (kN:∀(A:Around) (outer:List Env) (s:Shared) (H:Hp) (vs:List V) (Q:VK) (E:XK),dr k (A.deeper (envOfC qual scope s.heap.objs.size f bq))→sp vs H Q E→
   ∃t,eZ (jo CX P w K mg base N qual scope f bq A outer s H E) body t∧t {nx:=fun _ H'=>Q .aV H',rt:=Q} (start N vs) H) :
  bh P w K mg base CX (k+1) f (PySem.W.fnOf name qual params body scope dV kV doc pm an bq ct) ps sp:=by
 refine ⟨len,fun A outer s H args us vs Q E hr e0 hb r jQ=>?_⟩;have hl:=len _ _ _ _ jQ;have KX:K.In s.heap:=e0.mod.df.keeps fun b o e=>(e0.bs b o e).1;have lim:s.heap.NoLimit:=e0.mod.nolimit.keeps fun b o e=>(e0.bs b o e).1;have PB:∀y∈ps.zip us,scope.names.lookup y.1=some .local∨(scope.names.lookup y.1=some .cell∧((cellsFrom (s.heap.objs.size+1) scope.names []).lookup y.1).isSome=true):=fun⟨n,v⟩ hy=>by
  rcases S.par n (List.of_mem_zip hy).1 with q | q;·exact .inl q
  ·exact .inr ⟨q,PySem.W.cellsFrom_some _ _ _ (.inl q)⟩
 refine codeAny_call_function hr.depth (KX _ _ lk) rfl S.co S.gen rfl (PySem.W.codeRec_of KX f9) (hb _ _ _ _ ?_);refine wpAny_newFunctionEnv_cells S.kind PB fun env he s1 x=>?_;subst he;refine ⟨lim.keeps x.toInCall.keep,codeAny_func ?_⟩;obtain ⟨t,ht,hq⟩:=kN A outer s H vs Q E (hr.deeper _) jQ;have I:Inv (jo CX P w K mg base N qual scope f bq A outer s H E) [] (start N vs) H s1:=Pz S hr.hd e0 hl r x;refine dG (ht [] s1 (start N vs) H _ I hq) (fun fl s' hs=>?_) fun e s' hs=>hs;have fin:∀{σ':St} {H':Hp} {v:V} {u:Value},Inv (jo CX P w K mg base N qual scope f bq A outer s H E) [] σ' H' s'→RelV v u→Q v H'→CE outer P w H s Q u s':=
  fun{σ' H' v u} J rv q=>⟨v,H',J.os,J.bare,J.base,J.aD,rv,q⟩
 cases fl with
 | ret u=>obtain ⟨v,σ',H',J,rv,q⟩:=hs;exact fin J rv q
 | next=>obtain ⟨σ',H',J,q⟩:=hs;exact fin (v:=V.aV) (u:=Value.none) J rfl q
 | brk=>obtain ⟨_,_,_,q⟩:=hs;exact False.elim q
 | cont=>obtain ⟨_,_,_,q⟩:=hs;exact False.elim q
section
variable {X:Cx} {x:Str} {p pos:Pos} {e:Expr} {es:List Expr} {t:TA} {id T:String} {r:List V→Hp→VK→Prop}
def zP(r:List V→Hp→VK→Prop)(t:TA):TE:=fun σ H Q=>t σ H fun vs H1=>r vs H1 Q
theorem cM(hc:gc X (.builtin id) r)(hg:Gl X x)(hm:X.mg x=none)(hv:bootBuiltins x=some (.builtin id))(ha:PA X (e::es) t)(hn:x ≠ "__name__":=by decide)(mG:(x == ("__debug__":Str))=false:=by decide)
  (he:starEach (e::es) X.env=(false,eval e X.env)::starEach es X.env:=by rfl) (jO:(backTo pos (starEach es X.env)).any (·.1)=false:=by rfl):PE X (.Call (.Name x p) (e::es) [] pos) (zP r t):=by
 intro pins s σ H Q I h;refine y_ (nN I hg hm hv ?_ hn mG);exact PyProof.Rows.callWith_builtin1 (aR (ha pos pins s σ H _ I h) fun us s1 ⟨vs,H1,I1,r1,q1⟩=>hc pins s1 σ H1 vs us Q I1 r1 q1) he jO
theorem lN(hc:gc X (.type T) r)(hg:Gl X x)(hm:X.mg x=none)(hv:bootBuiltins x=some (.type T))(ha:PA X (e::es) t)(hn:x ≠ "__name__":=by decide)(mG:(x == ("__debug__":Str))=false:=by decide)
  (he:starEach (e::es) X.env=(false,eval e X.env)::starEach es X.env:=by rfl) (jO:(backTo pos (starEach es X.env)).any (·.1)=false:=by rfl):PE X (.Call (.Name x p) (e::es) [] pos) (zP r t):=by
 intro pins s σ H Q I h;refine y_ (nN I hg hm hv ?_ hn mG);exact rZ (aR (ha pos pins s σ H _ I h) fun us s1 ⟨vs,H1,I1,r1,q1⟩=>hc pins s1 σ H1 vs us Q I1 r1 q1) he jO
end
end L2
namespace HT
open PySem PyProof.Rows
theorem PD(A:Around)(s:Shared)(a:Int)(t:Tok)(c:Int)(u:Tok):∃e,SeqAt.EqAt A s (.int a t) (.int c u) e∧(e=true↔a=c):=
 ⟨(a == c),SeqAt.EqAt.int_int a t c u,by simp⟩
theorem PF(A:Around)(s:Shared)(a:Int)(t:Tok)(c:Int)(u:Tok)(prog:Program)(w:World)(E:aN)(Q:aN)(h:Q (.bool (decide (a<c))) s) :
  wpAny (model prog w) A (richCompare .Lt (.int a t) (.int c u)) Q E s:=
 (PyProof.Rows.lt_int h:wpAny (model prog w) A (compareOp .Lt (.int a t) (.int c u)) Q E s)
section
open PySem.SeqAt
open PySem.AutoSeq1 (wpAny_loadPart')
open PySem.MeetsSeq PySem.MeetsSeq2 PySem.MeetsSeq3
end
section
variable {prog:Program} {w:World} {A:Around} {E:aN} {s:Shared}
theorem PH{t b:Addr}{vs ws:List Value}{Q:aN}(ht:IsTup s.heap t vs.toArray)(hb:IsTup s.heap b ws.toArray)(hv:vs≠[])
  (h1:ws=[]→Q (.ref t) s) (h2:ws≠[]→Q (.ref s.heap.objs.size) {s with heap:=s.heap.push {cls:=.type "tuple",data:=.seq (vs++ws).toArray}})
  (hsz:vs.length+ws.length≤sizeLine):wpAny (model prog w) A (binaryOp .Add (.ref t) (.ref b)) Q E s:=by
 obtain ⟨⟨cls,dd,data,sl⟩,ho,hc,n,hd⟩:=id ht;obtain ⟨⟨PJ,sJ,data2,sM⟩,pJ,sN,n2,hd2⟩:=id hb;simp only at hc hd sN hd2;subst hc hd sN hd2;have e:vs.toArray++ws.toArray=(vs++ws).toArray:=by simp
 by_cases hw:ws=[]
 ·exact concat_meets ⟨_,ho,rfl⟩ ⟨_,pJ,rfl⟩ noFill_tuple_add seq_tuple_add PySem.F.slot_tuple_add PySem.F.entry_tuple_add (PySem.F.args_tuple_add_2 _ _)
   (tuple_addW1 t b vs.toArray ws.toArray n n2 dd sJ sl sM (by simpa using hv) (by simp [hw])) ⟨ho,pJ,h1 hw⟩
 ·refine concat_meets ⟨_,ho,rfl⟩ ⟨_,pJ,rfl⟩ noFill_tuple_add seq_tuple_add PySem.F.slot_tuple_add PySem.F.entry_tuple_add (PySem.F.args_tuple_add_2 _ _)
   (tuple_addW2 t b vs.toArray ws.toArray n n2 dd sJ sl sM (by simpa using hv) (by simpa using hw) (by rw [cI,cI];exact hsz)) ⟨ho,pJ,?_⟩
  rw [e];exact h2 hw
def gP(n d:Nat):Option Int→Nat
 | none=>d
 | some v=>if v<0 then (v+(n:Int)).toNat else min v.toNat n
theorem PK(n d:Nat):gP n d none=d:=rfl
theorem PL(n d k:Nat):gP n d (some (k:Int))=min k n:=by
 show (if (k:Int)<0 then ((k:Int)+(n:Int)).toNat else min (k:Int).toNat n)=min k n
 rw [aj (by lia),eJ]
end
end HT
namespace L2
open PySem PySem.Spec PyProof.Rows
abbrev TO:=St→Hp→(Option Int→Hp→Prop)→Prop
def PO(X:Cx)(e:Option Expr)(t:TO):Prop:=
 ∀(pins:a9) (s:Shared) (σ:St) (H:Hp) (Q:Option Int→Hp→Prop),Inv X pins σ H s→t σ H Q→
  wpAny (model X.prog X.w) X.A (evalPart e X.env) (fun u s'=>∃o H',Inv X pins σ H' s'∧IsPart u o∧Q o H') X.xe s
def PM:TO:=fun _ H Q=>Q none H
def PN(t:TE):TO:=fun σ H Q=>t σ H fun x H1=>∃i,x=.int i∧Q (some i) H1
theorem intsAre_of{ns:List Int}:∀{us:List Value},Vals (ns.map V.int) us→IntsAre us ns:=by
 induction ns with
 | nil=>intro us r;rw [wJ] at r;cases r;exact .nil
 | cons n ns ih=>
  intro us r;rw [cG] at r;cases r with
  | cons r1 r2=>obtain ⟨t,e⟩:=r1;subst e;exact .cons n t (ih r2)
section
variable {X:Cx} {e:Expr} {te:TE} {lo hi:Option Expr} {tl th:TO} {pos p2:Pos}
theorem PQ:PO X none PM:=by intro pins s σ H Q I h;rw [evalPart_none];exact dH ⟨none,H,I,.none,h⟩
theorem PR(h:PE X e te):PO X (some e) (PN te):=by intro pins s σ H Q I hw;rw [evalPart_some];refine aR (h pins s σ H _ I hw) fun u s1 ⟨x,H1,I1,r1,q1⟩=>?_;obtain ⟨i,rfl,q⟩:=q1;obtain ⟨t,rfl⟩:=r1;exact ⟨some i,H1,I1,.int i t,q⟩
def Iv(X:Cx)(r:V→Option Int→Option Int→Hp→VK→Prop):Prop:=
 ∀(pins:a9) (s:Shared) (σ:St) (H:Hp) (x:V) (v vl vu:Value) (lo hi:Option Int) (sl:Addr) (Q:VK),Inv X pins σ H s→RelV x v→s.heap.IsSliceOf sl vl vu .none→IsPart vl lo→IsPart vu hi→r x lo hi H Q→
  ∃T id,typeLookup (.type T) "__getitem__"=pure (some (.builtin id))∧s.TypeIs v T∧wpAny (model X.prog X.w) X.A (getItem v (.ref sl)) (EP X pins σ Q) X.xe s
def PU(r:V→Option Int→Option Int→Hp→VK→Prop)(te:TE)(tl th:TO):TE:=fun σ H Q=>te σ H fun x H1=>tl σ H1 fun l H2=>th σ H2 fun u H3=>r x l u H3 Q
theorem PV{r:V→Option Int→Option Int→Hp→VK→Prop}(hr:Iv X r)(he:PE X e te)(hl:PO X lo tl)(hu:PO X hi th):PE X (.Subscript e (.Slice lo hi none p2) pos) (PU r te tl th):=by intro pins s σ H Q I h;refine Subscript_ (aR (he pins s σ H _ I h) fun v s1 ⟨x,H1,I1,r1,q1⟩=>?_);refine wpAny_Slice (aR (hl pins s1 σ H1 _ I1 q1) fun vl s2 ⟨l,H2,I2,pl,q2⟩=>aR (hu pins s2 σ H2 _ I2 q2) fun vu s3 ⟨u,H3,I3,pu,q3⟩=>?_);rw [evalPart_none];refine dH ?_;have I4:Inv X pins σ H3 {s3 with heap:=s3.heap.push {cls:=.type "slice",data:=.fields #[vl,vu,.none]}}:=I3.kept (t':=s3.toks) fun b ob q=>cF _ q;obtain ⟨T,id,hT,ht,hg⟩:=hr pins {s3 with heap:=s3.heap.push {cls:=.type "slice",data:=.fields #[vl,vu,.none]}} σ H3 x v vl vu l u s3.heap.objs.size Q I4 r1 (Heap.IsSliceOf.new ..) pl pu q3;show wpAny (model X.prog X.w) X.A (subscriptTail e (.Slice lo hi none p2) v (.ref s3.heap.objs.size)) (EP X pins σ Q) X.xe {s3 with heap:=s3.heap.push {cls:=.type "slice",data:=.fields #[vl,vu,.none]}};exact tail_any (ops:=[.ref s3.heap.objs.size,v]) ht hT hg (by with_unfolding_all rfl)
def pK(xs:List V)(lo hi:Option Int):List V:=(xs.drop (HT.gP xs.length 0 lo)).take (HT.gP xs.length xs.length hi-HT.gP xs.length 0 lo)
theorem PX(xs:List V)(lo hi:Option Int):(pK xs lo hi).length≤xs.length:=by unfold pK;rw [kr,List.length_drop];lia
def PY(K:aC):R2:=fun x y H Q=>∃a b xs ys,x=.ref a∧y=.ref b∧dN K H a xs∧dN K H b ys∧xs≠[]∧xs.length+ys.length≤sizeLine ∧
 (ys=[]→Q (.ref a) H)∧(ys≠[]→∀p,H p=none→Q (.ref p) (upd H p (.tup (xs++ys))))
theorem Vals.Ds{xs:List V}{us:List Value}(r:Vals xs us):us=[]↔xs=[]:=by
 cases r with
 | nil=>simp
 | cons _ _=>simp
theorem PZ:cB X (binaryOp .Add) (PY X.K):=by
 intro pins s σ H x y v u Q I rx ry h;obtain ⟨a,b,xs,ys,rfl,rfl,ha,hb,hx,hz,q1,q2⟩:=h;cases rx;cases ry;obtain ⟨ai,r1,p1,_⟩:=I.tuple ha;obtain ⟨mH,r2,p2,_⟩:=I.tuple hb;refine HT.PH p1 p2 (fun z=>hx (r1.Ds.mp z)) (fun z=>⟨.ref a,H,I,rfl,q1 (r2.Ds.mp z)⟩) (fun z=>?_) (by rw [←r1.length,←r2.length];exact hz)
 refine ⟨.ref s.heap.objs.size,_,I.laid (t':=s.toks) (o:=.tup (xs++ys)) (fun b ob q=>cF _ q) (aG _) ?_,rfl,q2 (fun w=>z (r2.Ds.mpr w)) _ (I.aD.fresh (aG _))⟩;exact ⟨by rw [gu];exact hz,_,r1.append r2,IsTup.new _ _⟩
end
def mI(n:Nat)(i:Int):Option Nat:=if 0≤i then (if i<n then some i.toNat else none) else if -(n:Int)≤i then some (i+n).toNat else none
def iY{α:Type}(xs:List α)(i:Int):Option α:=(mI xs.length i).bind fun j=>xs[j]?
variable {i:Int} {j:Nat}
theorem Iw{n:Nat}(h:mI n i=some j):seqIndex? i n=some j∧j<n∧-(n:Int)≤i∧i<n:=by
 unfold mI at h;by_cases h0:0≤i
 ·rw [ak h0] at h
  by_cases h1:i<n
  ·rw [ak h1] at h
   have e:i.toNat=j:=Option.some.inj h;exact ⟨by rw [seqIndex_of h0 h1,e],by lia,by lia,h1⟩
  ·rw [aj h1] at h;cases h
 ·rw [aj h0] at h
  by_cases h1:-(n:Int)≤i
  ·rw [ak h1] at h
   have e:(i+n).toNat=j:=Option.some.inj h;exact ⟨by rw [seqIndex_neg (by lia) h1,e],by lia,h1,by lia⟩
  ·rw [aj h1] at h;cases h
theorem Iy{α:Type}{xs:List α}{v:α}(h:iY xs i=some v):∃j,seqIndex? i xs.length=some j∧xs[j]?=some v∧j<xs.length∧-(xs.length:Int)≤i∧i<xs.length:=by
 unfold iY at h;cases e:mI xs.length i with
 | none=>rw [e] at h;cases h
 | some j=>rw [e] at h;obtain ⟨h1,h2,h3,h4⟩:=Iw e;exact ⟨j,h1,h,h2,h3,h4⟩
theorem iZ{α:Type}{xs:List α}{v:α}(h:xs[j]?=some v):iY xs (j:Int)=some v:=by
 have hj:j<xs.length:=(bQ.mp h).1;have e:mI xs.length (j:Int)=some j:=by unfold mI;rw [ak (by lia),ak (by lia)];simp
 unfold iY;rw [e];exact h
def Iz(b:Expr):Prop:=∀o i,subscripted b false o i=operate [o,i] (getItem o i)
def sO(X:Cx)(r:R2):Prop:=
 ∀(value slice:Expr) (pins:a9) (s:Shared) (σ:St) (H:Hp) (x y:V) (v u:Value) (Q:VK),Inv X pins σ H s→RelV x v→RelV y u→r x y H Q→
  subscripted slice false v u=operate [v,u] (getItem v u)→wpAny (model X.prog X.w) X.A (subscriptTail value slice v u) (EP X pins σ Q) X.xe s
def zQ(X:Cx)(id:String)(r:V→List V→Hp→VK→Prop):Prop:=
 ∀(pins:a9) (s:Shared) (σ:St) (H:Hp) (x:V) (xs:List V) (v:Value) (us:List Value) (Q:VK),Inv X pins σ H s→RelV x v→Vals xs us→r x xs H Q→
  wpAny (model X.prog X.w) X.A (call (.builtin id) (v::us)) (EP X pins σ Q) X.xe s
section
variable {X:Cx} {a b:Expr} {ta tb:TE} {pos:Pos}
theorem xt{r:R2}(hr:sO X r)(ha:PE X a ta)(hb:PE X b tb)(hs:Iz b):PE X (.Subscript a b pos) (lL r ta tb):=by intro pins s σ H Q I h;exact Subscript_ (Df ha hb I h fun v u s2 x y H2 I2 rx ry q=>hr a b pins s2 σ H2 x y v u Q I2 rx ry q (hs _ _))
theorem ax{r:R2}(hr:sO X r)(ha:PE X a ta)(hb:PE X b tb)(hs:Iz b:=by exact fun _ _=>rfl):PE X (.Subscript a b pos) (lL r ta tb):=xt hr ha hb hs
def IA(K:aC):R2:=fun x y H Q=>∃p xs i v,x=.ref p∧y=.int i∧bZ K H p xs∧iY xs i=some v∧Q v H
def IC(K:aC):R2:=fun x y H Q=>∃p xs i v,x=.ref p∧y=.int i∧dN K H p xs∧iY xs i=some v∧Q v H
theorem b8:sO X (IA X.K):=by
 intro value slice pins s σ H x y v u Q I rx ry h hs;obtain ⟨p,xs,i,z,rfl,rfl,hq,he,q⟩:=h;cases rx;obtain ⟨t,rfl⟩:=ry;obtain ⟨ai,r,pl,hz⟩:=I.list hq;obtain ⟨j,h1,h2,h3,h4,h5⟩:=Iy he;obtain ⟨w,ew,kL⟩:=r.get h2;have hl:=r.length;have hn:=zL;have fin:EP X pins σ Q w s:=⟨z,H,I,kL,q⟩;by_cases h0:0≤i
 ·have hj:i.toNat=j:=by rw [seqIndex_of h0 h5] at h1;exact Option.some.inj h1
  exact item_listR pl.isList h0 (by lia) (by rw [hj];simpa using ew) fin hs
 ·have hj:(i+(ai.toArray.size:Int)).toNat=j:=by
   rw [seqIndex_neg (by lia) h4] at h1
   rw [cI,←hl];exact Option.some.inj h1
  exact subscriptTail_builtinR (x:=w) pl.isList.typeIs slot_list_getitem.lookup
   (wpAny_getItem_list_neg (Q:=fun r s'=>r=w∧EP X pins σ Q r s') pl.isList (by lia) (by rw [cI] <;> lia) (by lia) (by rw [hj];simpa using ew) ⟨rfl,fin⟩) hs
theorem a_:sO X (IC X.K):=by
 intro value slice pins s σ H x y v u Q I rx ry h hs;obtain ⟨p,xs,i,z,rfl,rfl,hq,he,q⟩:=h;cases rx;obtain ⟨t,rfl⟩:=ry;obtain ⟨ai,r,pl,hz⟩:=I.tuple hq;obtain ⟨j,h1,h2,h3,h4,h5⟩:=Iy he;obtain ⟨w,ew,kL⟩:=r.get h2;have hl:=r.length;have hn:=zL;have fin:EP X pins σ Q w s:=⟨z,H,I,kL,q⟩
 exact subscriptTail_builtinR (x:=w) pl.typeIs slot_tuple_getitem.lookup
  (getItem_tuple (j:=j) (Q:=fun r s'=>r=w∧EP X pins σ Q r s') pl (by lia) (by lia) (by rw [cI,←hl];exact h1) (by simpa using ew) ⟨rfl,fin⟩) hs
theorem P0(ai:List Value)(n j:Nat)(u:Value):Obj.mapSeq (·.setIfInBounds j u) {cls:=.type "list",data:=.seq ai.toArray n}={cls:=.type "list",data:=.seq (ai.set j u).toArray n}:=by simp [Obj.mapSeq]
theorem Inv.lst{pins:a9}{σ:St}{H:Hp}{s:Shared}{p:Addr}{xs:List V}(I:Inv X pins σ H s)(h:H p=some (.lst xs)) :
  ∃(ai:List Value) (n:Nat),Vals xs ai∧s.heap.get? p=some {cls:=.type "list",data:=.seq ai.toArray n}∧xs.length≤sizeLine:=by
 obtain ⟨z,ai,n,r,e⟩:=I.aD p _ h;exact ⟨ai,n,r,e,z⟩
variable {pins:a9} {σ:St} {H:Hp} {s:Shared}
theorem Inv.P1{p:Addr}{xs ys:List V}{ai its':List Value}{n n':Nat}{f:Obj→Obj}(I:Inv X pins σ H s)(h:H p=some (.lst xs))
  (ho:s.heap.get? p=some {cls:=.type "list",data:=.seq ai.toArray n}) (hf:f {cls:=.type "list",data:=.seq ai.toArray n}={cls:=.type "list",data:=.seq its'.toArray n'}) (r:Vals ys its') (hz:ys.length≤sizeLine) (t:Nat) :
  Inv X pins σ (upd H p (.lst ys)) {s with heap:=s.heap.update p f,toks:=t}:=by
 have e:(s.heap.update p f).get? p=some {cls:=.type "list",data:=.seq its'.toArray n'}:=by rw [Heap.get?_update_self f ho (by rw [hf] <;> rfl),hf]
 refine I.write (x:=p) (e:=p) (by rw [h];trivial) (.inl rfl) (fun b u hb q=>(Heap.get?_update_other _ _ (Ne.symm hb)).trans q) ⟨_,e⟩ ?_
 exact ⟨hz,its',n',r,e⟩
def P2:V→V→V→Hp→(Hp→Prop)→Prop:=fun o i v H Q=>∃p xs k j,o=.ref p∧i=.int k∧H p=some (.lst xs)∧mI xs.length k=some j∧Q (upd H p (.lst (xs.set j v)))
theorem set_list:HJ X P2:=by
 intro pins s σ H o i v ov iv u Q I ro ri rv h;obtain ⟨p,xs,k,j,rfl,rfl,hp,hj,q⟩:=h;cases ro;obtain ⟨t,rfl⟩:=ri;obtain ⟨ai,n,r,ho,hz⟩:=I.lst hp;obtain ⟨h1,h2,h3,h4⟩:=Iw hj;have hl:=r.length;have hn:=zL;have I':Inv X pins σ (upd H p (.lst (xs.set j v))) {s with heap:=s.heap.update p (Obj.mapSeq (·.setIfInBounds j u))}:=
  I.P1 hp ho (P0 ai n j u) (r.set rv j) (by rw [List.length_set];exact hz) s.toks
 by_cases h0:0≤k
 ·have hk:k.toNat=j:=by rw [seqIndex_of h0 h4] at h1;exact Option.some.inj h1
  exact PySem.W.ki_setAt ho h0 (by lia) (by rw [cI,←hl];exact h4) (by rw [hk];exact ⟨_,I',q⟩)
 ·have hk:(k+(ai.toArray.size:Int)).toNat=j:=by
   rw [seqIndex_neg (by lia) h3] at h1
   rw [cI,←hl];exact Option.some.inj h1
  exact PySem.W.ki_setBack ho (by lia) (by rw [cI,←hl];exact h3) (by lia) (by rw [hk];exact ⟨_,I',q⟩)
theorem P4(lo hi:Option Int)(n:Nat):(sliceBounds lo hi none n).1=((HT.gP n 0 lo:Nat):Int)∧(sliceBounds lo hi none n).2.1=((HT.gP n n hi:Nat):Int)∧(sliceBounds lo hi none n).2.2=1:=by
 refine ⟨?_,?_,rfl⟩
 ·cases lo with
  | none=>simp [sliceBounds,HT.gP]
  | some i=>
   simp only [sliceBounds,HT.gP,Option.getD_none,show (1:Int)>0 by decide,dJ]
   by_cases h:i<0;·simp only [h,dJ] <;> lia
   ·simp only [h,fb] <;> lia
 ·cases hi with
  | none=>simp [sliceBounds,HT.gP]
  | some i=>
   simp only [sliceBounds,HT.gP,Option.getD_none,show (1:Int)>0 by decide,dJ]
   by_cases h:i<0;·simp only [h,dJ] <;> lia
   ·simp only [h,fb] <;> lia
theorem P5(ai:List Value)(lo hi:Option Int):slicePick ai.toArray lo hi none=((ai.drop (HT.gP ai.length 0 lo)).take (HT.gP ai.length ai.length hi-HT.gP ai.length 0 lo)).toArray:=by obtain ⟨h1,h2,h3⟩:=P4 lo hi ai.toArray.size;unfold slicePick;rw [h1,h2,h3];simp only [sliceRange_one,pick_run,cI] <;> rfl
def P6(K:aC):V→Option Int→Option Int→Hp→VK→Prop:=fun x lo hi H Q=>∃a xs,x=.ref a∧bZ K H a xs∧∀p,H p=none→Q (.ref p) (upd H p (.lst (pK xs lo hi)))
theorem P7:Iv X (P6 X.K):=by
 intro pins s σ H x v vl vu lo hi sl Q I rx hs pl pu h;obtain ⟨a,xs,rfl,hx,q⟩:=h;cases rx;obtain ⟨ai,r,ht,hz⟩:=I.list hx;have hlen:=r.length;refine ⟨"list",_,slot_list_getitem.lookup,ht.isList.typeIs,?_⟩;refine wpAny_getItem_list_slice ht.isList hs pl pu .none (by simp) ?_ (by rw [cI] <;> lia)
 rw [P5,←hlen];refine ⟨.ref s.heap.objs.size,_,I.laid (t':=s.toks) (o:=.lst (pK xs lo hi)) (fun b ob q=>cF _ q) (aG _) ?_,rfl,q _ (I.aD.fresh (aG _))⟩;exact ⟨bE (PX xs lo hi) hz,_,0,(r.drop (HT.gP xs.length 0 lo)).take (HT.gP xs.length xs.length hi-HT.gP xs.length 0 lo),eX _ rfl⟩
def mJ:V→Bool
 | .aV=>true
 | .bl _=>true
 | .int _=>true
 | .str _=>true
 | _=>false
def mK:V→V→Bool
 | .aV,.aV=>true
 | .bl a,.bl b=>a == b
 | .bl a,.int b=>(if a then 1 else 0) == b
 | .int a,.bl b=>a == (if b then 1 else 0)
 | .int a,.int b=>a == b
 | .str a,.str b=>a == b
 | _,_=>false
variable {x:V} {v:Value}
theorem zR{A:Around}{y:V}{u:Value}(ry:RelV y u)(rx:RelV x v)(fy:mJ y=true)(fx:mJ x=true):SeqAt.EqAt A s u v (mK y x):=by
 cases y with
 | aV=>
  cases ry;cases x with
  | aV=>cases rx;exact SeqAt.EqAt.same _
  | bl b=>cases rx;exact SeqAt.EqAt.none_bool b
  | int b=>obtain ⟨t,rfl⟩:=rx;exact SeqAt.EqAt.none_int b t
  | str b=>obtain ⟨t,rfl⟩:=rx;exact SeqAt.EqAt.none_str b t
  | _=>exact absurd (show false=true from fx) dI
 | bl a=>
  cases ry;cases x with
  | aV=>cases rx;exact SeqAt.EqAt.bool_none a
  | bl b=>cases rx;exact SeqAt.EqAt.bool_bool a b
  | int b=>obtain ⟨t,rfl⟩:=rx;exact SeqAt.EqAt.bool_int a b t
  | str b=>obtain ⟨t,rfl⟩:=rx;exact SeqAt.EqAt.bool_str a b t
  | _=>exact absurd (show false=true from fx) dI
 | int a=>
  obtain ⟨t',rfl⟩:=ry;cases x with
  | aV=>cases rx;exact SeqAt.EqAt.int_none a t'
  | bl b=>cases rx;exact SeqAt.EqAt.int_bool a t' b
  | int b=>obtain ⟨t,rfl⟩:=rx;exact SeqAt.EqAt.int_int a t' b t
  | str b=>obtain ⟨t,rfl⟩:=rx;exact SeqAt.EqAt.int_str a t' b t
  | _=>exact absurd (show false=true from fx) dI
 | str a=>
  obtain ⟨t',rfl⟩:=ry;cases x with
  | aV=>cases rx;exact SeqAt.EqAt.str_none a t'
  | bl b=>cases rx;exact SeqAt.EqAt.str_bool a t' b
  | int b=>obtain ⟨t,rfl⟩:=rx;exact SeqAt.EqAt.str_int a t' b t
  | str b=>obtain ⟨t,rfl⟩:=rx;exact SeqAt.EqAt.str_str a t' b t
  | _=>exact absurd (show false=true from fx) dI
 | _=>exact absurd (show false=true from fy) dI
theorem gB:gc X (.builtin "len") (fun xs H Q=>∃p ys,xs=[.ref p]∧(bZ X.K H p ys∨dN X.K H p ys)∧Q (.int ys.length) H):=by
 intro pins s σ H xs us Q I r h;obtain ⟨p,ys,rfl,hq,q⟩:=h;obtain ⟨u,rfl,rx⟩:=vals1 r;cases rx;have hn:=zL;rcases hq with hq | hq
 ·obtain ⟨ai,r',pl,hz⟩:=I.list hq
  have hlen:=r'.length;exact Calls.call_len_list pl.isList (by simp only [cI] <;> lia) ⟨.int ys.length,H,I.tok _,⟨s.toks+1,by rw [cI,hlen]⟩,q⟩
 ·obtain ⟨ai,r',pl,hz⟩:=I.tuple hq
  have hlen:=r'.length;exact len_tuple pl (by simp only [cI] <;> lia) ⟨.int ys.length,H,I.tok _,⟨s.toks+1,by rw [cI,hlen]⟩,q⟩
theorem Dt:gc X (.type "list") (fun xs H Q=>∃p ys,xs=[.ref p]∧(bZ X.K H p ys∨dN X.K H p ys)∧∀l,H l=none→Q (.ref l) (upd H l (.lst ys))):=by
 intro pins s σ H xs us Q I r h;obtain ⟨p,ys,rfl,hq,q⟩:=h;obtain ⟨u,rfl,rx⟩:=vals1 r;cases rx
 have fin:∀(ai:List Value),Vals ys ai→ys.length≤sizeLine→∀(h':Heap) (c':Nat),(∀b o',s.heap.get? b=some o'→h'.get? b=some o')→
   h'.get? s.heap.objs.size=some {cls:=.type "list",dict:=none,data:=.seq ai.toArray c',slots:=#[]}→EP X pins σ Q (.ref s.heap.objs.size) {s with heap:=h'}:=fun ai r' hz h' c' kp e=>
  ⟨.ref s.heap.objs.size,_,I.laid (t':=s.toks) kp (aG _) (show cQ X.prog X.w _ h' _ (.lst ys) from ⟨hz,ai,c',r',e⟩),rfl,q _ (I.aD.fresh (aG _))⟩
 rcases hq with hq | hq
 ·obtain ⟨ai,r',pl,hz⟩:=I.list hq
  have hlen:=r'.length;obtain ⟨o,ho,hc,n,hd⟩:=pl.isList;exact call_list_seq p (.inl rfl) ho hc hd (fun h' c' kp e=>fin ai r' hz h' c' kp e) (by simp only [cI] <;> lia)
 ·obtain ⟨ai,r',pl,hz⟩:=I.tuple hq
  have hlen:=r'.length;obtain ⟨o,ho,hc,n,hd⟩:=pl;exact call_list_seq p (.inr rfl) ho hc hd (fun h' c' kp e=>fin ai r' hz h' c' kp e) (by simp only [cI] <;> lia)
theorem P8:gc X (.type "tuple") (fun xs H Q=>∃p ys,xs=[.ref p]∧((bZ X.K H p ys∧∀l,H l=none→Q (.ref l) (upd H l (.tup ys)))∨(dN X.K H p ys∧Q (.ref p) H))):=by
 intro pins s σ H xs us Q I r h;obtain ⟨p,ys,rfl,h⟩:=h;obtain ⟨u,rfl,rx⟩:=vals1 r;cases rx;rcases h with ⟨hq,q⟩ | ⟨hq,q⟩
 ·obtain ⟨ai,r',pl,hz⟩:=I.list hq
  have hlen:=r'.length;refine call_tuple_list pl.isList (fun h' kp=>?_) (by simp only [cI] <;> lia)
  have I1:Inv X pins σ H {s with heap:=h'}:=I.kept (t':=s.toks) kp;have I2:Inv X pins σ (upd H h'.objs.size (.tup ys)) {s with heap:=h'.push {cls:=.type "tuple",data:=.seq ai.toArray}}:=
   I1.laid (t':=s.toks) (fun b o e=>cF _ e) (aG _) (show cQ X.prog X.w _ _ _ (.tup ys) from ⟨hz,ai,r',IsTup.new _ _⟩)
  exact ⟨.ref h'.objs.size,_,I2,rfl,q _ (I1.aD.fresh (aG _))⟩
 ·obtain ⟨ai,r',pl,hz⟩:=I.tuple hq
  exact call_tuple_same pl ⟨.ref p,H,I,rfl,q⟩
def Du(K:aC)(T:String)(x:V)(H:Hp):Prop:=match x with
 | .str _=>T="str"
 | .int _=>T="int"
 | .ref p=>(T="list"∧∃xs,bZ K H p xs)∨(T="tuple"∧∃o,K.lookup p=some o∧o.cls=.type "tuple"∧o.dict=none) ∨
   (T="dict"∧((∃aw,H p=some (.dK aw))∨∃aw,H p=some (.dT aw)))∨(T="set"∧∃S n,H p=some (.set S n))
 | _=>False
theorem ID{T:String}(I:Inv X pins σ H s)(r:RelV x v)(ty:Du X.K T x H) :
  s.TypeIs v T∧∀a,v=.ref a→∃ob,s.heap.get? a=some ob∧ob.dict=none:=by
 cases x with
 | str z=>obtain ⟨t,rfl⟩:=r;cases (show T="str" from ty);exact ⟨typeIs_str s z t,fun _ e=>nomatch e⟩
 | int i=>obtain ⟨t,rfl⟩:=r;cases (show T="int" from ty);exact ⟨typeIs_int s i t,fun _ e=>nomatch e⟩
 | ref p=>
  cases r;rcases ty with ⟨rfl,xs,hq⟩ | ⟨rfl,o,hk,hc,hd⟩ | ⟨rfl,hk⟩ | ⟨rfl,S,n,hk⟩
  ·obtain ⟨ai,_,pl,_⟩:=I.list hq
   refine ⟨pl.isList.typeIs,fun a e=>?_⟩;cases e;obtain ⟨o,n,e,c,hd,_⟩:=pl;exact ⟨o,e,hd⟩
  ·refine ⟨⟨o,I.dW p o hk,hc⟩,fun a e=>?_⟩
   cases e;exact ⟨o,I.dW _ o hk,hd⟩
  ·have z:∃o,s.heap.get? p=some o∧o.ExactDict:=by
    rcases hk with ⟨aw,hk⟩ | ⟨aw,hk⟩
    ·obtain ⟨_,_,_,_,o,_,_,e,ex,_⟩:=I.aD p _ hk
     exact ⟨o,e,ex⟩
    ·obtain ⟨_,_,_,_,o,_,_,e,ex,_⟩:=I.aD p _ hk
     exact ⟨o,e,ex⟩
   obtain ⟨o,e,ex⟩:=z;refine ⟨⟨o,e,ex.1⟩,fun a e2=>?_⟩;cases e2;exact ⟨o,e,ex.2.1⟩
  ·obtain ⟨o,_,_,_,e,ex,_⟩:=I.aD p _ hk
   refine ⟨⟨o,e,ex.1⟩,fun a e2=>?_⟩;cases e2;exact ⟨o,e,ex.2.1⟩
 | _=>exact False.elim ty
def P9(K:aC)(T:String)(r:V→List V→Hp→VK→Prop)(to:TE):TE:=fun σ H Q=>to σ H fun x H1=>Du K T x H1∧r x [] H1 Q
def sP(K:aC)(T:String)(r:V→List V→Hp→VK→Prop)(to:TE)(t:TA):TE:=fun σ H Q=>to σ H fun x H1=>Du K T x H1∧t σ H1 fun xs H2=>r x xs H2 Q
variable {o e:Expr} {es:List Expr} {to:TE} {t:TA} {name:Str} {apos fH:Pos} {T id:String} {r:V→List V→Hp→VK→Prop}
theorem P_(pa:PlainAttrs T)(slot:Slot T name id)(xu:typeOf (.builtin id)=pure (.type "method_descriptor"))(hm:zQ X id r)(ho:PE X o to)
  (xv:attributeBase o name X.env (eval o X.env)=eval o X.env:=by rfl) (xw:(apos.endLine == fH.line)=true:=by rfl):PE X (.Call (.Attribute o name apos) [] [] fH) (P9 X.K T r to):=by
 intro pins s σ H Q I h;refine wpAny_Call_method0_late xv xw (aR (ho pins s σ H _ I h) fun v s1 ⟨x,H1,I1,r1,ty,q1⟩=>?_);obtain ⟨h1,h2⟩:=ID I1 r1 ty;exact ⟨T,id,pa,slot,xu,h1,h2,Calls.callWith_builtin rfl (PySem.evalArgs_none (hm pins s1 σ H1 x [] v [] Q I1 r1 .nil q1))⟩
theorem jR(pa:PlainAttrs T)(slot:Slot T name id)(xu:typeOf (.builtin id)=pure (.type "method_descriptor"))(hm:zQ X id r)(ho:PE X o to)(ha:PA X (e::es) t)
  (xv:attributeBase o name X.env (eval o X.env)=eval o X.env:=by rfl)
  (Dv:((backTo fH (starEach (e::es) X.env)).all (fun x=>!x.1) && (backToKw fH (keywordEach [] X.env)).all (fun x=>x.1.isSome)
   && decide ((e::es).length+([]:List Keyword).length+(if ([]:List Keyword).isEmpty then 0 else 1)<30))=true:=by rfl)
  (xw:(apos.endLine == fH.line)=true:=by rfl) (hs:starEach (e::es) X.env=(false,eval e X.env)::starEach es X.env:=by rfl) (Dw:(backTo fH (starEach es X.env)).any (·.1)=false:=by rfl) :
  PE X (.Call (.Attribute o name apos) (e::es) [] fH) (sP X.K T r to t):=by
 intro pins s σ H Q I h;refine wpAny_Call_method_late xv Dv xw rfl (aR (ho pins s σ H _ I h) fun v s1 ⟨x,H1,I1,r1,ty,q1⟩=>?_);obtain ⟨h1,h2⟩:=ID I1 r1 ty;refine ⟨T,id,pa,slot,xu,h1,h2,?_⟩;have hA:=ha fH pins s1 σ H1 _ I1 q1;rw [hs] at hA ⊢;refine Calls.callWith_builtin (by show (false || (backTo fH (starEach es X.env)).any (·.1))=false;rw [Dw] <;> rfl) (Calls.evalArgs_plain ?_)
 exact aR hA fun us s2 ⟨vs,H2,I2,r2,q2⟩=>hm pins s2 σ H2 x vs v us Q I2 r1 r2 q2
end
def xx(X:Cx)(id:String)(r:V→List V→Hp→VK→Prop):Prop:=
 ∀(pins:a9) (s:Shared) (σ:St) (H:Hp) (x:V) (xs:List V) (v:Value) (us:List Value) (Q:VK),Inv X pins σ H s→RelV x v→Vals xs us→r x xs H Q→
  wpAny (model X.prog X.w) X.A (call (.builtin id) (v::us)) (EP X pins σ Q) X.xe s
theorem Vals.one:∀{x:V} {us:List Value},Vals [x] us→∃u,us=[u]∧RelV x u
 | _,_,.cons r .nil=>⟨_,rfl,r⟩
theorem Vals.two:∀{x y:V} {us:List Value},Vals [x,y] us→∃u v,us=[u,v]∧RelV x u∧RelV y v
 | _,_,_,.cons r (.cons q .nil)=>⟨_,_,rfl,r,q⟩
theorem Vals.zero:∀{us:List Value},Vals [] us→us=[]
 | _,.nil=>rfl
theorem Vals.eraseIdx:∀{xs:List V} {us:List Value} (i:Nat),Vals xs us→Vals (xs.eraseIdx i) (us.eraseIdx i)
 | _,_,_,.nil=>.nil
 | _,_,0,.cons _ t=>t
 | _,_,i+1,.cons r t=>.cons r (Vals.eraseIdx i t)
theorem Vals.rep{xs:List V}{us:List Value}(h:Vals xs us):∀k:Nat,Vals (List.replicate k xs).flatten (List.replicate k us).flatten
 | 0=>.nil
 | k+1=>by rw [r6,r6,wK,wK];exact Vals.append h (Vals.rep h k)
theorem IE{α:Type}:∀(l:List α) (i:Nat),(l.eraseIdx i).length≤l.length
 | [],_=>aG _
 | _::_,0=>ko _
 | _::r,i+1=>Nat.succ_le_succ (IE r i)
theorem foldl_rep(ai:List Value):∀(k:Nat) (acc:List Value),
  List.foldl (fun x1 x2=>x1++x2) acc.toArray (List.replicate k ai.toArray)=(acc++(List.replicate k ai).flatten).toArray
 | 0,acc=>by simp
 | k+1,acc=>by
  have e:acc.toArray++ai.toArray=(acc++ai).toArray:=by simp
  have e2:(acc++ai)++(List.replicate k ai).flatten=acc++(List.replicate (k+1) ai).flatten:=by rw [r6,wK,List.append_assoc]
  rw [←e2,←foldl_rep ai k (acc++ai),←e,r6,List.foldl_cons]
section
variable {X:Cx} {pins:a9} {σ:St} {H:Hp} {s:Shared} {l b:Addr} {xs ys zs:List V}
variable {ai:List Value} {n t':Nat}
theorem Inv.zS{its':List Value}{f:Array Value→Array Value}(I:Inv X pins σ H s)(hH:H l=some (.lst xs))
  (e:s.heap.get? l=some {cls:=.type "list",data:=.seq ai.toArray n}) (hf:f ai.toArray=its'.toArray) (hv:Vals ys its') (hz:ys.length≤sizeLine) :
  Inv X pins σ (upd H l (.lst ys)) {s with heap:=s.heap.update l (Obj.mapSeq f),toks:=t'}:=by
 have q:=PySem.IsL.update e f;rw [hf] at q;refine I.write (x:=l) (e:=l) (by rw [hH];exact trivial) (.inl rfl) (fun b' u hb hu=>(Heap.get?_update_other s.heap (Obj.mapSeq f) (Ne.symm hb)).trans hu) ⟨_,q⟩ ?_
 exact ⟨hz,its',_,hv,q⟩
theorem Inv.IF(I:Inv X pins σ H s)(hv:Vals ys ai)(hz:ys.length≤sizeLine) :
  Inv X pins σ (upd H s.heap.objs.size (.lst ys)) {s with heap:=s.heap.push {cls:=.type "list",data:=.seq ai.toArray},toks:=t'}:=
 I.laid (fun _ _ q=>cF _ q) (aG _) ⟨hz,ai,0,hv,eX _ rfl⟩
theorem Inv.fresh(I:Inv X pins σ H s):H s.heap.objs.size=none:=I.aD.fresh (aG _)
theorem Inv.mL(I:Inv X pins σ H s)(hH:H l=some (.lst xs)):xs.length≤sizeLine∧∃(ai:List Value) (n:Nat),Vals xs ai∧xs.length=ai.length∧s.heap.get? l=some {cls:=.type "list",data:=.seq ai.toArray n}:=by obtain ⟨z,ai,n,r,e⟩:=I.aD l _ hH;exact ⟨z,ai,n,r,r.length,e⟩
theorem IG(h:n≤sizeLine):Builtin.List.listTooLong n=false:=by unfold Builtin.List.listTooLong;exact cJ (by lia)
end
section
variable {X:Cx}
def Dx:V→List V→Hp→VK→Prop:=fun x vs H Q=>∃l xs y,x=.ref l∧vs=[y]∧H l=some (.lst xs)∧xs.length<sizeLine∧Q .aV (upd H l (.lst (xs++[y])))
theorem nW:xx X "list.append" Dx:=by
 intro pins s σ H x vs v us Q I rx rv h;obtain ⟨l,xs,y,rfl,rfl,hH,hz,q⟩:=h;cases rx;obtain ⟨u,rfl,ru⟩:=rv.one;obtain ⟨z,ai,n,r,hl,e⟩:=I.mL hH;refine oP F.slot_list_append ⟨_,e,rfl⟩ F.entry_list_append (F.args_list_append_2 _ _) (PySem.list_append l ai.toArray n u (by rw [cI];lia)) ⟨e,?_⟩
 refine ⟨.aV,_,I.zS (its':=ai++[u]) hH e (by simp) (r.append (.cons ru .nil)) ?_,rfl,q⟩
 rw [gu,CI];lia
def Qa:V→List V→Hp→VK→Prop:=fun x vs H Q=>∃l b xs zs,x=.ref l∧vs=[.ref b]∧H l=some (.lst xs)∧H b=some (.lst zs)∧xs.length+zs.length≤sizeLine∧Q .aV (upd H l (.lst (xs++zs)))
theorem Qb:xx X "list.extend" Qa:=by
 intro pins s σ H x vs v us Q I rx rv h;obtain ⟨l,b,xs,zs,rfl,rfl,hH,hB,hz,q⟩:=h;cases rx;obtain ⟨u,rfl,ru⟩:=rv.one;cases ru;obtain ⟨z,ai,n,r,hl,e⟩:=I.mL hH;obtain ⟨z2,mH,n2,r2,Qc,e2⟩:=I.mL hB;have hsz:ai.toArray.size+mH.toArray.size≤sizeLine:=by rw [cI,cI];lia
 have Dy:¬(!ai.toArray.isEmpty && Builtin.List.listTooLong (ai.toArray.size+mH.toArray.size))=true:=by rw [IG hsz,Bool.and_false];exact dI
 refine oP F.slot_list_extend ⟨_,e,rfl⟩ F.entry_list_extend (F.args_list_extend_2 _ _)
  (AutoSeq1.list_extend_list_list_0 l ai.toArray n b mH.toArray n2 Dy (by rw [cI];lia) (by lia)) ⟨e,e2,?_⟩
 refine ⟨.aV,_,I.zS (its':=ai++mH) hH e (by simp) (r.append r2) ?_,rfl,q⟩
 rw [gu];lia
def Dz:V→List V→Hp→VK→Prop:=fun x vs H Q=>∃l xs i k y,x=.ref l∧vs=[.int i]∧H l=some (.lst xs)∧-(2 ^ 63)≤i∧i<2 ^ 63∧seqIndex? i xs.length=some k∧xs[k]?=some y∧Q y (upd H l (.lst (xs.eraseIdx k)))
theorem IH:xx X "list.pop" Dz:=by
 intro pins s σ H x vs v us Q I rx rv h;obtain ⟨l,xs,i,k,y,rfl,rfl,hH,h1,h2,hk,hy,q⟩:=h;cases rx;obtain ⟨u,rfl,ru⟩:=rv.one;obtain ⟨t,rfl⟩:=ru;obtain ⟨z,ai,n,r,hl,e⟩:=I.mL hH;obtain ⟨w,hw,kL⟩:=r.get hy
 refine oP F.slot_list_pop ⟨_,e,rfl⟩ F.entry_list_pop (F.args_list_pop_2 _ _)
  (MeetsSeq.list_pop_at l ai.toArray n i t k w (fitsIndex_both h1 h2) (by rw [cI,←hl];exact hk) (by rw [←Array.getElem?_toList];exact hw) (by rw [cI];lia)) ⟨e,?_⟩
 refine ⟨y,_,I.zS (its':=ai.eraseIdx k) hH e ?_ (r.eraseIdx k) ?_,kL,q⟩
 ·show ai.toArray.eraseIdxIfInBounds k=(ai.eraseIdx k).toArray
  rw [List.eraseIdxIfInBounds_toArray]
 ·have:=IE xs k
  lia
def Qd:R2:=fun x y H Q=>∃l b xs zs,x=.ref l∧y=.ref b∧H l=some (.lst xs)∧H b=some (.lst zs)∧xs.length+zs.length≤sizeLine∧∀p,H p=none→Q (.ref p) (upd H p (.lst (xs++zs)))
theorem pL:cB X (binaryOp .Add) Qd:=by
 intro pins s σ H x y v u Q I rx ry h;obtain ⟨l,b,xs,zs,rfl,rfl,hH,hB,hz,q⟩:=h;cases rx;cases ry;obtain ⟨z,ai,n,r,hl,e⟩:=I.mL hH;obtain ⟨z2,mH,n2,r2,Qc,e2⟩:=I.mL hB;refine PySem.P.add_list e e2 ?_ (by rw [cI,cI];lia)
 have ea:ai.toArray++mH.toArray=(ai++mH).toArray:=by simp
 rw [ea];exact ⟨.ref _,_,I.IF (t':=s.toks) (r.append r2) (by rw [gu];lia),rfl,q _ I.fresh⟩
def Qe:R2:=fun x y H Q=>∃l k xs,x=.ref l∧y=.int k∧H l=some (.lst xs)∧-(2 ^ 63)≤k∧k<2 ^ 63∧xs.length*k.toNat≤sizeLine ∧
 ∀p,H p=none→Q (.ref p) (upd H p (.lst (List.replicate k.toNat xs).flatten))
theorem len_rep{α:Type}(xs:List α)(k:Nat):(List.replicate k xs).flatten.length=k*xs.length:=by
 induction k with
 | zero=>simp
 | succ k ih=>rw [r6,wK,gu,ih,Nat.succ_mul,Nat.add_comm]
theorem II:cB X (binaryOp .Mult) Qe:=by
 intro pins s σ H x y v u Q I rx ry h;obtain ⟨l,k,xs,rfl,rfl,hH,h1,h2,hz,q⟩:=h;cases rx;obtain ⟨t,rfl⟩:=ry;obtain ⟨z,ai,n,r,hl,e⟩:=I.mL hH;have hlen:ai.toArray.size*k.toNat≤sizeLine:=by rw [cI,←hl];exact hz
 have Qf:¬ai.toArray.size*k.toNat>(2 ^ 63-1) / 8:=by
  have:(sizeLine:Nat)≤(2 ^ 63-1) / 8:=by decide
  lia
 have Qg:¬(!Builtin.List.listFitsIndex k)=true:=by rw [fitsIndex_both h1 h2];exact dI
 have Dy:¬Builtin.List.listTooLong (ai.toArray.size*k.toNat)=true:=by rw [IG hlen];exact dI
 have Qh:List.foldl (fun x1 x2=>x1++x2) #[] (List.replicate (if ai.toArray.isEmpty=true then 0 else k.toNat) ai.toArray)=(List.replicate k.toNat ai).flatten.toArray:=by
  have f0:∀m:Nat,List.foldl (fun x1 x2=>x1++x2) #[] (List.replicate m ai.toArray)=(List.replicate m ai).flatten.toArray:=fun m=>by have:=foldl_rep ai m [];rw [List.nil_append] at this;exact this
  rw [f0];cases ai with
  | nil=>simp
  | cons a r'=>rw [aj (by simp)]
 refine wpAny_binaryOp_repeat_ref (T:="list") (U:="int") (by decide) ⟨_,e,rfl⟩ (fun s'=>typeIs_int s' k t) noFill_list_mul F.fills_int_mul F.slot_int_rmul repeat_list F.slot_int_index.lookup
  (oP F.slot_int_rmul (typeIs_int s k t) F.entry_int_rmul (F.args_int_rmul_2 _ _) (int___rmul___int_list k t l ai.toArray n)
   ⟨e,rfl,⟨_,e,rfl⟩,oP F.slot_list_mul ⟨_,e,rfl⟩ F.entry_list_mul (F.args_list_mul_2 _ _) (AutoListH.list___mul___list_int_3 l ai.toArray n k t Qg Qf Dy) ⟨e,?_⟩⟩)
 rw [Qh];exact ⟨.ref _,_,I.IF (t':=s.toks) (r.rep k.toNat) (by rw [len_rep,Nat.mul_comm];exact hz),rfl,q _ I.fresh⟩
end
section
variable {prog:Program} {w:World} {A:Around} {E:aN} {s:Shared}
end
section
variable {X:Cx}
end
end L2
namespace Att
open PySem PySem.W PySem.Calls PyProof.Rows
variable {P:Params} {h:Heap}
theorem Qi:∀(ns:List Int) (vs:List Value),WellAll P h vs (ns.map WData.int)→IntsAre vs ns:=by
 intro ns
 induction ns with
 | nil=>intro vs w;rw [wJ] at w;cases w;exact .nil
 | cons n ns ih=>
  intro vs w;rw [cG] at w;cases w with
  | cons a b=>cases a;exact .cons _ _ (ih _ b)
variable {l:OpenLaw} {n:Nat}
theorem Qj(hn:l.most=some n){args:List WData}{vals:List Value}
  (zT:l.row.toRowW.claim.pre args=true) (DA:WellAll P h vals args) :
  ∃a vs ns,vals=[Value.ref a]∧args=[WData.list (ns.map WData.int)]∧h.get? a=some {cls:=.type "list",data:=.seq vs.toArray}∧IntsAre vs ns∧ns.length≤n:=by
 have Qk:WShape.hasAll [] args [.list .int]=true:=(pre_splitW zT).1;have hc:l.pre.holds [] {args:=args}=true:=(pre_splitW zT).2;obtain ⟨d,r,rfl,h1,h2⟩:=hasAllW_cons Qk;obtain rfl:=hasAllW_nil h2;obtain ⟨xs,rfl,h3⟩:=hasW_list h1;obtain ⟨ns,rfl⟩:=items_int h3;have hlen:ns.length≤n:=by
  unfold OpenLaw.pre at hc;have h4:(WTm.not (.lt (.lit (.int (n:Int))) (.len (.arg 0)))).holds [] {args:=[.list (ns.map .int)]}=true:=by have h4:=(holds_andW hc).1;rw [hn] at h4;exact h4
  have h5:=condW_of h4 (w_not (w_lt w_lit (w_len_list (w_arg rfl))));rw [aJ] at h5;refine Nat.le_of_not_lt fun q=>?_;have q':(n:Int)<((ns.length:Nat):Int):=by lia
  first
   | (rw [da q'] at h5;exact absurd h5 (by decide))
   | (simp at h5;lia)
 cases DA with
 | cons w1 w2=>
  cases w2;cases w1 with
  | list ho Ql=>exact ⟨_,_,ns,rfl,rfl,ho,Qi ns _ Ql,hlen⟩
theorem Qm(l:OpenLaw)(args:List WData):l.row.toRowW.claim.post args (.bool true) args=true:=
 postW_of (r:=l.row.toRowW) (X:=(true == true))
  (show WShape.has [] (.bool true) .bool=true by first | rfl | decide | simp [WShape.has,WShape.arms,WShape.armsAll])
  (show (WTm.eq .res (.lit (.bool true))).value [] {args:=args,res:=some (.bool true),after:=args}=some (.bool (true == true)) from w_eq_bool (w_res rfl) w_lit) rfl
theorem Qn{q:Program}{loose:List Str}{XP:(Str→Option Value)→Heap→Prop}{YP:World→Heap→Prop}{d:DefRec}
  (hn:l.most=some n) (xy:d.params.defaults=[])
  (call:∀(w:World) (s₀ s₁:Shared) (mg mb:dq) (fa:Addr) (o:Obj) (pm cd doc:Value) (a:Addr) (vs:List Value) (ns:List Int),
   Ground q loose [] XP w s₀ mg mb s₁.heap→YP w s₁.heap→
   s₁.heap.get? fa=some o→o.data=.func (docDef d.name d.params d.body d.scope pm cd doc)→s₁.heap.CodeRec cd d.name→mg d.name=some (.ref fa)→
   s₁.heap.get? a=some {cls:=.type "list",data:=.seq vs.toArray}→IntsAre vs ns→ns.length≤n→s₁.gens = #[]→
   codeAny (model l.prog w) callerA (.call (.ref fa) ⟨[.ref a],[]⟩) (fun r s'=>r=.ok (.ret (.bool true))∧OldK s₁.heap s'.heap∧s'.os=s₁.os∧AllBare s'.gens) s₁) :
  WalkO q loose XP YP l.row.toRowW d [] (fun f vs=>PySem.call f vs):=by
 intro w s₀ s₁ mg mb G Y fa o pm cd doc dV kV ho hd f9 hD xA hg args vals as zT aep hrd DA hlo;obtain rfl:dV=.none:=Dflts.none hD xy;obtain rfl:kV=.none:=Dflts.noKw hD;obtain ⟨a,vs,ns,rfl,rfl,DB,hints,hlen⟩:=Qj hn zT DA;refine enter_call (codeAny_mono (call w s₀ s₁ mg mb fa o pm cd doc a vs ns G Y ho (fd_plain hd) f9 xA DB hints hlen hg) fun r s' hq=>?_);obtain ⟨rfl,h2,h3,h4⟩:=hq;exact ⟨.inl ⟨.bool true,.bool true,[],rfl,fun _=>rfl,.bool true,Qm l _,fun _=>⟨List.Pairwise.nil,fun _ hm=>(nomatch hm)⟩⟩,h2,h3,h4⟩
section
variable {prog:Program} {w:World} {A:Around} {E:aN} {s:Shared} {K:Frag}
end
end Att
namespace L2
open PySem PySem.Spec PyProof.Rows
theorem IJ:∀{vs:List Value} {ns:List Int},IntsAre vs ns→Vals (ns.map V.int) vs
 | _,_,.nil=>.nil
 | _,_,.cons n t h=>.cons ⟨t,rfl⟩ (IJ h)
def DC(H:Hp):Prop:=∀b,H b=none∨∃o xs,H b=some (.cP o (.lst xs))
variable {K:aC} {k:Nat} {a:Addr} {x:Str}
theorem Qo{P:Program}{w:World}{mg mb:dq}{CX:iz}{fa:Addr}{fd:FuncData}{sp:Sp}{s₁:Shared}{vs:List Value}{ns:List Int}
  (KX:K.In s₁.heap) (IK:s₁.heap.Ns mainGlobals mg) (hb:s₁.heap.Ns builtinsNs mb) (Qp:∀x:Str,x ≠ "__name__"→mb x=bootBuiltins x) (Qq:s₁.heap.NoLimit) (hg:s₁.gens = #[])
  (ha:s₁.heap.get? a=some {cls:=.type "list",data:=.seq vs.toArray}) (hi:IntsAre vs ns) (hl:ns.length≤sizeLine) (hr:dr k callerA)
  (F:∀base:Heap,K.In base→base.Ns mainGlobals mg→bh P w K mg base CX k fa fd [x] sp) (Qr:∀(s:Shared) (u:Value),BindsTo s fd ⟨[u],[]⟩ [(x,u)])
  (jQ:∀H:Hp,DC H→bZ K H a (ns.map V.int)→sp [.ref a] H (fun v _=>v=.bl true) fun _ _ _=>False)
  (DD:∀H e s',CX [] H s₁ (fun _ _ _=>False) e s'→False) :
  codeAny (model P w) callerA (.call (.ref fa) ⟨[.ref a],[]⟩) (fun r s'=>r=.ok (.ret (.bool true))∧OldK s₁.heap s'.heap∧s'.os=s₁.os∧AllBare s'.gens) s₁:=by
 have rv:=IJ hi;have Qs:=hi.length
 have core:∀H:Hp,DC H→bZ K H a (ns.map V.int)→cL P w H s₁.heap→(∀b,H b≠none→b=a)→(H a≠none→K.lookup a=none)→
   codeAny (model P w) callerA (.call (.ref fa) ⟨[.ref a],[]⟩) (fun r s'=>r=.ok (.ret (.bool true))∧OldK s₁.heap s'.heap∧s'.os=s₁.os∧AllBare s'.gens) s₁:=by
  intro H hO hS aD hA hK;have IL:∀{b:Addr} {o:Obj},s₁.heap.get? b=some o→H b=none→(mB s₁.heap H).get? b=some o:=fun e n=>N9 e n;have xr:∀{b:Addr} {o:Obj} {es:Array DictEntry} {ep:Nat},s₁.heap.get? b=some o→o.data=.dict es ep→H b=none:=fun{b o es ep} e d=>by
   cases q:H b with
   | none=>rfl
   | some u=>
    have e':b=a:=hA b (by rw [q];simp)
    subst e';rw [ha] at e;cases e;have d':Data.seq vs.toArray _=Data.dict es ep:=d;cases d'
  have zU:∀{b:Addr} {m:dq},s₁.heap.Ns b m→(mB s₁.heap H).Ns b m:=fun{b m} ⟨o,es,ep,e,d,r⟩=>⟨o,es,ep,IL e (xr e d),d,r⟩;have IM:K.In (mB s₁.heap H):=fun b o e=>IL (KX b o e) (by
   cases q:H b with
   | none=>rfl
   | some u=>
    have e':b=a:=hA b (by rw [q];simp)
    subst e';rw [hK (by rw [q];simp)] at e;cases e)
  have hM:Mod K mg (mB s₁.heap H):=⟨IM,zU IK,⟨mb,zU hb,Qp⟩,let ⟨mc,h1,h2⟩:=Qq;⟨mc,zU h1,h2⟩⟩
  have e0:pI P w K mg (mB s₁.heap H) callerA [] s₁ H:=⟨rfl,hM,fun b o e=>N_ e,Nat.le_of_eq (N8 _ _),trivial,fun b hb=>absurd (show b∈([]:List Addr) from hb) (by simp),aD,.of_eq hg⟩
  refine codeAny_mono ((F _ IM (zU IK)).run callerA [] s₁ H ⟨[.ref a],[]⟩ [.ref a] [.ref a] _ _ hr e0 (Qr s₁ (.ref a)) (.cons rfl .nil) (jQ H hO hS)) fun r s' h=>?_;cases r with
  | error e=>exact (DD H e s' h).elim
  | ok fl=>
   cases fl with
   | next=>exact False.elim h
   | brk=>exact False.elim h
   | cont=>exact False.elim h
   | ret u=>
    obtain ⟨v,H',os,bare,un,Qt,r',q⟩:=h;have q':v=.bl true:=q;subst q';obtain rfl:u=Value.bool true:=r';refine ⟨rfl,OldK.of_keep fun b o e=>?_,os,bare⟩;cases q:H b with
    | none=>exact un.keep b o e q (by intro z;exact absurd (show b∈([]:List Addr) from z) (by simp)) (by simp)
    | some u=>
     rcases hO b with z | ⟨ob,xs,z⟩;·rw [q] at z;cases z
     ·have z2:=un.g8 b ob _ z
      obtain ⟨e1,_⟩:=aD b _ z;obtain ⟨e2,_⟩:=Qt b _ z2;rw [e] at e1;cases e1;exact e2
 cases hk:K.lookup a with
 | some o=>have e:=KX a o hk;rw [ha] at e;cases e;refine core (fun _=>none) (fun _=>.inl rfl) (.inr ⟨_,vs.toArray,_,hk,rfl,rfl,rfl,by rw [cI,Qs];exact hl,by simpa using rv⟩) (fun b u z=>by have z':(none:Option HO)=some u:=z;cases z') (fun b z=>absurd rfl z) fun z=>absurd rfl z
 | none=>
  refine core (fun b=>if b=a then some (.cP {cls:=.type "list",data:=.seq vs.toArray} (.lst (ns.map V.int))) else none) (fun b=>?_) (.inl (.inr ⟨{cls:=.type "list",data:=.seq vs.toArray},ak rfl⟩)) (fun b u z=>?_) (fun b z=>?_) fun _=>hk
  ·by_cases hb:b=a
   ·exact .inr ⟨_,_,ak hb⟩
   ·exact .inl (aj hb)
  ·by_cases hb:b=a
   ·have z':=(ak hb).symm.trans z
    cases z';subst hb;exact ⟨ha,by rw [aJ];exact hl,vs,_,rv,ha⟩
   ·have z':=(aj hb).symm.trans z
    cases z'
  ·by_cases hb:b=a
   ·exact hb
   ·exact absurd (aj hb) z
abbrev IP {K:aC} {h:Heap} (_:K.In h):PySem.W.Frag:=K
variable {n:Nat}
theorem Qu{l:PySem.W.OpenLaw}{q:Program}{loose:List Str}{XP:(Str→Option Value)→Heap→Prop}{YP:World→Heap→Prop}{d:DefRec}{K:Params→PySem.W.Frag}{CX:World→iz}{sp:World→Sp}
  (hn:l.most=some n) (sI:n≤sizeLine) (xy:d.params.defaults=[]) (hr:dr k callerA)
  (hY:∀(w:World) (h:Heap),YP w h→(K w.params).In h)
  (F:∀(w:World) (mg:dq) (fa:Addr) (h:Heap),(K w.params).In h→h.Ns mainGlobals mg→mg d.name=some (.ref fa)→
   ∃fd:FuncData,(∀(s:Shared) (u:Value),BindsTo s fd ⟨[u],[]⟩ [(x,u)]) ∧
    ∀base:Heap,(K w.params).In base→base.Ns mainGlobals mg→bh l.prog w (K w.params) mg base (CX w) k fa fd [x] (sp w))
  (jQ:∀(w:World) (H:Hp) (a:Addr) (ns:List Int),ns.length≤n→DC H→bZ (K w.params) H a (ns.map V.int)→sp w [.ref a] H (fun v _=>v=.bl true) fun _ _ _=>False)
  (DD:∀(w:World) (H:Hp) (s:Shared) (e:Value) (s':Shared),CX w [] H s (fun _ _ _=>False) e s'→False) :
  PySem.W.WalkO q loose XP YP l.row.toRowW d [] (fun f vs=>PySem.call f vs):=by
 refine Att.Qn hn xy fun w s₀ s₁ mg mb fa o pm cd doc a vs ns G Y ho hd f9 xA DB hints hlen hg=>?_;have KX:=hY w _ Y;obtain ⟨fd,hb,hF⟩:=F w mg fa _ KX G.T.g xA;exact Qo KX G.T.g G.T.b G.T.builtins G.T.nolimit hg DB hints (bE hlen sI) hr hF hb (fun H hO hS=>jQ w H a ns hlen hO hS) fun H e s'=>DD w H s₁ e s'
def inClass(s:Stmt)(j:Nat):Stmt:=match s with
 | .ClassDef _ _ _ body _ _ _ _ _ _ _=>body.getD j (.Pass ⟨0,0,0,0⟩)
 | _=>.Pass ⟨0,0,0,0⟩
def jq(s:Stmt):Arguments:=match s with
 | .FunctionDef _ a _ _ _ _ _ _ _ _=>a
 | _=>{posonlyargs:=[],args:=[],vararg:=none,kwonlyargs:=[],kw_defaults:=[],kwarg:=none,defaults:=[]}
def gC(s:Stmt):List Stmt:=match s with
 | .FunctionDef _ _ b _ _ _ _ _ _ _=>b
 | _=>[]
def aP(s:Stmt):Scope:=match s with
 | .FunctionDef _ _ _ _ _ _ sc _ _ _=>sc
 | _=>{kind:=.function,names:=[],isGenerator:=false,isCoroutine:=false}
abbrev b5:iz:=fun _ _ _ _ _ _=>False
abbrev E0:XK:=fun _ _ _=>False
theorem aM{X:Cx}:Passes b5 X E0:=fun _ _ _ _ _ _ _ h=>h.elim
structure eP (K:aC) (x qual:Str) (st:Stmt) (f:Addr) (fd:FuncData):Prop where
 ex:∃(oc:Value) (od:Option Addr) (kV doc pm:Value) (an:Option Addr) (bq ct:Value) (gh:Array (Option Value)),
  fd=PySem.W.fnOf x qual (jq st) (gC st) (aP st) .none kV doc pm an bq ct∧K.lookup f=some ⟨oc,od,.func fd,gh⟩∧PySem.W.codeIn K bq qual=true
 kp:PySem.W.keepIn K (.ref f)=true
abbrev aE (K:aC) (x:Str) (st:Stmt) (f:Addr) (fd:FuncData):Prop:=eP K x x st f fd
section
variable {P:Program} {w:World} {K:aC} {mg:dq} {base:Heap}
variable {qual:Str} {st:Stmt} {f:Addr} {fd:FuncData} {N ps:List Str} {sp:Sp}
theorem eP.ok(F:eP K x qual st f fd)(S:bD N ps (aP st))(len:∀vs H Q E,sp vs H Q E→vs.length=ps.length)
  (kN:∀(bq:Value) (A:Around) (outer:List Env) (s:Shared) (H:Hp) (vs:List V) (Q:VK) (E:XK),dr k (A.deeper (envOfC qual (aP st) s.heap.objs.size f bq))→sp vs H Q E→
   ∃t,eZ (jo b5 P w K mg base N qual (aP st) f bq A outer s H E).lH (gC st) t∧t {nx:=fun _ H'=>Q .aV H',rt:=Q} (start N vs) H):bh P w K mg base b5 (k+1) f fd ps sp:=by
 obtain ⟨oc,od,kV,doc,pm,an,bq,ct,gh,rfl,lk,f9⟩:=F.ex;refine Dr lk f9 S len fun A outer s H vs Q E hr jQ=>?_;obtain ⟨t,h,q⟩:=kN bq A outer s H vs Q E hr jQ;exact ⟨t,h.lH,q⟩
theorem eP.cm(F:eP K x qual st f fd)(S:bD N ps (aP st))
  (kN:∀(bq:Value) (A:Around) (outer:List Env) (s:Shared) (H:Hp) (vs:List V) (Q:VK) (E:XK),dr k (A.deeper (envOfC qual (aP st) s.heap.objs.size f bq))→sp vs H Q E→
   ∃t,eZ (jo b5 P w K mg base N qual (aP st) f bq A outer s H E).lH (gC st) t∧t {nx:=fun _ H'=>Q .aV H',rt:=Q} (start N vs) H)
  (len:∀vs H Q E,sp vs H Q E→vs.length=ps.length:=by intro vs H Q E h;repeat first | (obtain ⟨rfl,_⟩:=h;rfl) | (subst h;rfl) | obtain ⟨_,h⟩:=h):bh P w K mg base b5 (k+1) f fd ps sp:=F.ok S len kN
theorem eP.binds(F:eP K x qual st f fd)
  (h:∀(kV doc pm:Value) (an:Option Addr) (bq ct:Value) (us:List Value),us.length=ps.length→bindArgs (PySem.W.fnOf x qual (jq st) (gC st) (aP st) .none kV doc pm an bq ct) ⟨us,[]⟩=pure (ps.zip us)):Binds K fd ps []:=by
 obtain ⟨oc,od,kV,doc,pm,an,bq,ct,gh,rfl,lk,f9⟩:=F.ex;exact .all (h kV doc pm an bq ct)
theorem eP.bJ(F:eP K x qual st f fd)
  (h:∀(kV doc pm:Value) (an:Option Addr) (bq ct:Value) (us:List Value),us.length=ps.length→bindArgs (PySem.W.fnOf x qual (jq st) (gC st) (aP st) .none kV doc pm an bq ct) ⟨us,[]⟩=pure (ps.zip us):=by intro _ _ _ _ _ _ us hl;rcases us with _ | ⟨_,_ | ⟨_,_ | ⟨_,_ | ⟨_,_ | ⟨_,_ | ⟨_,_ | ⟨_,_⟩⟩⟩⟩⟩⟩⟩ <;> first | rfl | (simp at hl;done)):Binds K fd ps []:=F.binds h
theorem bK{oc:Value}{od an:Option Addr}{gh:Array (Option Value)}{kV doc pm bq ct:Value}(l:K.lookup f=some ⟨oc,od,.func (PySem.W.fnOf x qual (jq st) (gC st) (aP st) .none kV doc pm an bq ct),gh⟩)
  (c:PySem.W.codeIn K bq qual=true) (k:PySem.W.keepIn K (.ref f)=true):eP K x qual st f (PySem.W.fnOf x qual (jq st) (gC st) (aP st) .none kV doc pm an bq ct):=⟨⟨oc,od,kV,doc,pm,an,bq,ct,gh,rfl,l,c⟩,k⟩
end
theorem cN(h:n≤1000):n<sizeLine:=jH h (by decide)
section
variable {X:Cx}
theorem pv(i:Nat){pos:Pos}(hN:X.N[i]?=some x:=by rfl)(hv:nK X.env.scope x:=by first | exact Or.inl rfl | exact Or.inr (Or.inl rfl) | exact Or.inr (Or.inr rfl))(hd:(x == ("__debug__":Str))=false:=by decide)
  (f9:(x == ("__classdict__":Str))=false:=by decide):PE X (.Name x pos) (nM i):=Oh hN hv hd f9
end
variable {A B:Prop}
theorem cR(h:B):if false=true then A else B:=by rw [aj dI];exact h
theorem e9(h:A):if true=true then A else B:=by rw [ak rfl];exact h
theorem cS{c:Prop}[Decidable c](h1:c→A)(h2:¬c→B):if c then A else B:=by
 by_cases h:c
 ·rw [ak h]
  exact h1 h
 ·rw [aj h]
  exact h2 h
def af(H H':Hp):Prop:=∀b o,H b=some o→H' b=some o
theorem af.refl(H:Hp):af H H:=fun _ _ h=>h
variable {H:Hp}
theorem af.trans{H1 H2:Hp}(a:af H H1)(b:af H1 H2):af H H2:=fun c o h=>b c o (a c o h)
theorem af.seq{H':Hp}{xs:List V}(e:af H H')(h:bZ K H a xs):bZ K H' a xs:=by
 rcases h with (h | ⟨o,h⟩) | h;·exact .inl (.inl (e _ _ h))
 ·exact .inl (.inr ⟨o,e _ _ h⟩)
 ·exact .inr h
end L2
set_option maxHeartbeats 4000000
namespace L2
open PySem PySem.Spec PyProof.Rows
structure zV (P:Program) (w:World) (outer:List Env) (H:Hp) (s:Shared) (H':Hp) (ea C:Addr) (B:Heap) (t:Addr) (s':Shared):Prop where
 os:s'.os=s.os
 bare:AllBare s'.gens
 fl:Heap.FlyingW B outer ea (.ref C) (.ref t) s'.heap
 aD:cL P w H' B
 kb:∀b o,s.heap.get? b=some o→H b=none→b∉cV outer→B.get? b=some o
 tb:∀b o,s.heap.get? b=some o→b∉cV outer→∃o',B.get? b=some o'
 sl:∀b o,s.heap.get? b=some o→H b=none→b∈cV outer→∃l,s'.heap.get? b=some {o with slots:=l}
 frh:∀b∈cV outer,H b=none
 Qv:∀b o,s.heap.get? b=some o→H b=none→H' b=none
 iq:∀b xs,H b=some (.tup xs)→H' b=some (.tup xs)
 g8:∀b o u,H b=some (.cP o u)→H' b=some (.cP o u)
 ir:∀b ps,H b=some (.mw ps)→∃more,H' b=some (.mw (ps++more))
def dX(P:Program)(w:World):iz:=fun outer H s E e s'=>∃ea C H' B t,e=.ref ea∧zV P w outer H s H' ea C B t s'∧E (.ref C) none H'
section
variable {P:Program} {w:World} {outer:List Env} {H H':Hp} {s s':Shared} {ea C t:Addr} {B:Heap}
def ExcAt(ea C:Addr)(h:Heap):Prop:=∃oe,h.get? ea=some oe∧oe.cls=.ref C∧PySem.W.notCls oe=true
def Qw(ea C:Addr):HO:=.ext (ExcAt ea C)
end
section
variable {X:Cx} {pins:a9} {σ:St} {H H':Hp} {s s':Shared} {ea C t:Addr} {B:Heap}
structure sQ (X:Cx) (E:XK):Prop where
 jf:X.stack=X.env::X.outer
 fr:X.env.frame=some X.env.locals
 ex:X.ex=[]
 xe:X.xe=fun e s'=>wpAny (model X.prog X.w) X.A (leaving X.env e) (fun _ hE=>dX X.prog X.w X.outer X.H₀ X.s₀ E e hE) (fun e' hE=>dX X.prog X.w X.outer X.H₀ X.s₀ E e' hE) s'
theorem zW{env:Env}{outer:List Env}{L:Addr}(h:env.frame=some L):cV (env::outer)=L::cV outer:=by unfold cV;rw [y6,h]
variable {E:XK}
theorem zV.leave(L:sQ X E)(I:Inv X pins σ H s)(f:zV X.prog X.w X.stack H s H' ea C B t s'){h:Heap}(x:Heap.FlyingW B X.outer ea (.ref C) (.ref t) h)(up:s'.heap.UpToSlots h):zV X.prog X.w X.outer X.H₀ X.s₀ H' ea C B t {s' with heap:=h}:=by
 have nL:∀b o,X.s₀.heap.get? b=some o→b≠X.env.locals:=fun b o e=>dC (dF (bP e) I.ok.above);have ns:∀b o,X.s₀.heap.get? b=some o→b∉cV X.outer→b∉cV X.stack:=fun b o e nb z=>by
  rw [L.jf,zW L.fr] at z;rcases c_.mp z with z | z;·exact nL b o e z
  ·exact nb z
 have nx:∀b:Addr,b∉X.ex:=fun b z=>by rw [L.ex] at z;cases z
 refine ⟨f.os.trans I.os,f.bare,x,f.aD,fun b o e n nb=>?_,fun b o e nb=>?_,fun b o e n hb=>?_,I.ok.mC,fun b o e n=>?_,fun b xs e=>f.iq b xs (I.base.iq b xs e),fun b o u e=>f.g8 b o u (I.base.g8 b o u e),fun b ps e=>?_⟩;·exact f.kb b o (I.base.keep b o e n nb (nx b)) (I.base.free b o e n (nx b)) (ns b o e nb)
 ·obtain ⟨o',e'⟩:=I.base.there b o e (nx b)
  exact f.tb b o' e' (ns b o e nb)
 ·obtain ⟨l,q⟩:=I.base.slot b o e n hb (nx b)
  have hs:b∈cV X.stack:=by rw [L.jf,zW L.fr];exact fA _ hb
  obtain ⟨l2,q2⟩:=f.sl b _ q (I.base.free b o e n (nx b)) hs;obtain ⟨_,o2,q3,nf⟩:=f.fl.2.2.1.mem hs;rw [q2] at q3;cases q3;obtain ⟨l3,q4⟩:=up b _ q2 nf;exact ⟨l3,q4⟩
 ·obtain ⟨o',e'⟩:=I.base.there b o e (nx b)
  exact f.Qv b o' e' (I.base.free b o e n (nx b))
 ·obtain ⟨m1,e1⟩:=I.base.ir b ps e
  obtain ⟨m2,e2⟩:=f.ir b _ e1;exact ⟨m1++m2,by rw [e2,Array.append_assoc]⟩
theorem lO:Passes (dX X.prog X.w) X (fun _ _ _=>False):=fun pins σ H s e s' I h=>by obtain ⟨_,_,_,_,_,_,_,q⟩:=h;exact q.elim
theorem nX(L:sQ X E):Passes (dX X.prog X.w) X E:=fun pins σ H s e s' I h=>by
 obtain ⟨ea,C,H',B,t,rfl,f,q⟩:=h;rw [L.xe];refine wpAny_leaves_onW (by rw [I.ok.frames,L.jf]) L.fr (by have z:=f.fl;rw [L.jf] at z;exact z) fun h' x up=>?_
 exact ⟨ea,C,H',B,t,rfl,f.leave L I x up,q⟩
end
variable {K:aC} {h:Heap}
theorem Qx{C:Addr}{sR:List Value}{newId:String}(df:K.In h)(hq:PySem.W.excIn K C sR newId=true) :
  ∃bm N nm qn bs hdct sn sub ab col dd k0 k1 k2 k3 k5 mN,h.get? C=some (excClassObj nm qn C N bs bm hdct sn sub ab col dd k0 k1 k2 k3 k5 newId)∧h.Ns N mN∧mN "__init__"=none∧OwnTail h sR bm∧PySem.W.mroIn K C=fun b=>some ((Value.ref C::bm).contains b):=by
 unfold PySem.W.excIn at hq
 split at hq
 ·rename_i sS cls slt look
  split at hq
  ·rename_i CC rest a0 a1 a2 a3 nn a5 em es
   simp only [Bool.and_eq_true,lq,Bool.not_eq_true'] at hq;obtain ⟨⟨⟨⟨⟨e1,e2⟩,e3⟩,e4⟩,e5⟩,e6⟩:=hq;subst e1 e2;have Qy:PySem.W.mroIn K CC=fun b=>some ((Value.ref CC::rest).contains b):=by
    funext b
    unfold PySem.W.mroIn PySem.W.clsIn;rw [look];simp [em]
   obtain ⟨c1,c2,c3,c4,c5,c6,c7,c8,c9,Qz,c11⟩:=cls;dsimp only at em e3 e5 e6;subst em e3;have QA:slt = #[a0,a1,a2,a3,some (.builtin nn),a5]:=by obtain ⟨ll⟩:=slt;simp only at es;rw [es]
   subst QA;exact ⟨rest,c4,c1,c5,c2,c6,c7,c8,c9,Qz,sS,a0,a1,a2,a3,a5,_,df _ _ look,.of_isNs (PySem.W.isNs_of_in df e5),PySem.W.nsMap_none_of_in df e5 e6,PySem.W.tail_of_in df e4,Qy⟩
  ·cases hq
 ·cases hq
section
variable {X:Cx} {E:XK} {x:Str} {C:Addr} {np fH pos:Pos} {e:Expr} {es:List Expr} {ta:TA} {B newId QB:String} {sR:List Value}
def QC(C:Addr)(E:XK)(ta:TA):TS:=fun _ σ H=>ta σ H fun vs H1=>vs.length≤sizeLine∧E (.ref C) none H1
theorem nY(L:sQ X E)(hc:X.calm=true)(FB:ExcBaseFacts B newId QB sR)(hq:PySem.W.excIn X.K C sR newId=true)(hg:Gl X x)(hm:X.mg x=some (.ref C))(ha:PA X (e::es) ta)
  (hs:starEach (e::es) X.env=(false,eval e X.env)::starEach es X.env:=by rfl) (hp:(backTo fH (starEach es X.env)).any (·.1)=false:=by rfl) (hd:(x == ("__debug__":Str))=false:=by decide) :
  PS X (.Raise (some (.Call (.Name x np) (e::es) [] fH)) none pos) (QC C E ta):=by
 intro pins s σ H D I h;obtain ⟨bm,N,nm,qn,bs,hdct,sn,sub,ab,col,dd,k0,k1,k2,k3,k5,mN,hC,hN,QD,T,_⟩:=Qx I.ok.mod.df hq
 refine wpAny_Raise_call_subT (C:=C) (nm:=nm) (q:=qn) (N:=N) (bs:=bs) (bm:=bm) (hdct:=hdct) (sn:=sn) (sub:=sub) (ab:=ab) (col:=col) (dd:=dd) (k0:=k0) (k1:=k1) (k2:=k2) (k3:=k3) (k5:=k5) FB (mN:=mN) (T.hasType FB.hasBase) (I.ok.hd hc)
  (by rw [hs];show (false || (backTo fH (starEach es X.env)).any (·.1))=false;rw [hp];rfl) QD (zB I hg hm ⟨rfl,?_⟩ hd)
 have h1:=ha fH pins s σ H _ I h;rw [hs] at h1 ⊢;refine Calls.evalArgs_plain (aR h1 fun us s2 ⟨vs,H1,I1,r,hl,q⟩=>⟨rfl,by rw [←r.length];exact hl,I1.bk _ _ hC,hN.keeps I1.bk,T.keeps I1.bk,fun h' ea mk=>?_⟩)
 rw [L.xe];have nL:∀b o,X.s₀.heap.get? b=some o→b≠X.env.locals:=fun b o q=>dC (dF (bP q) I1.ok.above);have ns:∀b o,X.s₀.heap.get? b=some o→b∉cV X.outer→b∉cV X.stack:=fun b o q nb z=>by
  rw [L.jf,zW L.fr] at z;rcases c_.mp z with z | z;·exact nL b o q z
  ·exact nb z
 have nx:∀b:Addr,b∉X.ex:=fun b z=>by rw [L.ex] at z;cases z
 have ff:s2.heap.FunFrames (PySem.W.hideAll s2.heap (cV X.stack)) (X.env::X.outer):=by have z:=I1.stack;rw [←L.jf];exact PySem.W.funFrames_hide z fun env he a hf=>List.mem_filterMap.mpr ⟨env,he,hf⟩
 refine wpAny_leaves_madeW (base:=PySem.W.hideAll s2.heap (cV X.stack)) (h:=s2.heap) (by rw [I1.ok.frames,L.jf]) L.fr (fun b o q=>PySem.W.of_hideAll _ q) ff mk fun h2 t fl _ _ up=>?_
 refine ⟨ea,C,H1,_,t,rfl,⟨I1.os,I1.bare,fl,fun a o e1=>?_,fun b o e1 n nb=>?_,fun b o e1 nb=>?_,fun b o e1 n hb=>?_,I1.ok.mC,fun b o e1 n=>?_,I1.base.iq,I1.base.g8,I1.base.ir⟩,q⟩
 ·refine (I1.aD a o e1).kG (fun b u hb e2=>y4 _ e2 fun z=>?_) (fun _ z=>z) fun _ _ z=>z
  have n0:=I1.xg b z;rcases hb with hb | hb
  ·subst hb
   rw [e1] at n0;cases n0
  ·rw [hb] at n0
   cases n0
 ·exact y4 _ (I1.base.keep b o e1 n nb (nx b)) (ns b o e1 nb)
 ·obtain ⟨o',e2⟩:=I1.base.there b o e1 (nx b)
  exact ⟨o',y4 _ e2 (ns b o e1 nb)⟩
 ·obtain ⟨l,e2⟩:=I1.base.slot b o e1 n hb (nx b)
  have lJ:b∈cV X.stack:=by rw [L.jf,zW L.fr];exact fA _ hb
  obtain ⟨_,o2,e3,nf⟩:=I1.stack.mem lJ;rw [e2] at e3;cases e3;obtain ⟨l2,e4⟩:=up b _ (mk.keeps _ _ e2) nf;exact ⟨l2,e4⟩
 ·obtain ⟨o',e2⟩:=I1.base.there b o e1 (nx b)
  exact I1.base.free b o e1 n (nx b)
end
section
variable {X:Cx} {k:Nat} {f C:Addr} {fd:FuncData} {ps:List Str} {sp:Sp} {fF:List V} {ds:List Value} {x m:Str} {p pos apos:Pos} {e o:Expr} {es:List Expr} {ta:TE} {t:TA}
variable {te:TX} {i:Nat} {pos':Pos}
end
section
variable {X:Cx} {pins:a9} {σ:St} {H:Hp} {s:Shared} {ea:Addr}
end
section
variable {M:Model} {A:Around} {E:aN} {h:Heap} {g:Array GenState} {d:Drawn} {t:Nat} {os:OsState} {e:Addr} {oe:Obj} {Q:Bool→Shared→Prop}
variable {nm q nm' q':Str} {C N D N':Addr} {bs bm bs' zX:List Value} {hdct aew:Bool} {sn sn':List Str} {sub aey:List Value} {ab ab':Bool} {col aeA:Option Bool} {dd xB:Option Addr} {k0 k1 k2 k3 k5 j0 j1 j2 j3 j5:Option Value} {newId aeB:String}
end
section
variable {X:Cx} {body:List Stmt} {b₀:Stmt} {aeC:List Stmt} {np aeD pos:Pos} {x n:Str} {D:Addr} {tb:TSX} {ts:TS} {sR:List Value} {newId:String} {i:Nat}
end
section
variable {P:Program} {w:World} {K:aC} {mg:dq} {base:Heap}
variable {x qual:Str} {st:Stmt} {f:Addr} {fd:FuncData} {N ps:List Str} {k:Nat} {sp:Sp}
theorem eP.DE(F:eP K x qual st f fd)(S:bD N ps (aP st))(len:∀vs H Q E,sp vs H Q E→vs.length=ps.length)
  (kN:∀(bq:Value) (A:Around) (outer:List Env) (s:Shared) (H:Hp) (vs:List V) (Q:VK) (E:XK),dr k (A.deeper (envOfC qual (aP st) s.heap.objs.size f bq))→sp vs H Q E→
   sQ (jo (dX P w) P w K mg base N qual (aP st) f bq A outer s H E) E→
   ∃t,eZ (jo (dX P w) P w K mg base N qual (aP st) f bq A outer s H E) (gC st) t∧t {nx:=fun _ H'=>Q .aV H',rt:=Q} (start N vs) H):bh P w K mg base (dX P w) (k+1) f fd ps sp:=by
 obtain ⟨oc,od,kV,doc,pm,an,bq,ct,gh,rfl,lk,f9⟩:=F.ex;exact Dr lk f9 S len fun A outer s H vs Q E hr jQ=>kN bq A outer s H vs Q E hr jQ ⟨rfl,rfl,rfl,rfl⟩
theorem eP.fI(F:eP K x qual st f fd)(S:bD N ps (aP st))
  (kN:∀(bq:Value) (A:Around) (outer:List Env) (s:Shared) (H:Hp) (vs:List V) (Q:VK) (E:XK),dr k (A.deeper (envOfC qual (aP st) s.heap.objs.size f bq))→sp vs H Q E→
   sQ (jo (dX P w) P w K mg base N qual (aP st) f bq A outer s H E) E→
   ∃t,eZ (jo (dX P w) P w K mg base N qual (aP st) f bq A outer s H E) (gC st) t∧t {nx:=fun _ H'=>Q .aV H',rt:=Q} (start N vs) H)
  (len:∀vs H Q E,sp vs H Q E→vs.length=ps.length:=by intro vs H Q E h;repeat first | (obtain ⟨rfl,_⟩:=h;rfl) | (subst h;rfl) | obtain ⟨_,h⟩:=h):bh P w K mg base (dX P w) (k+1) f fd ps sp:=F.DE S len kN
end
structure pM (K:aC) (C:Addr):Prop where
 ci:PySem.W.hasDictIn K C=true
 ga:PySem.W.findIn K (.ref C) "__getattribute__"=some (some (.builtin "BaseException.__getattribute__"))
 gn:PySem.W.findIn K (.ref C) "__getattr__"=some none
 ca:PySem.W.findIn K (.ref C) "__class__"=some (some (.builtin "object.__class__"))
 mo:PySem.W.mroIn K C (.type "object")=some true
 mb:PySem.W.mroIn K C (.type "BaseException")=some true
section
variable {prog:Program} {w:World} {A:Around} {E:aN} {h:Heap} {g:Array GenState} {d:Drawn} {t:Nat} {os:OsState} {K:aC} {a C:Addr} {o:Obj}
theorem QE{R:Result→Shared→Prop}(df:K.In h)(c:pM K C)(hx:h.get? a=some o)(hc:o.cls=.ref C)(hq:R (.ok (.ret (.ref C))) ⟨h,g,d,t,os⟩) :
  codeAny (model prog w) A (.call (.builtin "getset_descriptor.__get__") ⟨[.builtin "object.__class__",.ref a,.ref C],[]⟩) R ⟨h,g,d,t,os⟩:=by
 have IQ:(⟨h,g,d,t,os⟩:Shared).TypeIs (.builtin "object.__class__") "getset_descriptor":=CJ;have L1:=PySem.W.looks_mroIn (M:=model prog w) df c.mo;have ow:=F.owner_object_class;refine codeAny_call_builtin F.slot_gs_get.plain F.entry_gs_get (F.slot_gs_get.check _ _ _ _ _ _ _ _ IQ (F.args_gs_get _ _ _) ?_)
 repeat (any_goals (first | assumption | (with_reducible refine wL hx ?_;rw [hc]) | (rw [ow];with_reducible refine L1.at ?_) | wp_step))
 refine ⟨Code.quiet_builtin _ (by decide +kernel),wM F.entry_object_class ?_⟩
 repeat (any_goals (first | assumption | (with_reducible refine wL hx ?_;rw [hc]) | wp_step))
variable {tk:Tok}
theorem QF{Q:Fin→Shared→Prop}(df:K.In h)(c:pM K C)(hx:h.get? a=some o)(hc:o.cls=.ref C)(hq:Q (.done (.ret (.ref C))) ⟨h,g,d,t,os⟩) :
  wpAny (model prog w) A (Builtin.«object.__getattribute__» ⟨[.ref a,.str "__class__" tk],[]⟩) Q E ⟨h,g,d,t,os⟩:=by
 have IQ:(⟨h,g,d,t,os⟩:Shared).TypeIs (.builtin "object.__class__") "getset_descriptor":=CJ;have L1:=y9 (M:=model prog w) df c.ca;have f5:=CJ;have f6:=F.slot_gs_get.lookup;have f7:=F.slot_gs_set.lookup
 repeat (any_goals (first | assumption | (with_reducible refine wL hx ?_;rw [hc]) | with_reducible refine L1.at ?_ | wp_step))
 refine QE df c hx hc ?_
 repeat (any_goals (first | assumption | wp_step))
theorem QG{M:Model}{nv:Value}{Q:Unit→Shared→Prop}(df:K.In h)(c:pM K C)(hx:h.get? a=some o)(hc:o.cls=.ref C)(hq:Q () ⟨h,g,d,t,os⟩) :
  wpAny M A (checkBuiltinCall "BaseException.__getattribute__" ⟨[.ref a,nv],[]⟩) Q E ⟨h,g,d,t,os⟩:=by
 have hk:builtinKind "BaseException.__getattribute__"=some .slot:=by decide +kernel
 have hs:splitId "BaseException.__getattribute__"=some ("BaseException","__getattribute__"):=by decide +kernel
 have L1:=PySem.W.looks_mroIn (M:=M) df c.mb;have ha:=F.args_bexc_ga (.ref a) nv;simp only [checkBuiltinCall,hk,hs];refine bI ?_;unfold isInstance
 repeat (first | (with_reducible refine wL hx ?_;rw [hc]) | with_reducible refine L1.at ?_ | wp_step)
 exact hq
theorem QH{fill expr:Bool}{Q:aN}(df:K.In h)(c:pM K C)(hx:h.get? a=some o)(hc:o.cls=.ref C)(hq:Q (.ref C) ⟨h,g,d,t,os⟩) :
  wpAny (model prog w) A (getAttrBy (.ref a) (.str "__class__" tk) fill expr) Q E ⟨h,g,d,t,os⟩:=by
 have f3:=F.attrBase_ValueError.ga.bind (.ref a);have z0:(expr && onTheHeap (Value.builtin "BaseException.__getattribute__"))=false:=by cases expr <;> rfl
 have z2:(Value.builtin "BaseException.__getattribute__" == Value.builtin "object.__getattribute__")=false:=by decide +kernel
 have z1:(onTheHeap (Value.ref C) && Value.builtin "BaseException.__getattribute__" == Value.builtin "object.__getattribute__")=false:=by rw [z2];rfl
 have L1:=y9 (M:=model prog w) df c.ga;have L2:=y9 (M:=model prog w) df c.gn
 repeat (any_goals (first | assumption | (with_reducible refine wL hx ?_;rw [hc]) | with_reducible refine L1.at ?_ | with_reducible refine L2.at ?_ | wp_step))
 refine codeAny_call_builtin F.attrBase_ValueError.ga.plain F.entry_bexc_ga (QG df c hx hc (QF df c hx hc ?_))
 repeat (any_goals (first | assumption | wp_step))
theorem QI{Q:Option Value→Shared→Prop}(df:K.In h)(c:pM K C)(hx:h.get? a=some o)(hc:o.cls=.ref C)(hq:Q (some (.ref C)) ⟨h,g,d,t+1,os⟩) :
  wpAny (model prog w) A (getAttr? (.ref a) "__class__") Q E ⟨h,g,d,t,os⟩:=by
 unfold getAttr? getAttrBy?
 repeat (any_goals (first | assumption | with_reducible apply QH df c hx hc | wp_step))
theorem QJ(c:pM K C):PySem.W.KitX K (.ref a) (.ref C) (ExcAt a C) where
 ty:=fun M h _ k=>by obtain ⟨oe,e1,e2,_⟩:=k;exact e2▸(PySem.W.Looks.ld e1).andThen .now
 it:=fun M h df _=>by
  obtain ⟨cd,hc,_⟩:=PySem.W.any_some c.ci;unfold PySem.W.clsIn at hc
  split at hc
  ·rename_i look
   intro A' Q' E' s' k q;unfold isType loadHead;exact bI (wpAny_loadPart (k _ _ (df _ _ look)) (dH q))
  ·cases hc
 ne:=fun h tp dd ai n sl df QK=>by
  obtain ⟨cd,hc,_⟩:=PySem.W.any_some c.ci;refine Bool.eq_false_iff.mpr fun q=>?_;have e:C=tp:=Value.ref.inj (lq.mp q);subst e;unfold PySem.W.clsIn at hc
  split at hc
  ·rename_i look
   have z:=(df _ _ look).symm.trans QK;cases z
  ·cases hc
 ca:=fun{prog w A E Q s} df k z=>by obtain ⟨oe,e1,e2,_⟩:=k;obtain ⟨h,g,d,t,os⟩:=s;exact QI df c e1 e2 z
end
def zY(a:Addr)(h:Heap):Prop:=∃o ep,h.get? a=some o∧o.ExactDict∧o.data=.dict #[] ep∧(a == sysModules)=false
theorem zY.DF{a:Addr}(e:zY a h):PySem.W.KitAt a "dict" h:=by obtain ⟨o,_,e,c,_⟩:=e;exact ⟨o,e,c.1⟩
def IS(a:Addr):HO:=.ext (zY a)
inductive xC (K:aC) (H:Hp):V→Value→Prop where
 | of {x:V} {t:Value} (h:jn K H x t):xC K H x t
 | exc {a C:Addr} (e:H a=some (Qw a C)) (c:pM K C):xC K H (.ref a) (.ref C)
 | sS {a:Addr} (e:H a=some (IS a)):xC K H (.ref a) (.type "dict")
def IT:V→Value
 | .ty n=>.type n
 | .ref a=>.ref a
 | _=>.none
def QL:V→Bool
 | .ty _=>true
 | .ref _=>true
 | _=>false
def QM(K:aC):List V→Hp→VK→Prop:=fun xs H Q=>∃x c t b,xs=[x,c]∧QL c=true∧xC K H x t∧PySem.W.kitOne K t (IT c)=some b∧Q (.bl b) H
variable {X:Cx}
theorem xD(hK:X.K=K:=by rfl):gc X (.builtin "isinstance") (QM K):=by
 intro pins s σ H xs us Q I r h;subst hK;obtain ⟨x,c,t,b,rfl,hc,ty,e,q⟩:=h;obtain ⟨u,cv,rfl,rx,rc⟩:=vals2 r;have ec:cv=IT c:=by
  cases c with
  | ty n=>exact rc
  | ref a=>exact rc
  | _=>cases hc
 subst ec;cases ty with
 | of ty=>exact Pj I rx ty e fun tk=>⟨.bl b,H,I.tok tk,rfl,q⟩
 | @sS a ea=>cases rx;obtain ⟨k,_,_⟩:=(show cQ X.prog X.w H s.heap a (.ext (zY a)) from I.aD a _ ea);exact i9 PySem.W.kitx_dict I.dW k.DF e (fun z=>nomatch z) fun tk=>⟨.bl b,H,I.tok tk,rfl,q⟩
 | @exc a C ea cc=>cases rx;obtain ⟨k,_,_⟩:=(show cQ X.prog X.w H s.heap a (.ext (ExcAt a C)) from I.aD a _ ea);exact i9 (QJ cc) I.dW k e (fun z=>nomatch z) fun tk=>⟨.bl b,H,I.tok tk,rfl,q⟩
def iC:List V→List V→Bool
 | [],[]=>true
 | x::xs,y::ys=>mK x y && iC xs ys
 | _,_=>false
def zZ(K:aC)(neg:Bool):R2:=fun x y H Q=>∃a b xs ys,x=.ref a∧y=.ref b∧dN K H a xs∧dN K H b ys∧xs.all mJ=true∧ys.all mJ=true∧Q (.bl (if neg then !iC xs ys else iC xs ys)) H
theorem DG{A:Around}{s:Shared}:∀{xs ys:List V} {us vs:List Value},Vals xs us→Vals ys vs→xs.all mJ=true→ys.all mJ=true→
  ∃e:Nat→Bool,(∀j (h1:j<us.length) (h2:j<vs.length),SeqAt.EqAt A s us[j] vs[j] (e j))∧((List.range (min us.length vs.length)).all e && us.length == vs.length)=iC xs ys
 | [],[],_,_,.nil,.nil,_,_=>⟨fun _=>true,fun j h1=>absurd h1 (oQ _),by simp [iC]⟩
 | [],_::_,_,_,.nil,.cons _ _,_,_=>⟨fun _=>true,fun j h1=>absurd h1 (oQ _),by simp [iC]⟩
 | _::_,[],_,_,.cons _ _,.nil,_,_=>⟨fun _=>true,fun j _ h2=>absurd h2 (oQ _),by simp [iC]⟩
 | x::xs,y::ys,u::us,v::vs,.cons r1 t1,.cons r2 t2,f1,f2=>by
  rw [List.all_cons,Bool.and_eq_true] at f1 f2;obtain ⟨e,h,q⟩:=DG (A:=A) (s:=s) t1 t2 f1.2 f2.2;refine ⟨fun j=>match j with | 0=>mK x y | k+1=>e k,fun j h1 h2=>?_,?_⟩
  ·cases j with
   | zero=>exact zR r1 r2 f1.1 f2.1
   | succ k=>exact h k (by simpa using h1) (by simpa using h2)
  ·have em:min (u::us).length (v::vs).length=min us.length vs.length+1:=by simp only [fY];lia
   rw [em,CK,List.all_cons,List.all_map];show (mK x y && (List.range (min us.length vs.length)).all e && ((us.length+1) == (vs.length+1)))=(mK x y && iC xs ys);rw [←q];have eb:((us.length+1) == (vs.length+1))=(us.length == vs.length):=by rw [oO,lq,lq];lia
   rw [eb,Bool.and_assoc]
theorem QN(hu:X.A.units<cLine):cB X (compareOp .Eq) (zZ X.K false):=by
 intro pins s σ H x y v u Q I rx ry h;obtain ⟨a,b,xs,ys,rfl,rfl,h1,h2,f1,f2,q⟩:=h;cases rx;cases ry;obtain ⟨us,r1,t1,_⟩:=I.tuple h1;obtain ⟨vs,r2,t2,_⟩:=I.tuple h2;obtain ⟨e,he,eq⟩:=DG (A:=X.A.in1) (s:=s) r1 r2 f1 f2;refine SeqAt.eq_tupleAt (e:=e) t1 t2 hu (fun j z1 z2=>by simpa using he j (by simpa using z1) (by simpa using z2)) ⟨.bl (iC xs ys),H,I,?_,q⟩
 show _=Value.bool (iC xs ys);rw [←eq];simp
theorem QO(hu:X.A.units<cLine):cB X (compareOp .NotEq) (zZ X.K true):=by
 intro pins s σ H x y v u Q I rx ry h;obtain ⟨a,b,xs,ys,rfl,rfl,h1,h2,f1,f2,q⟩:=h;cases rx;cases ry;obtain ⟨us,r1,t1,_⟩:=I.tuple h1;obtain ⟨vs,r2,t2,_⟩:=I.tuple h2;obtain ⟨e,he,eq⟩:=DG (A:=X.A.in1) (s:=s) r1 r2 f1 f2;refine SeqAt.RcNeAt.tuples (e:=e) t1 t2 hu (fun j z1 z2=>by simpa using he j (by simpa using z1) (by simpa using z2)) _ _ _ _ ⟨.bl (!iC xs ys),H,I,?_,q⟩
 show _=Value.bool (!iC xs ys);rw [←eq];simp
theorem boot_isinstance:bootBuiltins "isinstance"=some (.builtin "isinstance"):=by decide +kernel
theorem boot_abs:bootBuiltins "abs"=some (.builtin "abs"):=by decide +kernel
theorem boot_min:bootBuiltins "min"=some (.builtin "min"):=by decide +kernel
theorem boot_max:bootBuiltins "max"=some (.builtin "max"):=by decide +kernel
theorem boot_int:bootBuiltins "int"=some (.type "int"):=by decide +kernel
theorem boot_bool:bootBuiltins "bool"=some (.type "bool"):=by decide +kernel
theorem boot_tuple:bootBuiltins "tuple"=some (.type "tuple"):=by decide +kernel
theorem boot_list:bootBuiltins "list"=some (.type "list"):=by decide +kernel
end L2
namespace My
open PySem L2
def hJ(n:Int):Bool:=(List.range 32).all fun e=>decide (e<2) || decide (n<(e:Int)*(e:Int)) || decide (n % (e:Int)≠0)
variable {n d:Int}
theorem IU(h2:n≤997)(hd:2≤d)(hq:d*d≤n)(hm:n % d=0):hJ n=false:=by
 have hd2:d<32:=by
  by_cases h:d<32;·exact h
  ·have:32*32≤d*d:=Int.mul_le_mul (by lia) (by lia) (by lia) (by lia)
   lia
 obtain ⟨k,rfl⟩:∃k:Nat,d=(k:Int):=⟨d.toNat,by lia⟩
 cases e:hJ n with
 | false=>rfl
 | true=>
  have z:=r9.mp e k (cA.mpr (by lia))
  simp only [Bool.or_eq_true,decide_eq_true_eq] at z;rcases z with (z | z) | z;·lia
  ·lia
  ·exact absurd hm z
theorem QP(hq:n<d*d)(hd:2≤d)(hm:∀e:Int,2≤e→e<d→n % e≠0):hJ n=true:=by
 refine r9.mpr fun k _=>?_;simp only [Bool.or_eq_true,decide_eq_true_eq];by_cases h1:k<2;·exact .inl (.inl h1)
 ·by_cases h2:n<(k:Int)*(k:Int)
  ·exact .inl (.inr h2)
  ·refine .inr (hm k (by lia) ?_)
   by_cases h3:(k:Int)<d;·exact h3
   ·have:d*d≤(k:Int)*(k:Int):=Int.mul_le_mul (by lia) (by lia) (by lia) (by lia)
    lia
inductive Td where
 | a (w:Str)
 | b (w:Str) (n:Int)
def Td.vs:Td→List V
 | .a w=>[.str w]
 | .b w n=>[.str w,.int n]
def Td.xE:Td→Bool
 | .a w=>decide (w="fractions")
 | .b _ _=>false
def Td.jS:Td→Bool
 | .a _=>false
 | .b w n=>decide (w="wheel") && (decide (2≤n) && decide (n≤997) && hJ n)
def Td.good(d:Td):Bool:=d.xE || d.jS
def Td.prime:Td→V
 | .a _=>.aV
 | .b _ n=>.int n
end My
namespace L2
open PySem PySem.Spec PyProof.Rows
abbrev Cx.dw (X:Cx) (N:List Str) (scope:Scope) (cl:List (Str×Addr)) (s₃:Shared) (H₃:Hp) (fp:List Addr):Cx:=
 {X with N:=N,s₀:=s₃,H₀:=H₃,env:=compEnvC scope cl s₃.heap.objs.size X.env,outer:=X.stack,stack:=X.stack,ex:=fp,fn:=fun _=>false,pn:=[],xe:=fun _ _=>False}
inductive nZ (X:Cx):List Expr→TT→Prop where
 | nil:nZ X [] (fun _ H Q=>Q true H)
 | one {c:Expr} {t:TT} (h:PT X c t):nZ X [c] t
def iD(wi:TI)(ρ:St→St)(tt:TT)(te:TE):TE:=fun σ H Q=>wi σ H fun J H1=>∀D,H1 D=none→∃W:Nat→Nat→List V→Hp→Prop,(∃m,W 0 m [] (upd H1 D (.lst []))) ∧
 ∀i m ys Hc,W i m ys Hc→Hc D=some (.lst ys)∧((J.stop i Hc∧Q (.ref D) Hc)∨(J.go i Hc∧∀x H',J.f_ i Hc x H'→tt (some x::ρ σ) H' fun b H2=>
  if b=true then te (some x::ρ σ) H2 fun y H3=>H3 D=some (.lst ys)∧ys.length<sizeLine∧∃m',m'<m∧W (i+1) m' (ys++[y]) (upd H3 D (.lst (ys++[y]))) else ∃m',m'<m∧W (i+1) m' ys H2))
section
variable {X:Cx} {N:List Str} {scope:Scope} {cl:List (Str×Addr)} {x:Str} {px pos:Pos} {iter elt:Expr} {ifs:List Expr} {wi:TI} {ρ:St→St} {tt:TT} {te:TE}
structure sX (X:Cx) (N:List Str) (scope:Scope) (cl:List (Str×Addr)) (x:Str) (ρ:St→St):Prop where
 z5:closureFor scope X.env=pure cl
 kind:scope.kind=.function
 IV:∀y∈scope.names,y.2≠.cell
 names:∀y∈scope.names,y.2=.local→scope.names.lookup y.1=some .local
 sub:∀p∈cl,X.env.cells.lookup p.1=some p.2
 has:∀y,((relabel scope X.env).names.lookup y=some .cell∨(relabel scope X.env).names.lookup y=some .free)→∃c,cl.lookup y=some c
 n0:N[0]?=some x
 nd:N.Nodup
 hx:scope.names.lookup x=some .local
 z6:∀(σ:St) (j:Nat) (v:V),(ρ σ)[j]?=some (some v)→∃(i:Nat) (y:Str),N[j+1]?=some y∧X.N[i]?=some y∧σ[i]?=some (some v)∧nK X.env.scope y∧(X.env.kindOf y=some .cell∨X.env.kindOf y=some .free)∧((relabel scope X.env).names.lookup y=some .cell∨(relabel scope X.env).names.lookup y=some .free)
 len:∀σ:St,σ.length=X.N.length→(ρ σ).length+1=N.length
theorem QQ{names:List (Str×NameKind)}(h:(names.all fun q=>(q.2 != .cell && q.2 != .free) || (cl.lookup q.1).isSome)=true) :
  ∀y,(names.lookup y=some .cell∨names.lookup y=some .free)→∃c,cl.lookup y=some c:=fun y hy=>by
 have key:∀k:NameKind,(k != .cell && k != .free)=false→names.lookup y=some k→∃c,cl.lookup y=some c:=fun k hk e=>by have z:=r9.mp h (y,k) (lA e);rw [hk,Bool.false_or] at z;exact CH.mp z
 rcases hy with e | e;·exact key .cell rfl e
 ·exact key .free rfl e
theorem join_some{o:Option (Option V)}{v:V}(h:some o.join=some (some v)):o=some (some v):=by
 cases o with
 | none=>cases h
 | some o=>cases h;rfl
def DH(X:Cx)(sc:Scope):List Str→List Nat→Prop
 | n::ns,i::is=>(X.N[i]?=some n∧nK X.env.scope n∧(X.env.kindOf n=some .cell∨X.env.kindOf n=some .free)∧((relabel sc X.env).names.lookup n=some .cell∨(relabel sc X.env).names.lookup n=some .free))∧DH X sc ns is
 | _,[]=>True
 | [],_::_=>False
theorem IW{X:Cx}{sc:Scope}:∀{ns:List Str} {is:List Nat},DH X sc ns is→∀(σ:St) (j:Nat) (v:V),(is.map fun i=>σ[i]?.join)[j]?=some (some v)→∃(i:Nat) (n:Str),ns[j]?=some n∧X.N[i]?=some n∧σ[i]?=some (some v)∧nK X.env.scope n∧(X.env.kindOf n=some .cell∨X.env.kindOf n=some .free)∧((relabel sc X.env).names.lookup n=some .cell∨(relabel sc X.env).names.lookup n=some .free)
 | _,[],_,_,_,_,e=>by cases e
 | [],_::_,h,_,_,_,_=>h.elim
 | n::_,i::_,h,_,0,_,e=>⟨i,n,rfl,h.1.1,join_some e,h.1.2⟩
 | _::_,_::_,h,σ,j+1,v,e=>IW h.2 σ j v e
theorem eA(is:List Nat)(h1:closureFor scope X.env=pure cl)(h:DH X scope N.tail is:=by repeat' first | exact True.intro | refine And.intro ⟨rfl,Or.inr (Or.inl rfl),.inl rfl,.inl rfl⟩ ?_)(h2:scope.kind=.function:=by rfl)(h3:∀y∈scope.names,y.2≠.cell:=by decide +kernel)(h4:∀y∈scope.names,y.2=.local→scope.names.lookup y.1=some .local:=by decide +kernel)(h5:∀p∈cl,X.env.cells.lookup p.1=some p.2:=by repeat' first | exact List.forall_mem_nil _ | refine za.mpr ⟨rfl,?_⟩)(h6:((relabel scope X.env).names.all fun q=>(q.2 != .cell && q.2 != .free) || (cl.lookup q.1).isSome)=true:=by rfl)(h7:N[0]?=some x:=by rfl)(h8:N.Nodup:=by decide +kernel)(h9:scope.names.lookup x=some .local:=by rfl)(hr:∀σ:St,ρ σ=is.map fun i=>σ[i]?.join:=by exact fun _=>rfl)(hl:is.length+1=N.length:=by rfl):sX X N scope cl x ρ:=
 ⟨h1,h2,h3,h4,h5,QQ h6,h7,h8,h9,fun σ j v e=>by rw [hr] at e;rw [←List.getElem?_tail];exact IW h σ j v e,fun σ _=>by rw [hr,aJ];exact hl⟩
theorem gQ(B:sX X N scope cl x ρ)(hc:X.calm=true)(hi:PI X (.Name x px) iter wi)(ht:∀s₃ H₃ fp,nZ (X.dw N scope cl s₃ H₃ fp) ifs tt)(he:∀s₃ H₃ fp,PE (X.dw N scope cl s₃ H₃ fp) elt te)
  (hs:∀x,foldedSetIterable iter X.env x=pure x:=by intro _;rfl):PE X (.ListComp elt [⟨.Name x px,iter,ifs,0⟩] scope pos) (iD wi ρ tt te):=by
 intro pins s σ H Q I h
 rw [eval_ListComp]
 refine CL (use:=none) rfl hs B.z5 B.kind B.names (aR (hi pins s σ H _ I h) fun v s1 h1=>aR h1 fun xo s2 h2=>?_)
 obtain ⟨it,fp,tn,J,H2,rfl,I2,T,e8,f2,q2⟩:=h2
 have nD:H2 s2.heap.objs.size=none:=I2.aD.fresh (aG _)
 obtain ⟨W,⟨m0,w0⟩,turn⟩:=q2 _ nD
 refine y8 (wpAny_newFunctionEnv B.IV (by intro y hy;simp at hy) (fun h₁ kP mM=>?_) B.kind)
 dsimp only at kP mM ⊢
 generalize hD:s2.heap.objs.size=D at nD w0 turn kP mM ⊢
 generalize kT:({s2 with heap:=s2.heap.push {cls:=.type "list",dict:=none,data:=.seq ([]:List Value).toArray}}:Shared)=s3
 have I3:Inv X pins σ (upd H2 D (.lst [])) s3:=by
  subst hD kT
  exact I2.laid (t':=s2.toks) (fun b u e=>cF _ e) (aG _) ⟨b_ _,[],_,.nil,eX _ rfl⟩
 have e3:s3.heap=s2.heap.push {cls:=.type "list",dict:=none,data:=.seq ([]:List Value).toArray}:=by rw [←kT]
 have iE:∀b o,s2.heap.get? b=some o→s3.heap.get? b=some o:=fun b o e=>by rw [e3];exact cF _ e
 rw [←e3] at kP mM ⊢
 have below:∀b o,s3.heap.get? b=some o→b≠s3.heap.objs.size:=fun b o e=>dC (bP e)
 have fP:∀b o,s3.heap.get? b=some o→h₁.get? b=some o:=fun b o e=>mM.extBut b o (below b o e) (cF _ e)
 have jT:∀b∈fp,∃o,s2.heap.get? b=some o∧∀v,o.data≠.cell v:=T.obj _ _ e8
 have xF:∀b∈fp,b≠D:=fun b hb z=>by
  obtain ⟨o,e,_⟩:=jT b hb
  rw [z,←hD] at e
  exact absurd (bP e) (dS _)
 have eQ:∀y c,cl.lookup y=some c→X.env.cells.lookup y=some c:=fun y c e=>B.sub (y,c) (lA e)
 have xG:=I3.xg
 have fI:(X.dw N scope cl s3 (upd H2 D (.lst [])) fp).Ok:=by
  refine ⟨I.ok.mod,B.kind,I.ok.glob,I.ok.blt,aG _,fun a b c e1 e2=>I.ok.inj a b c (eQ a c e1) (eQ b c e2),fun y hy=>B.has y hy,(fun _ _ z _=>absurd z dI),(fun _=>I.ok.hd hc),I.ok.frames,.inl rfl,fun b hb=>⟨?_,fun y c e z=>?_⟩,fun b o e=>?_,bE I.ok.jg I3.sz,fun b o e hb=>?_,fun b hb z=>?_,I3.stack,xG⟩
  ·obtain ⟨o,e,_⟩:=jT b hb
   exact below b o (iE b o e)
  ·exact (f2 b hb).2.2.2.2.1 y c (eQ y c e) z
  ·exact I3.bs b o e
  ·rcases (f2 b hb).2.2.2.1 with z | z
   ·exact I.ok.pd b o e z
   ·exact absurd (dF (bP e) (bE I.ok.jg z)) (dS _)
  ·rcases c_.mp (I3.xf b z) with z | z
   ·exact (f2 b hb).2.1 z
   ·exact (f2 b hb).2.2.1 z
 have IB:∀tk:Nat,Inv (X.dw N scope cl s3 (upd H2 D (.lst [])) fp) [] (none::ρ σ) (upd H2 D (.lst [])) {s3 with heap:=h₁,toks:=tk}:=fun tk=>by
  refine ⟨fI,rfl,I3.bare,Un.kept fP,⟨_,kP,fun j y v e1 e2 e3=>?_⟩,fun y c e=>?_,?_,fun y c e=>I3.jN y c (eQ y c e),(fun p hp=>nomatch hp),I3.aD.kept fP,?_⟩
  ·cases j with
   | zero=>cases e2
   | succ j=>
    obtain ⟨i,y',a1,a2,a3,a4,a5,a6⟩:=B.z6 σ j v e2
    have sY:N[j+1]?=some y:=e1
    rw [sY] at a1
    cases a1
    obtain ⟨m,hn,hl⟩:=I3.loc
    obtain ⟨u,r,l⟩:=hl i y v a2 a3 a4
    refine ⟨u,r,.inr ⟨a6,?_⟩⟩
    obtain ⟨c,ec⟩:=B.has y a6
    rcases l with ⟨k,_⟩ | ⟨_,c',n4,z⟩
    ·rcases a5 with q | q <;> (rw [k] at q;cases q)
    ·have:=eQ y c ec
     rw [this] at n4
     cases n4
     obtain ⟨o,ho,hd⟩:=z
     exact ⟨c,ec,o,fP _ _ ho,hd⟩
  ·obtain ⟨v,o,ho,hd⟩:=I3.cell y c (eQ y c e)
   exact ⟨v,o,fP _ _ ho,hd⟩
  ·exact I3.aD.fresh (aG _)
  ·show (none::ρ σ).length=N.length
   rw [fY]
   exact B.len σ I.len
 have fin:∀{σ':St} {H':Hp} {s':Shared},Inv (X.dw N scope cl s3 (upd H2 D (.lst [])) fp) [] σ' H' s'→Q (.ref D) H'→compPost (model X.prog X.w) X.A X.xe none (EP X pins σ Q) (.ref D) s3.heap.objs.size (.ok .next) s':=fun{σ' H' s'} J q=>by
  obtain ⟨m,hn,_⟩:=J.loc
  refine ⟨m,hn,fun h' i3=>⟨.ref D,H',?_,rfl,q⟩⟩
  have old:∀b o,s3.heap.get? b=some o→b≠s3.heap.objs.size:=below
  have u1:Un (cV X.stack) fp (upd H2 D (.lst [])) H' s3.heap h':=by
   refine ⟨fun b o e n hb hx=>?_,fun b o e n hb hx=>?_,J.base.free,fun b o e hx=>?_,J.base.iq,J.base.g8,J.base.ir⟩
   ·exact (i3.2 b (old b o e)).trans (J.base.keep b o e n hb hx)
   ·obtain ⟨sl,z⟩:=J.base.slot b o e n hb hx
    exact ⟨sl,(i3.2 b (old b o e)).trans z⟩
   ·obtain ⟨o',z⟩:=J.base.there b o e hx
    exact ⟨o',(i3.2 b (old b o e)).trans z⟩
  have xH:cL X.prog X.w H' h':=fun b u e=>by
   refine (J.aD b u e).kG (fun c v hc z=>(i3.2 c fun y=>?_).trans z) (fun _ z=>z) fun _ _ z=>z
   have fr:=J.free
   have y':c=s3.heap.objs.size:=y
   rcases hc with hc | hc
   ·rw [←hc,y'] at e
    exact absurd (fr.symm.trans e) (by simp)
   ·rw [y'] at hc
    exact absurd (fr.symm.trans hc) (by simp)
  refine I3.pj (s':={s' with heap:=h'}) (ch:=fp) (J.os) u1 xH J.bare fun b hb=>?_
  obtain ⟨g0,g1,g2,g3,g4,g5⟩:=f2 b hb
  exact ⟨g3,g1,g4,g5⟩
 have iw:∀{H':Hp},(∀b∈fp,H' b=none)→∀b∈fp,mD (X.dw N scope cl s3 (upd H2 D (.lst [])) fp) [] H' b:=fun hn b hb=>by
  refine ⟨hn b hb,?_,?_,.inl hb,fun y c e z=>(f2 b hb).2.2.2.2.1 y c (eQ y c e) z,fun p hp=>nomatch hp⟩
  ·obtain ⟨o,e,_⟩:=jT b hb
   exact below b o (iE b o e)
  ·exact fI.pf b hb
 have loop:∀tk:Nat,codeAny (model X.prog X.w) X.A (.compLoop (.ListComp elt [⟨.Name x px,iter,ifs,0⟩] scope pos) 0 (.ref it) (.ref D) (compEnvC scope cl s3.heap.objs.size X.env))
   (compPost (model X.prog X.w) X.A X.xe none (EP X pins σ Q) (.ref D) s3.heap.objs.size) {s3 with heap:=h₁,toks:=tk}:=fun tk=>by
  refine CM (fun n s'=>∃i ys o H',Inv (X.dw N scope cl s3 (upd H2 D (.lst [])) fp) [] (o::ρ σ) H' s'∧tn i s'.heap∧(∀b∈fp,H' b=none)∧W i n ys H') ?_ m0
   ⟨0,[],none,_,IB tk,T.keep _ _ _ e8 fun b hb o e=>fP _ _ (iE _ _ e),fun b hb=>by rw [aK (xF b hb)];exact (f2 b hb).1,w0⟩
  rintro n s4 ⟨i,ys,o,H4,I4,n5,n8,w4⟩
  obtain ⟨IY,xI⟩:=turn i n ys H4 w4
  rcases xI with ⟨stop,qn⟩ | ⟨go,step⟩
  ·refine dG (T.done (X.dw N scope cl s3 (upd H2 D (.lst [])) fp) rfl rfl rfl hc i [] s4 _ H4 (fun _ _=>False) I4 (iw n8) n5 stop) (fun r s5 ⟨hr,I5⟩=>?_) fun _ _ z=>z.elim
   subst hr
   exact fin I5 qn
  ·refine dG (T.item (X.dw N scope cl s3 (upd H2 D (.lst [])) fp) rfl rfl rfl hc i [] s4 _ H4 (fun _ _=>False) I4 (iw n8) n5 go) (fun r s5 ⟨u,hr,h5⟩=>?_) fun _ _ z=>z.elim
   subst hr
   have z:letOwnedTupleGo (.Name x px) (.ref it) u=pure ():=rfl
   rw [z] at h5
   show wpAny _ _ ((pure ():Sem Unit) >>= fun _=>assign (.Name x px) (compEnvC scope cl s3.heap.objs.size X.env) u) _ _ s5
   refine bI (dG h5 (fun _ s5 ⟨y,H5,I5,r5,y5,iy,pD⟩=>?_) fun _ _ z=>z.elim)
   have pE:=I5.pinned (iw pD) (T.obj _ _ iy)
   have pg:PG (X.dw N scope cl s3 (upd H2 D (.lst [])) fp) (.Name x px) (cW 0):=cX (i:=0) B.nd B.n0 (.inl (zb B.hx)) (.inr (zb B.hx))
   have again:∀{σ7:St} {H7:Hp} {s7:Shared},Inv (X.dw N scope cl s3 (upd H2 D (.lst [])) fp) ([]++lK fp s5.heap) σ7 H7 s7→Inv (X.dw N scope cl s3 (upd H2 D (.lst [])) fp) [] σ7 H7 s7∧tn (i+1) s7.heap∧∀b∈fp,H7 b=none:=fun{σ7 H7 s7} I7=>by
    refine ⟨I7.sE,T.keep _ _ _ iy fun b hb o e=>(I7.pin (b,o) (fX _ (fX _ (nS hb e)))).1,fun b hb=>?_⟩
    obtain ⟨o,e,d⟩:=T.obj _ _ iy b hb
    exact (I7.pin (b,o) (fX _ (fX _ (nS hb e)))).2.1
   refine dG (pg _ s5 _ H5 y u (fun σ2 H6=>σ2=some y::ρ σ∧H6=H5) pE r5 ⟨rfl,rfl⟩) (fun _ s6 ⟨σ6,H6,I6,q6⟩=>?_) fun _ _ z=>z.elim
   obtain ⟨rfl,rfl⟩:=q6
   have xJ:=step y _ y5
   have tests:∀{kU:TT},nZ (X.dw N scope cl s3 (upd H2 D (.lst [])) fp) ifs kU→∀{R:Bool→Hp→Prop},kU (some y::ρ σ) H6 R→wpAny (model X.prog X.w) X.A
     (forIn ifs true fun c r=>if r=true then do let ok ←isTrue c (compEnvC scope cl s3.heap.objs.size X.env) (eval c (compEnvC scope cl s3.heap.objs.size X.env));pure (ForInStep.yield ok) else pure (ForInStep.yield r))
     (fun ok s7=>∃H7,Inv (X.dw N scope cl s3 (upd H2 D (.lst [])) fp) ([]++lK fp s5.heap) (some y::ρ σ) H7 s7∧R ok H7) (fun _ _=>False) s6:=fun{kU} p {R} hR=>by
    cases p with
    | nil=>exact wpAny_tests_nil ⟨_,I6,hR⟩
    | one p=>exact wpAny_tests_one (p _ s6 _ _ _ I6 hR)
   refine dG (tests (ht s3 _ fp) xJ) (fun ok s7 ⟨H7,I7,q7⟩=>?_) fun _ _ z=>z.elim
   cases ok with
   | false=>
    obtain ⟨m',gj,w7⟩:=q7
    obtain ⟨a1,a2,a3⟩:=again I7
    exact ⟨m',gj,i+1,ys,_,H7,a1,a2,a3,w7⟩
   | true=>
    refine dG (he s3 _ fp _ s7 _ H7 _ I7 q7) (fun ev s8 ⟨z,H8,I8,r8,xK,hz,m',gj,w8⟩=>?_) fun _ _ z=>z.elim
    refine dG (nW (X:=X.dw N scope cl s3 (upd H2 D (.lst [])) fp) _ s8 _ H8 (.ref D) [z] (.ref D) [ev] (fun _ H9=>H9=upd H8 D (.lst (ys++[z]))) I8 rfl (.cons r8 .nil) ⟨D,ys,z,rfl,rfl,xK,hz,rfl⟩) (fun _ s9 ⟨_,H9,I9,_,q9⟩=>?_) fun _ _ z=>z.elim
    subst q9
    obtain ⟨a1,a2,a3⟩:=again I9
    exact ⟨m',gj,i+1,ys++[z],_,_,a1,a2,a3,w8⟩
 have start:=loop (s3.toks+([]:List (Str×Value)).length)
 have es:({s3 with heap:=h₁,toks:=s3.toks+([]:List (Str×Value)).length}:Shared)={s2 with heap:=h₁,toks:=s2.toks+([]:List (Str×Value)).length}:=by rw [←kT]
 rw [es] at start
 exact CN start (T.self _ 0 _ _ _ (T.keep _ _ _ e8 fun b hb o e=>fP _ _ (iE _ _ e)) start)
end
def fe(i:Int):Prop:=i.natAbs<2 ^ 2048
variable {i:Int}
theorem fe.log(h:fe i):i.natAbs.log2<2048:=by
 by_cases z:i.natAbs=0;·rw [z];decide
 ·exact (Nat.log2_lt z).mpr h
def DI(i j:Int):Prop:=j≠0∧fe j
def DJ(i j:Int):Prop:=fe i∧fe j
theorem DJ.ok{j:Int}(h:DJ i j):IntMulOk i j:=by
 have b:∀{k:Int},fe k→Builtin.Int.intBits k≤2048:=fun{k} hk=>by
  have z:=hk.log;unfold Builtin.Int.intBits
  split <;> lia
 unfold IntMulOk;have e:Builtin.Int.intTooBig ((Builtin.Int.intBits i:Int)+(Builtin.Int.intBits j:Int))=false:=by
  unfold Builtin.Int.intTooBig;have h1:=b h.1;have h2:=b h.2;have h3:(4096:Int)≤bitsLine:=by decide +kernel
  exact cJ (by lia)
 intro z;rw [Bool.and_eq_true] at z;have z2:=z.2;rw [show Builtin.Int.intTooBig ((Builtin.Int.intBits i:Int)+(Builtin.Int.intBits j:Int))=false from e] at z2;cases z2
theorem IZ:∀{xs:List V} {us:List Value},xs.length=us.length→(∀(i:Nat) (x:V) (u:Value),xs[i]?=some x→us[i]?=some u→RelV x u)→Vals xs us
 | [],[],_,_=>.nil
 | [],_::_,h,_=>by simp at h
 | _::_,[],h,_=>by simp at h
 | x::xs,u::us,h,k=>.cons (k 0 x u rfl rfl) (IZ (by simpa using h) fun i a b h1 h2=>k (i+1) a b (by simpa using h1) (by simpa using h2))
section
variable {X:Cx}
theorem z7:cB X (binaryOp .FloorDiv) (rI DI fun i j=>.int (i.fdiv j)):=pF fun _ _ _ _ _ _ _ hc q=>floordiv_int hc.1 q (.inl (PyProof.noPylong_of_log2 (dF hc.2.log (by decide))))
theorem n_:cB X (binaryOp .Mult) (rI DJ fun i j=>.int (i*j)):=pF fun _ _ _ _ _ _ _ hc q=>mul_int q hc.ok
def QR(i j:Int):Prop:=0<j∧fe j
theorem mO:cB X (binaryOp .FloorDiv) (rI QR fun i j=>.int (i / j)):=pF fun i j _ _ _ _ _ hc q=>floordiv_int (Int.ne_of_gt hc.1) (by rw [Int.fdiv_eq_ediv_of_nonneg i (Int.le_of_lt hc.1)];exact q) (.inl (PyProof.noPylong_of_log2 (dF hc.2.log (by decide))))
def allR(K:aC):List V→Hp→VK→Prop:=fun xs H Q=>∃(p:Addr) (bs:List Bool),xs=[.ref p]∧bZ K H p (bs.map V.bl)∧Q (.bl (bs.all id)) H
theorem QS{K:aC}(hc:X.calm=true)(hK:X.K=K:=by rfl):gc X (.builtin "all") (allR K):=by
 intro pins s σ H xs us Q I r h;subst hK;obtain ⟨p,bs,rfl,hq,q⟩:=h;obtain ⟨u,rfl,ru⟩:=vals1 r;cases ru;obtain ⟨ai,rv,pl,hz⟩:=I.list hq;have e_:p≠s.heap.objs.size:=by obtain ⟨o,e,_⟩:=pl.isList;exact dC (bP e)
 have hl:ai.length=bs.length:=by rw [←rv.length,aJ]
 refine call_all_walk (wF pl.isList ?_);refine ⟨s.heap.objs.size,_,_,_,_,_,fun i=>bs.getD i true,rfl,Walks.list (A:=X.A.in1) (show X.A.in1.handled=none from I.ok.hd hc) s.heap.objs.size p e_ ai.toArray,⟨⟨_,eX _ rfl,rfl,rfl⟩,pl.isList.push _⟩,fun i v s' Q' E' hv fG=>?_,fun h' tk hk=>?_⟩
 ·have g9:ai[i]?=some v:=by simpa using hv
  cases eb:bs[i]? with
  | none=>
   have:=rv.none_of (i:=i) (by rw [cx,eb];rfl)
   rw [this] at g9;cases g9
  | some b=>
   obtain ⟨u,hu,ru⟩:=rv.get (i:=i) (x:=V.bl b) (by rw [cx,eb];rfl)
   rw [hu] at g9;cases g9;cases ru;have e:bs.getD i true=b:=by rw [gX,eb];rfl
   have pN:Q' (bs.getD i true) s':=fG;rw [e] at pN;exact mm pN
 ·refine ⟨.bl (bs.all id),H,I.kept fun b o e=>hk b o (fun z=>?_) (cF _ e),?_,q⟩
  ·exact absurd (bP e) (by rw [iR.mp z];exact dS _)
  ·show Value.bool _=Value.bool _
   congr 1
   rw [cI,hl];clear hk q rv pl hz hl hq
   induction bs with
   | nil=>rfl
   | cons b bs ih=>rw [fY,CK,List.all_cons,List.all_map,List.all_cons];show (b && (List.range bs.length).all fun i=>bs.getD i true)=(b && bs.all id);rw [ih]
def QT:List V→Hp→VK→Prop:=fun xs H Q=>∃j:Int,xs=[.int j]∧∀p,H p=none→Q (.ref p) (upd H p (.o_ 0 j))
theorem QU:gc X (.type "range") QT:=by intro pins s σ H xs us Q I r h;obtain ⟨j,rfl,q⟩:=h;obtain ⟨u,rfl,ru⟩:=vals1 r;obtain ⟨t,rfl⟩:=ru;refine call_range_1 ⟨.ref s.heap.objs.size,_,I.laid (o:=.o_ 0 j) (fun b o e=>cF _ e) (aG _) ⟨_,_,_,eX _ rfl⟩,rfl,q _ (I.aD.fresh (aG _))⟩
def sZ(n:Nat):List V:=(List.range n).map fun i:Nat=>V.int (i:Int)
def QV:List V→Hp→VK→Prop:=fun xs H Q=>∃p n,xs=[.ref p]∧H p=some (.o_ 0 (n:Nat))∧n≤10000∧∀l,H l=none→Q (.ref l) (upd H l (.lst (sZ n)))
theorem QW(hc:X.calm=true):gc X (.type "list") QV:=by
 intro pins s σ H xs us Q I r h;obtain ⟨p,n,rfl,hp,hn,q⟩:=h;obtain ⟨u,rfl,ru⟩:=vals1 r;cases ru;obtain ⟨t,u,v,e⟩:=(show cQ X.prog X.w H s.heap p (.o_ 0 n) from I.aD p _ hp);refine call_list_range (n:=n) (I.ok.hd hc) e (small_one (by lia) (by lia) (by lia) (by lia)) (by rw [rangeSize_one];split <;> lia) (by lia) fun h' tk acc c hk hD hit=>?_
 refine ⟨.ref s.heap.objs.size,_,I.laid (o:=.lst (sZ n)) (fun b o e=>hk b o e) (aG _) ⟨?_,acc.toList,c,?_,?_⟩,rfl,q _ (I.aD.fresh (aG _))⟩
 ·unfold sZ
  rw [aJ,dc];exact bE hn (by decide)
 ·refine IZ ?_ fun i x u h1 h2=>?_
  ·unfold sZ
   rw [aJ,dc,Array.length_toList,hit.1]
  ·have pO:acc[i]?=some u:=by simpa using h2
   obtain ⟨fh,e'⟩:=hit.2 i u pO;unfold sZ at h1;rw [cx] at h1;have hi:i<n:=by have z:=(Array.getElem?_eq_some_iff.mp pO).1;rw [hit.1] at z;exact z
   rw [ku hi] at h1;cases h1;exact ⟨fh,by rw [e'];simp⟩
 ·rw [hD]
end
theorem boot_all:bootBuiltins "all"=some (.builtin "all"):=by decide +kernel
theorem QX:bootBuiltins "range"=some (.type "range"):=by decide +kernel
def DK:Expr→Bool
 | .Starred _ _=>false
 | _=>true
variable {e:Expr} {es:List Expr}
theorem QY{env:Env}(h:DK e=true):starEach (e::es) env=(false,eval e env)::starEach es env:=by cases e <;> first | rfl | cases h
theorem fj{X:Cx}{e:Expr}{es:List Expr}{te:TE}{t:TA}(hs:DK e=true)(ha:PE X e te)(hr:PA X es t):PA X (e::es) (iX te t):=
 Pm ha hr (QY hs)
variable {X:Cx} {te:TE}
theorem aa{t:TA}(ha:PE X e te)(hr:PA X es t)(hs:DK e=true:=by rfl):PA X (e::es) (iX te t):=fj hs ha hr
theorem z8{X:Cx}{pos:Pos}{i:Nat}{x:Str}{e:Expr}{te:TE}{pos':Pos}(hs:swapsWith e (some (.Name x pos')) pos.line X.env=pure false)(hf:X.fn x=true∨X.env.scope.names.lookup x=some .local)(hN:X.N.Nodup)(hi:X.N[i]?=some x)(hx:Loc X.env.scope x)(he:PE X e te) :
  PS X (.Assign [.Name x pos'] e pos) (nR te (cW i)):=OC hN hi hx he hs hf
variable {pos pos':Pos} {x:Str}
theorem putL(i:Nat)(hN:X.N.Nodup)(he:PE X e te)(hs:swapsWith e (some (.Name x pos')) pos.line X.env=pure false:=by rfl)(hi:X.N[i]?=some x:=by rfl)(hx:X.env.scope.names.lookup x=some .local:=by rfl) :
  PS X (.Assign [.Name x pos'] e pos) (nR te (cW i)):=z8 hs (.inr hx) hN hi (.inl hx) he
theorem pP(i:Nat)(hN:X.N.Nodup)(he:PE X e te)(hs:swapsWith e (some (.Name x pos')) pos.line X.env=pure false:=by rfl)(hf:X.fn x=true∨X.env.scope.names.lookup x=some .local:=by first | exact .inl rfl | exact .inr rfl | assumption)(hi:X.N[i]?=some x:=by rfl)(hx:X.env.scope.names.lookup x=some .cell:=by rfl) :
  PS X (.Assign [.Name x pos'] e pos) (nR te (cW i)):=z8 hs hf hN hi (.inr hx) he
def QZ:V→List V→Hp→VK→Prop:=fun x xs H Q=>∃i:Int,x=.int i∧xs=[]∧Q (.int ((Builtin.Int.intBits i:Nat):Int)) H
theorem Q0:zQ X "int.bit_length" QZ:=by intro pins s σ H x xs v us Q I rx rv h;obtain ⟨i,rfl,rfl,q⟩:=h;have DL:=rv.zero;subst DL;obtain ⟨t,rfl⟩:=rx;exact call_int_bit_length ⟨.int ((Builtin.Int.intBits i:Nat):Int),H,I.tok _,⟨_,rfl⟩,q⟩
theorem Q1(h:fe i):Builtin.Int.intBits i≤2048:=by
 have z:=h.log;unfold Builtin.Int.intBits
 split <;> lia
end L2
namespace My
open PySem L2
theorem DM(a b:Str):decide (V.str a=V.str b)=decide (a=b):=by
 by_cases h:a=b;·subst h;simp
 ·rw [cJ h];exact cJ fun e=>h (V.str.inj e)
theorem jU(a b:Int):decide (V.int a=V.int b)=decide (a=b):=by
 by_cases h:a=b;·subst h;simp
 ·rw [cJ h];exact cJ fun e=>h (V.int.inj e)
variable {K:aC}
theorem DN{T:String}:PySem.W.kitOne K (.type T) (.type T)=some true:=by unfold PySem.W.kitOne;rw [ak (r_ _)]
variable {H:Hp}
theorem aS{p:Addr}{o:HO}(h:H p=none):af H (upd H p o):=fun b u e=>by rw [aK (je e h)];exact e
theorem lP(v:V):([(("prime":Str),v)]:List (Str×V)).lookup ("prime":Str)=some v:=by simp [List.lookup]
inductive Any (H:Hp):V→Prop where
 | aV:Any H .aV
 | bl (b:Bool):Any H (.bl b)
 | int (i:Int):Any H (.int i)
 | str (x:Str):Any H (.str x)
 | lst {a:Addr} {xs:List V} (e:H a=some (.lst xs)):Any H (.ref a)
 | tup {a:Addr} {xs:List V} (e:H a=some (.tup xs)):Any H (.ref a)
 | sS {a:Addr} (e:H a=some (IS a)):Any H (.ref a)
def s_:V→Bool
 | .int _=>true
 | _=>false
def tf:V→Bool
 | .bl _=>true
 | _=>false
def z9(H:Hp):V→Bool
 | .ref a=>(match H a with | some (.tup _)=>true | _=>false)
 | _=>false
variable {v:V}
theorem Any.DF(h:Any H v):∃T:String,xC K H v (.type T)∧PySem.W.kitOne K (.type T) (.type "int")=some (s_ v || tf v)∧PySem.W.kitOne K (.type T) (.type "bool")=some (tf v) ∧
  PySem.W.kitOne K (.type T) (.type "tuple")=some (z9 H v):=by
 cases h with
 | aV=>exact ⟨"NoneType",.of .aV,rfl,rfl,rfl⟩
 | bl b=>exact ⟨"bool",.of (.bl b),rfl,rfl,rfl⟩
 | int i=>exact ⟨"int",.of (.int i),rfl,rfl,rfl⟩
 | str x=>exact ⟨"str",.of (.str x),rfl,rfl,rfl⟩
 | lst e=>exact ⟨"list",.of (.lst e),rfl,rfl,by unfold z9;dsimp only;rw [e];rfl⟩
 | tup e=>exact ⟨"tuple",.of (.tup e),rfl,rfl,by unfold z9;dsimp only;rw [e];rfl⟩
 | sS e=>exact ⟨"dict",.sS e,rfl,rfl,by unfold z9;dsimp only;rw [e];rfl⟩
theorem Q2(h:tf v=true):s_ v=false:=by cases v <;> first | rfl | cases h
theorem jV{m:Str}(e:(m == ("prime":Str))=false):([(("prime":Str),v)]:List (Str×V)).lookup m=none:=by simp [List.lookup,e]
theorem Q3(m n:Nat):Nat.gcd n (m % n)=Nat.gcd m n:=by rw [Nat.gcd_comm n,←Nat.gcd_rec,Nat.gcd_comm]
theorem DO(a:Int):(if a<0 then -a else a)=(a.natAbs:Int):=by split <;> lia
def lowG(a b:Int):Int:=if b<0 then 0-(Int.gcd a b:Int) else (Int.gcd a b:Int)
variable {a b:Int}
theorem DP(h:b≠0):0<Int.gcd a b:=oR _ (mq.mpr h)
theorem Q4(h:b≠0)(m:fe b):Int.gcd a b<2 ^ 2048:=jH (Nat.gcd_le_right _ (mq.mpr h)) m
theorem Q5(h:b≠0)(m:fe b):DI 0 (lowG a b):=by
 have h1:=DP (a:=a) h;have h2:=Q4 (a:=a) h m;unfold lowG;refine ⟨by split <;> lia,?_⟩
 unfold fe
 split
 ·rw [show (0-(Int.gcd a b:Int)).natAbs=Int.gcd a b by lia];exact h2
 ·rw [wN];exact h2
theorem fe.of_lt{i:Int}(h1:-(10 ^ 70)<i)(h2:i<10 ^ 70):fe i:=by
 have h3:i.natAbs<2 ^ 240:=by lia
 exact dF h3 (Nat.pow_le_pow_right (by decide) (by decide))
def Q6:Sp:=fun vs H Q _=>∃v:V,vs=[v]∧Any H v∧Q (.bl (s_ v)) H
def Q7:Sp:=fun vs H Q _=>∃a b:Int,vs=[.int a,.int b]∧fe b∧Q (.int (Int.gcd a b:Int)) H
def Q8:Sp:=fun vs H Q _=>∃n:Int,vs=[.int n]∧2≤n∧n≤997∧Q (.bl (hJ n)) H
def Q9:Sp:=fun vs H Q _=>∃(p:Addr) (d:Td),vs=[.ref p]∧H p=some (.tup d.vs)∧Q (.bl d.xE) H
def Q_:Sp:=fun vs H Q _=>∃(p:Addr) (d:Td),vs=[.ref p]∧H p=some (.tup d.vs)∧Q (.bl d.jS) H
def Ra(C N:Addr):Sp:=fun vs H Q E=>∃(x dx p:Addr) (d:Td),vs=[.ref x,.ref p]∧H x=some (.ins C dx [])∧H p=some (.tup d.vs) ∧
 (d.good=true→Q .aV (upd H x (.ins C dx [("prime",d.prime)])))∧(d.good=false→E (.ref N) none H)
def fJ(C:Addr)(H:Hp)(x:Addr)(q:Int):Prop:=∃dx,H x=some (.ins C dx [("prime",if q=0 then .aV else .int q)])
variable {H':Hp} {q:Int}
theorem fJ.mono{C:Addr}{x:Addr}(h:fJ C H x q)(s:af H H'):fJ C H' x q:=by obtain ⟨dx,e⟩:=h;exact ⟨dx,s _ _ e⟩
def z_(K:aC):Sp:=fun vs H Q _=>∃(a:Addr) (ns:List Int),vs=[.ref a]∧bZ K H a (ns.map V.int)∧ns.length≤63∧∀H',Q (.bl true) H'
theorem Rb(xs:List V)(k:Nat):pK xs none (some (k:Int))=xs.take k:=by unfold pK;rw [HT.PK,HT.PL,List.drop_zero,Nat.sub_zero];rw [List.take_eq_take_iff];lia
variable {u:Int}
theorem tj{v:Int}(hu:0<u)(h:0<u*v):0<v:=by
 by_cases z:0<v;·exact z
 ·have y:=se (show v≤0 by lia) (show 0≤u by lia)
  rw [fc] at y;lia
theorem og(h:∀d:Nat,(d:Int)∣a→(d:Int)∣b→d=1):Int.gcd a b=1:=h _ (kx ..) (jI ..)
variable {d:Nat}
theorem oh(h:Int.gcd a b=1)(h1:(d:Int)∣a)(h2:(d:Int)∣b):d=1:=by have z:(d:Int)∣((Int.gcd a b:Nat):Int):=Int.dvd_coe_gcd h1 h2;rw [h] at z;exact Nat.dvd_one.mp (Int.natCast_dvd_natCast.mp z)
variable {c:Int}
theorem pQ(h:Int.gcd b c=1)(h1:(d:Int)∣b)(h2:(d:Int)∣a*c):(d:Int)∣a:=by
 have hc:Nat.Coprime d c.natAbs:=by have z:Nat.Coprime b.natAbs c.natAbs:=h;exact Nat.Coprime.coprime_dvd_left (Int.ofNat_dvd_left.mp h1) z
 have z:d∣a.natAbs*c.natAbs:=by rw [←gv];exact Int.ofNat_dvd_left.mp h2
 exact Int.ofNat_dvd_left.mpr (hc.dvd_of_dvd_mul_right z)
theorem tu(h1:Int.gcd a b=1)(h2:Int.gcd a c=1):Int.gcd a (b*c)=1:=by refine og fun d x y=>?_;exact oh h1 x (pQ (a:=b) (b:=a) (c:=c) h2 x y)
theorem iF(h:Int.gcd a b=1):Int.gcd b a=1:=by rw [Int.gcd_comm];exact h
theorem tD(h:Int.gcd a b=1)(h1:c∣a):Int.gcd c b=1:=og fun d x y=>oh h (kz x h1) y
theorem xM(h:b≠0):Int.gcd (a / (Int.gcd a b:Int)) (b / (Int.gcd a b:Int))=1:=by have z:0<Int.gcd a b:=oR _ (mq.mpr h);exact Int.gcd_ediv_gcd_ediv_gcd z
structure cp (x m:Int):Prop where
 pos:1≤m
 gD:Int.gcd x m=1
variable {x m y n:Int}
theorem Rc(a:cp x m)(b:cp y n) :
  cp ((x / (Int.gcd x n:Int))*(y / (Int.gcd y m:Int))) ((m / (Int.gcd y m:Int))*(n / (Int.gcd x n:Int))) ∧
   (x / (Int.gcd x n:Int))*(y / (Int.gcd y m:Int))*(m*n)=x*y*((m / (Int.gcd y m:Int))*(n / (Int.gcd x n:Int))):=by
 have m0:=a.pos;have n0:=b.pos;have p1:0<Int.gcd x n:=oR _ (mq.mpr (by lia))
 have p2:0<Int.gcd y m:=oR _ (mq.mpr (by lia))
 have c1:=xM (a:=x) (b:=n) (by lia)
 have c2:=xM (a:=y) (b:=m) (by lia)
 obtain ⟨x',ex⟩:=kx (a:=x) (b:=n);obtain ⟨n',en⟩:=jI (a:=x) (b:=n);obtain ⟨y',ey⟩:=kx (a:=y) (b:=m);obtain ⟨m',em⟩:=jI (a:=y) (b:=m);have ac:=a.gD;have bc:=b.gD;generalize Int.gcd x n=g at *;generalize Int.gcd y m=k at *;have g0:(g:Int)≠0:=by lia
 have k0:(k:Int)≠0:=by lia
 have gx:x / (g:Int)=x':=by rw [ex];exact i_ _ g0
 have gn:n / (g:Int)=n':=by rw [en];exact i_ _ g0
 have gy:y / (k:Int)=y':=by rw [ey];exact i_ _ k0
 have gm:m / (k:Int)=m':=by rw [em];exact i_ _ k0
 rw [gx,gn] at c1;rw [gy,gm] at c2;rw [gx,gn,gy,gm];have mp:0<m':=by
  have z:0<(k:Int)*m':=by rw [←em];lia
  exact tj (by lia) z
 have np:0<n':=by
  have z:0<(g:Int)*n':=by rw [←en];lia
  exact tj (by lia) z
 have xm:Int.gcd x' m'=1:=tD (iF (tD (iF ac) ⟨k,by rw [em,dM]⟩)) ⟨g,by rw [ex,dM]⟩
 have yn:Int.gcd y' n'=1:=tD (iF (tD (iF bc) ⟨g,by rw [en,dM]⟩)) ⟨k,by rw [ey,dM]⟩
 refine ⟨⟨Int.mul_pos mp np,?_⟩,?_⟩;·exact tu (iF (tu (iF xm) (iF c2))) (iF (tu (iF c1) (iF yn)))
 ·rw [ex,en,ey,em]
  simp only [ja,dM,zc]
theorem Rf(a:cp x m)(b:cp y n)(h:Int.gcd m n=1):cp (x*n+y*m) (m*n):=by
 have m0:=a.pos;have n0:=b.pos;refine ⟨Int.mul_pos (by lia) (by lia),tu (og fun d h1 h2=>?_) (og fun d h1 h2=>?_)⟩
 ·have z:(d:Int)∣x*n:=(Int.dvd_add_left (kz h2 (zd ..))).mp h1
  exact oh a.gD (pQ h h2 z) h2
 ·have z:(d:Int)∣y*m:=(Int.dvd_add_right (kz h2 (zd ..))).mp h1
  exact oh b.gD (pQ (iF h) h2 z) h2
theorem Rg(a:cp x m)(b:cp y n)(g k:Nat)(eg:g=Int.gcd m n)(top:Int)(et:top=x*(n / (g:Int))+y*(m / (g:Int)))(ek:k=Int.gcd top (g:Int)) :
  cp (top / (k:Int)) (m / (g:Int)*(n / (k:Int)))∧top / (k:Int)*(m*n)=(x*n+y*m)*(m / (g:Int)*(n / (k:Int))):=by
 have m0:=a.pos
 have n0:=b.pos
 have gp:0<g:=by rw [eg];exact oR _ (mq.mpr (by lia))
 have kp:0<k:=by rw [ek];exact oR _ (mq.mpr (by lia))
 have c1:=xM (a:=m) (b:=n) (by lia)
 have c2:=xM (a:=top) (b:=(g:Int)) (by lia)
 rw [←eg] at c1
 rw [←ek] at c2
 obtain ⟨m',em⟩:=kx (a:=m) (b:=n)
 obtain ⟨n',en⟩:=jI (a:=m) (b:=n)
 obtain ⟨t',e1⟩:=kx (a:=top) (b:=(g:Int))
 obtain ⟨g',e2⟩:=jI (a:=top) (b:=(g:Int))
 rw [←eg] at em en
 rw [←ek] at e1 e2
 have g0:(g:Int)≠0:=by lia
 have k0:(k:Int)≠0:=by lia
 have dm:m / (g:Int)=m':=by rw [em];exact i_ _ g0
 have dn:n / (g:Int)=n':=by rw [en];exact i_ _ g0
 have dt:top / (k:Int)=t':=by rw [e1];exact i_ _ k0
 have dg:(g:Int) / (k:Int)=g':=by rw [e2];exact i_ _ k0
 have dk:n / (k:Int)=g'*n':=by rw [en,e2,ja];exact i_ _ k0
 rw [dm,dn] at c1 et
 rw [dt,dg] at c2
 rw [dt,dm,dk]
 have pos:∀{u v:Int},0<u→0<u*v→0<v:=fun hu hz=>tj hu hz
 have mp:0<m':=pos (u:=(g:Int)) (by lia) (by rw [←em];lia)
 have np:0<n':=pos (u:=(g:Int)) (by lia) (by rw [←en];lia)
 have Rh:0<g':=pos (u:=(k:Int)) (by lia) (by rw [←e2];lia)
 have tm:Int.gcd top m'=1:=og fun d h1 h2=>by
  rw [et] at h1
  have z:(d:Int)∣x*n':=(Int.dvd_add_left (kz h2 (zd ..))).mp h1
  exact oh a.gD (pQ c1 h2 z) (kz h2 ⟨g,by rw [em,dM]⟩)
 have tn:Int.gcd top n'=1:=og fun d h1 h2=>by
  rw [et] at h1
  have z:(d:Int)∣y*m':=(Int.dvd_add_right (kz h2 (zd ..))).mp h1
  exact oh b.gD (pQ (iF c1) h2 z) (kz h2 ⟨g,by rw [en,dM]⟩)
 have tt:t'∣top:=⟨k,by rw [e1,dM]⟩
 refine ⟨⟨Int.mul_pos mp (Int.mul_pos Rh np),tu (tD tm tt) (tu c2 (tD tn tt))⟩,?_⟩
 have q:(k:Int)*t'=x*n'+y*m':=by rw [←e1,et]
 have l:t'*(m*n)=(k:Int)*t'*(m'*(g'*n')*(g:Int)):=by
  rw [em,en]
  conv=>lhs;rw [show (g:Int)*n'=(k:Int)*g'*n' by rw [←e2]]
  simp only [ja,dM,zc]
 rw [l,q,em,en]
 simp only [Int.add_mul,ja,dM,zc]
def cb(x:Int):Prop:=x.natAbs≤10 ^ 300
theorem Ri:(10:Nat) ^ 300<2 ^ 2048:=by decide +kernel
theorem cb.mid(h:cb x):fe x:=jH h Ri
theorem cb.over{g:Int}(h:cb x):cb (x / g):=bE (CO x g) h
theorem cb.neg(h:cb x):cb (-x):=by unfold cb;rw [nE];exact h
theorem cb.gcd(h:cb y)(z:y≠0):cb (Int.gcd x y:Int):=by unfold cb;rw [wN];exact bE (Nat.gcd_le_right _ (mq.mpr z)) h
theorem Aa(z:y≠0):(0:Int)<(Int.gcd x y:Int):=by have:=DP (a:=x) z;lia
def Rj:Sp:=fun vs H Q _=>∃(p q:Addr) (x m y n:Int),vs=[.ref p,.ref q]∧H p=some (.tup [.int x,.int m])∧H q=some (.tup [.int y,.int n])∧cp x m∧cp y n∧cb x∧cb m∧cb y∧cb n ∧
 ∀(r:Addr) (H':Hp) (u d:Int),af H H'→H' r=some (.tup [.int u,.int d])→cp u d→u*(m*n)=(x*n+y*m)*d→Q (.ref r) H'
def Rk:Sp:=fun vs H Q _=>∃(p q:Addr) (x m y n:Int),vs=[.ref p,.ref q]∧H p=some (.tup [.int x,.int m])∧H q=some (.tup [.int y,.int n])∧cp x m∧cp y n∧cb x∧cb m∧cb y∧cb n ∧
 ∀(r:Addr) (H':Hp) (u d:Int),af H H'→H' r=some (.tup [.int u,.int d])→cp u d→u*(m*n)=(x*n-y*m)*d→Q (.ref r) H'
def Rl:Sp:=fun vs H Q _=>∃(p q:Addr) (x m y n:Int),vs=[.ref p,.ref q]∧H p=some (.tup [.int x,.int m])∧H q=some (.tup [.int y,.int n])∧cp x m∧cp y n∧cb x∧cb m∧cb y∧cb n ∧
 ∀(r:Addr) (H':Hp) (u d:Int),af H H'→H' r=some (.tup [.int u,.int d])→cp u d→u*(m*n)=x*y*d→Q (.ref r) H'
theorem cp.neg(h:cp x m):cp (-x) m:=⟨h.pos,by rw [Int.neg_gcd];exact h.gD⟩
def kW(C:Addr)(fr:Int→Int→Int→Int→Int)(rm:Int→Int→Int):Sp:=fun vs H Q _=>∃(z:Addr) (q:Int) (v u:V),vs=[.ref z,v,u]∧fJ C H z q ∧
  ((q=0∧∃(p r:Addr) (x m y n:Int),v=.ref p∧u=.ref r∧H p=some (.tup [.int x,.int m])∧H r=some (.tup [.int y,.int n])∧cp x m∧cp y n∧cb x∧cb m∧cb y∧cb n ∧
    ∀(r':Addr) (H':Hp) (a d:Int),af H H'→H' r'=some (.tup [.int a,.int d])→cp a d→a*(m*n)=fr x m y n*d→Q (.ref r') H') ∨
   (2≤q∧∃i j:Int,v=.int i∧u=.int j∧0≤i∧i<1000∧Q (.int (rm i j % q)) H))
def aZ(p:Int):Prop:=p=0∨(2≤p∧p≤997∧hJ p=true)
inductive bj (B:Nat) (H:Hp):Int→V→Int→Int→Prop where
 | bU {p:Addr} {x m:Int} (e:H p=some (.tup [.int x,.int m])) (l:cp x m) (bx:x.natAbs≤B) (bm:m.natAbs≤B):bj B H 0 (.ref p) x m
 | rem {q i:Int} (h0:0≤i) (h1:i<q) (h2:q≤997):bj B H q (.int i) i 1
theorem bj.mono{B:Nat}(h:bj B H q v x m)(s:af H H'):bj B H' q v x m:=by
 cases h with
 | bU e l bx bm=>exact .bU (s _ _ e) l bx bm
 | rem h0 h1 h2=>exact .rem h0 h1 h2
theorem tE{d T B:Int}(l:cp u d)(hB:0<B)(e:u*B=T*d):d≤B∧u.natAbs≤T.natAbs:=by
 have h0:=l.pos;have hd:d∣B:=by
  have z:((d.natAbs:Nat):Int)∣B:=pQ (a:=B) (b:=d) (c:=u) (iF l.gD) (Int.natAbs_dvd.mpr (jb d)) ⟨T*(d / (d.natAbs:Int)),by
   have q:(d.natAbs:Int)=d:=by lia
   rw [q,Int.ediv_self (by lia),fW,dM B u,e,dM]⟩
  exact Int.natAbs_dvd.mp z
 have hle:=Int.le_of_dvd hB hd;refine ⟨hle,?_⟩;have z:u.natAbs*B.natAbs=T.natAbs*d.natAbs:=by rw [←gv,e,gv]
 have z2:T.natAbs*d.natAbs≤T.natAbs*B.natAbs:=Nat.mul_le_mul_left _ (by lia)
 rw [←z] at z2;exact Nat.le_of_mul_le_mul_right z2 (by lia)
theorem DQ(h1:2≤q)(h2:q≤997)(hp:hJ q=true)(b1:1≤b)(b2:b<q):Int.gcd q b=1:=by
 have gp:0<Int.gcd q b:=oR _ (mq.mpr (by lia))
 by_cases g1:Int.gcd q b=1;·exact g1
 exfalso
 obtain ⟨k,ek⟩:=kx (a:=q) (b:=b);have hb:=Int.le_of_dvd (by lia) (jI (a:=q) (b:=b))
 generalize Int.gcd q b=g at *;have kp:0<k:=tj (u:=(g:Int)) (by lia) (by rw [←ek];lia)
 have k2:k≠1:=fun z=>by rw [z,fW] at ek;lia
 have no:∀d:Int,2≤d→d*d≤q→q % d=0→False:=fun d x y z=>by rw [IU h2 x y z] at hp;cases hp
 by_cases c:(g:Int)≤k;·exact no g (by lia) (by rw [ek];exact se c (by lia)) (by rw [ek];exact Int.mul_emod_right ..)
 ·exact no k (by lia) (by rw [ek];exact Int.mul_le_mul_of_nonneg_right (by lia) (by lia)) (by rw [ek];exact Int.mul_emod_left ..)
structure mP (q b last lt now nt:Int):Prop where
 l:∃s,last=lt*b+s*q
 n:∃s,now=nt*b+s*q
 gD:Int.gcd last now=1
 pos:1≤now
 less:now≤last
variable {last nt:Int}
theorem mP.step{lt now:Int}(h:mP q b last lt now nt)(h1:1<now):mP q b now nt (last-last / now*now) (lt-last / now*nt)∧last-last / now*now<now:=by
 obtain ⟨⟨s,es⟩,⟨r,er⟩,c,p,le⟩:=h;have e:last-last / now*now=last % now:=by have z:=CP last now;rw [dM] at z;lia
 have lt1:=h_ last (show 0<now by lia)
 have ge:=gY last (show now≠0 by lia)
 have c':Int.gcd now (last % now)=1:=og fun d x y=>oh c (by have z:=CP last now;rw [←z];exact si y (kz x (Int.dvd_mul_right ..))) x
 have nz:last % now≠0:=fun z=>by rw [z,Int.gcd_zero_right] at c';lia
 refine ⟨⟨⟨r,er⟩,⟨s-last / now*r,?_⟩,by rw [e];exact c',by lia,by lia⟩,by lia⟩
 generalize last / now=f;rw [es,er,Int.sub_mul,Int.sub_mul,Int.mul_add,ja,ja];lia
theorem mP.done{lt:Int}(h:mP q b last lt 1 nt)(hq:2≤q):(nt % q*b) % q=1:=by
 obtain ⟨s,e⟩:=h.n;have z:nt*b=1+(-s)*q:=by rw [sj];lia
 have y:nt % q*b % q=nt*b % q:=by rw [wO (nt % q) b,Int.emod_emod,←wO]
 rw [y,z,Int.add_mul_emod_self_right];exact oS (by lia) (by lia)
theorem mP.start(h1:2≤q)(h2:q≤997)(hp:hJ q=true)(b1:1≤b)(b2:b<q):mP q b q 0 b 1:=
 ⟨⟨1,by lia⟩,⟨0,by lia⟩,DQ h1 h2 hp b1 b2,b1,by lia⟩
end My
namespace L2
open PySem PySem.Spec PyProof.Rows
def I0(K:aC):R2:=fun x y H Q=>(∃a xs i,x=.ref a∧y=.int i∧dN K H a xs∧Q (.bl false) H)∨(∃a xs i,x=.int i∧y=.ref a∧dN K H a xs∧Q (.bl false) H)∨zZ K false x y H Q∨HU x y H Q
theorem I_{X:Cx}(hu:X.A.units<cLine):cB X (compareOp .Eq) (I0 X.K):=by
 intro pins s σ H x y v u Q I rx ry h;rcases h with ⟨a,xs,i,rfl,rfl,h1,q⟩ | ⟨a,xs,i,rfl,rfl,h1,q⟩ | h | h
 ·cases rx
  obtain ⟨t,rfl⟩:=ry;obtain ⟨us,r1,t1,_⟩:=I.tuple h1;exact SeqAt.RcAt.tuple_int i t t1 hu _ _ _ _ ⟨.bl false,H,I,rfl,q⟩
 ·cases ry
  obtain ⟨t,rfl⟩:=rx;obtain ⟨us,r1,t1,_⟩:=I.tuple h1;exact SeqAt.RcAt.int_tuple i t t1 hu _ _ _ _ ⟨.bl false,H,I,rfl,q⟩
 ·exact QN hu pins s σ H x y v u Q I rx ry h
 ·exact fE pins s σ H x y v u Q I rx ry h
end L2
namespace My
open PySem L2
def Rm(N:Addr):Sp:=fun vs H Q E=>∃q b:Int,vs=[.int q,.int b]∧2≤q∧q≤997∧hJ q=true∧0≤b∧b<q∧(b=0→E (.ref N) none H)∧(b≠0→∀r:Int,0≤r→r<q→(r*b) % q=1→Q (.int r) H)
def Rn(N:Addr):Sp:=fun vs H Q E=>∃(p q:Addr) (x m y n:Int),vs=[.ref p,.ref q]∧H p=some (.tup [.int x,.int m])∧H q=some (.tup [.int y,.int n])∧cp x m∧cp y n∧cb x∧cb m∧cb y∧cb n ∧
 (y=0→E (.ref N) none H)∧(y≠0→∀(r:Addr) (H':Hp) (u d:Int),af H H'→H' r=some (.tup [.int u,.int d])→cp u d→u*(m*y)=x*n*d→Q (.ref r) H')
def Ro(N:Addr):Sp:=fun vs H Q E=>∃q i j:Int,vs=[.int q,.int i,.int j]∧2≤q∧q≤997∧hJ q=true∧0≤i∧i<q∧0≤j∧j<q∧(j=0→E (.ref N) none H)∧(j≠0→∀r:Int,0≤r→r<q→(r*j) % q=i→Q (.int r) H)
variable {y n:Int}
theorem Rp(l:cp y n)(h:0<y):cp n y:=⟨h,iF l.gD⟩
theorem Rq(l:cp y n)(h:y<0):cp (-n) (-y):=⟨by lia,by rw [Int.neg_gcd,Int.gcd_neg];exact iF l.gD⟩
theorem Rr{q i j r:Int}(hq:2≤q)(i0:0≤i)(i1:i<q)(h:(r*j) % q=1):(i*r % q*j) % q=i:=by
 have y:i*r % q*j % q=i*(r*j) % q:=by rw [wO (i*r % q) j,Int.emod_emod,←wO,ja]
 rw [y,wO,h,oS i0 i1,fW,oS i0 i1]
def Ab(C N:Addr):Sp:=fun vs H Q E=>∃(z:Addr) (q:Int) (v u:V),vs=[.ref z,v,u]∧fJ C H z q ∧
  ((q=0∧∃(p r:Addr) (x m y n:Int),v=.ref p∧u=.ref r∧H p=some (.tup [.int x,.int m])∧H r=some (.tup [.int y,.int n])∧cp x m∧cp y n∧cb x∧cb m∧cb y∧cb n ∧
    (y=0→E (.ref N) none H)∧(y≠0→∀(r':Addr) (H':Hp) (a d:Int),af H H'→H' r'=some (.tup [.int a,.int d])→cp a d→a*(m*y)=x*n*d→Q (.ref r') H')) ∨
   (2≤q∧∃i j:Int,v=.int i∧u=.int j∧q≤997∧hJ q=true∧0≤i∧i<q∧0≤j∧j<q∧(j=0→E (.ref N) none H)∧(j≠0→∀r:Int,0≤r→r<q→(r*j) % q=i→Q (.int r) H)))
end My
namespace L2
open PySem PySem.Spec PyProof.Rows
structure jr (K:aC) (x qual:Str) (st:Stmt) (i:Int) (f:Addr) (fd:FuncData):Prop where
 ex:∃(oc:Value) (od:Option Addr) (kV doc pm:Value) (an:Option Addr) (bq ct:Value) (gh:Array (Option Value)) (dT:Addr) (tk:Tok) (oi:Value) (oj:Option Addr) (n:Nat) (om:Array (Option Value)),
  fd=PySem.W.fnOf x qual (jq st) (gC st) (aP st) (.ref dT) kV doc pm an bq ct∧K.lookup f=some ⟨oc,od,.func fd,gh⟩∧PySem.W.codeIn K bq qual=true∧K.lookup dT=some ⟨oi,oj,.seq #[.int i tk] n,om⟩
 kp:PySem.W.keepIn K (.ref f)=true
section
variable {P:Program} {w:World} {K:aC} {mg:dq} {base:Heap}
variable {x qual:Str} {st:Stmt} {i:Int} {f:Addr} {fd:FuncData} {ps:List Str}
theorem jr.DE{N:List Str}{k:Nat}{sp:Sp}(F:jr K x qual st i f fd)(S:bD N ps (aP st))(len:∀vs H Q E,sp vs H Q E→vs.length=ps.length)
  (kN:∀(bq:Value) (A:Around) (outer:List Env) (s:Shared) (H:Hp) (vs:List V) (Q:VK) (E:XK),dr k (A.deeper (envOfC qual (aP st) s.heap.objs.size f bq))→sp vs H Q E→
   sQ (jo (dX P w) P w K mg base N qual (aP st) f bq A outer s H E) E→
   ∃t,eZ (jo (dX P w) P w K mg base N qual (aP st) f bq A outer s H E) (gC st) t∧t {nx:=fun _ H'=>Q .aV H',rt:=Q} (start N vs) H):bh P w K mg base (dX P w) (k+1) f fd ps sp:=by
 obtain ⟨oc,od,kV,doc,pm,an,bq,ct,gh,dT,tk,oi,oj,n,om,rfl,lk,f9,ld⟩:=F.ex;exact Dr lk f9 S len fun A outer s H vs Q E hr jQ=>kN bq A outer s H vs Q E hr jQ ⟨rfl,rfl,rfl,rfl⟩
theorem Ac{dT:Addr}{oc:Value}{od an:Option Addr}{gh:Array (Option Value)}{kV doc pm bq ct:Value}{tk:Tok}{oi:Value}{oj:Option Addr}{n:Nat}{om:Array (Option Value)}
  (l:K.lookup f=some ⟨oc,od,.func (PySem.W.fnOf x qual (jq st) (gC st) (aP st) (.ref dT) kV doc pm an bq ct),gh⟩)
  (c:PySem.W.codeIn K bq qual=true) (k:PySem.W.keepIn K (.ref f)=true) (ld:K.lookup dT=some ⟨oi,oj,.seq #[.int i tk] n,om⟩):jr K x qual st i f (PySem.W.fnOf x qual (jq st) (gC st) (aP st) (.ref dT) kV doc pm an bq ct):=
 ⟨⟨oc,od,kV,doc,pm,an,bq,ct,gh,dT,tk,oi,oj,n,om,rfl,l,c,ld⟩,k⟩
theorem jr.binds(F:jr K x qual st i f fd)
  (h:∀(s:Shared) (dT:Addr) (kV doc pm:Value) (an:Option Addr) (bq ct:Value) (tk:Tok) (o:Obj) (n:Nat) (us:List Value),s.heap.get? dT=some o→o.data=.seq #[.int i tk] n→us.length=ps.length→
   BindsTo s (PySem.W.fnOf x qual (jq st) (gC st) (aP st) (.ref dT) kV doc pm an bq ct) ⟨us,[]⟩ (ps.zip us)):Binds K fd ps []:=by
 obtain ⟨oc,od,kV,doc,pm,an,bq,ct,gh,dT,tk,oi,oj,n,om,rfl,lk,f9,ld⟩:=F.ex;intro s us X hl;rw [lz] at hl ⊢;exact h s dT kV doc pm an bq ct tk _ n us (X _ _ ld) rfl hl
theorem jr.Rt(F:jr K x qual st i f fd)
  (h:∀(s:Shared) (dT:Addr) (kV doc pm:Value) (an:Option Addr) (bq ct:Value) (tk:Tok) (o:Obj) (n:Nat) (us:List Value),s.heap.get? dT=some o→o.data=.seq #[.int i tk] n→us.length+1=ps.length→
   BindsTo s (PySem.W.fnOf x qual (jq st) (gC st) (aP st) (.ref dT) kV doc pm an bq ct) ⟨us,[]⟩ (ps.zip (us++[.int i tk]))):∃v,Vals [V.int i] [v]∧Binds K fd ps [v]:=by
 obtain ⟨oc,od,kV,doc,pm,an,bq,ct,gh,dT,tk,oi,oj,n,om,rfl,lk,f9,ld⟩:=F.ex;refine ⟨.int i tk,.cons ⟨tk,rfl⟩ .nil,fun s us X hl=>?_⟩;exact h s dT kV doc pm an bq ct tk _ n us (X _ _ ld) rfl (by simpa using hl)
theorem jr.Ru{y:Str}(F:jr K x qual st i f fd)
  (h:∀(s:Shared) (dT:Addr) (kV doc pm:Value) (an:Option Addr) (bq ct:Value) (tk:Tok) (o:Obj) (n:Nat) (us ws:List Value),s.heap.get? dT=some o→o.data=.seq #[.int i tk] n→ws.length=1→us.length+1=ps.length→
   BindsTo s (PySem.W.fnOf x qual (jq st) (gC st) (aP st) (.ref dT) kV doc pm an bq ct) ⟨us,[y].zip ws⟩ (ps.zip (us++ws))) :
  ∀(s:Shared) (us ws:List Value),K.In s.heap→ws.length=1→us.length+1=ps.length→BindsTo s fd ⟨us,[y].zip ws⟩ (ps.zip (us++ws)):=by
 obtain ⟨oc,od,kV,doc,pm,an,bq,ct,gh,dT,tk,oi,oj,n,om,rfl,lk,f9,ld⟩:=F.ex;intro s us ws X hw hl;exact h s dT kV doc pm an bq ct tk _ n us ws (X _ _ ld) rfl hw hl
end
section
variable {X:Cx} {CX:iz} {k:Nat} {f C:Addr} {fd:FuncData} {ps:List Str} {y:Str} {sp:Sp} {E:XK} {m:Str} {pos apos Il:Pos} {e e' o:Expr} {ta:TE} {t tk:TA}
def DR(K:aC):R2:=fun x y H Q=>zZ K true x y H Q∨HV x y H Q
theorem Rv(hu:X.A.units<cLine):cB X (compareOp .NotEq) (DR X.K):=by
 intro pins s σ H x y v u Q I rx ry h;rcases h with h | h;·exact QO hu pins s σ H x y v u Q I rx ry h
 ·exact jk pins s σ H x y v u Q I rx ry h
end
end L2
namespace My
open PySem L2
def lQ(a b:Int):Int:=a.fdiv (lowG a b)
def lR(a b:Int):Int:=b.fdiv (lowG a b)
variable {a b:Int}
theorem Rx(hb:b≠0):cp (lQ a b) (lR a b)∧lQ a b*b=a*lR a b∧(lQ a b).natAbs≤a.natAbs∧(lR a b).natAbs≤b.natAbs:=by
 have gp:=DP (a:=a) hb;have c:=xM (a:=a) hb;obtain ⟨a',ea⟩:=kx (a:=a) (b:=b);obtain ⟨b',eb⟩:=jI (a:=a) (b:=b);unfold lQ lR lowG;generalize Int.gcd a b=g at *;have g0:(g:Int)≠0:=by lia
 have ga:a / (g:Int)=a':=by rw [ea];exact i_ _ g0
 have gb:b / (g:Int)=b':=by rw [eb];exact i_ _ g0
 rw [ga,gb] at c;have la:a'.natAbs≤a.natAbs:=by rw [←ga];exact CO ..
 have lb:b'.natAbs≤b.natAbs:=by rw [←gb];exact CO ..
 have cr:a'*b=a*b':=by rw [ea,eb];simp only [ja,dM,zc]
 by_cases h:b<0
 ·have d1:(0-(g:Int))∣a:=⟨-a',by rw [ea,oT,Int.neg_mul_neg]⟩
  have d2:(0-(g:Int))∣b:=⟨-b',by rw [eb,oT,Int.neg_mul_neg]⟩
  rw [ak h,ze d1,ze d2,oT,Int.ediv_neg,Int.ediv_neg,ga,gb];refine ⟨⟨?_,by rw [Int.neg_gcd,Int.gcd_neg];exact c⟩,?_,?_,?_⟩
  ·have z:0 < -b':=tj (u:=(g:Int)) (by lia) (by rw [lC,←eb];lia)
   lia
  ·rw [sj,lC,cr]
  ·rw [nE];exact la
  ·rw [nE];exact lb
 ·rw [aj h,ze ⟨a',ea⟩,ze ⟨b',eb⟩,ga,gb]
  have z:0<b':=tj (u:=(g:Int)) (by lia) (by rw [←eb];lia)
  exact ⟨⟨by lia,c⟩,cr,la,lb⟩
theorem Ja(a:Int):lQ a 1=a∧lR a 1=1:=by
 unfold lQ lR lowG;rw [Int.gcd_one_right,aj (by decide)]
 exact ⟨Int.fdiv_one a,Int.fdiv_one 1⟩
def Ry(N:Addr):Sp:=fun vs H Q E=>∃a b:Int,vs=[.int a,.int b]∧fe b∧(b=0→E (.ref N) none H)∧(b≠0→∀(r:Addr) (H':Hp),af H H'→H' r=some (.tup [.int (lQ a b),.int (lR a b)])→Q (.ref r) H')
def oo(q b:Int):Prop:=if q=0 then b=0 else b % q=0
def xN(H:Hp)(q:Int)(v:V)(a b:Int):Prop:=
 (q=0∧∃r:Addr,v=.ref r∧H r=some (.tup [.int (lQ a b),.int (lR a b)]))∨(2≤q∧∃r:Int,v=.int r∧0≤r∧r<q∧(r*(b % q)) % q=a % q)
theorem xN.mono{H H':Hp}{q:Int}{v:V}(h:xN H q v a b)(s:af H H'):xN H' q v a b:=by
 rcases h with ⟨h,r,e,h2⟩ | h;·exact .inl ⟨h,r,e,s _ _ h2⟩
 ·exact .inr h
def Rz(C N:Addr):Sp:=fun vs H Q E=>∃(z:Addr) (q a b:Int),vs=[.ref z,.int a,.int b]∧fJ C H z q∧aZ q∧fe b ∧
 (oo q b→E (.ref N) none H)∧(¬oo q b→∀(v:V) (H':Hp),af H H'→xN H' q v a b→Q v H')
end My
namespace L2
open PySem PySem.Spec PyProof.Rows
section
variable {X:Cx}
end
end L2
namespace My
open PySem L2
variable {a c:Int}
theorem Jb{b:Int}(h:c≠0)(e:a*c=b*c):a=b:=CQ h e
variable {q:Int}
theorem RA{t:Int}(h:Int.gcd q c=1)(d:q∣c-t):Int.gcd q t=1:=by
 refine og fun e h1 h2=>oh h h1 ?_;have z:=si (kz h1 d) h2;rw [show c-t+t=c by lia] at z
 exact z
theorem RB(q2:2≤q)(g:Int.gcd q c=1)(d:q∣a*c):q∣a:=by
 have qq:((q.natAbs:Nat):Int)=q:=by lia
 have z:=pQ (a:=a) (b:=q) (c:=c) (d:=q.natAbs) g (by rw [qq];exact jb q) (by rw [qq];exact d)
 rw [qq] at z;exact z
theorem RC(a q:Int):∃w,a % q+q*w=a:=⟨a / q,CP a q⟩
section
variable {C N z:Addr} {q:Int} {v u:V} {t b t' b':Int} {H:Hp} {Q:VK} {E:XK}
theorem RD{u d u' d':Int}(l:cp u d)(l':cp u' d')(e:u*d'=u'*d):u=u'∧d=d':=by
 have h1:=l.pos;have h2:=l'.pos;have a:=(tE l (show 0<d' by lia) e).1
 have c:=(tE l' (show 0<d by lia) e.symm).1
 have dd:d=d':=by lia
 subst dd;exact ⟨Jb (show d≠0 by lia) e,rfl⟩
end
theorem bj.cf{B:Nat}{H H':Hp}{v:V}{x m:Int}{D:Addr}{ys:List V}(h:bj B H q v x m)(eD:H D=some (.lst ys))(k:∀b o,b≠D→H b=some o→H' b=some o):bj B H' q v x m:=by
 cases h with
 | bU e l bx bm=>refine .bU (k _ _ (fun z=>?_) e) l bx bm;rw [z,eD] at e;cases e
 | rem h0 h1 h2=>exact .rem h0 h1 h2
end My
namespace L2
open PySem PySem.Spec PyProof.Rows
structure mQ (J:It) (xs:List V) (H1:Hp):Prop where
 go:∀i Hc,af H1 Hc→i<xs.length→J.go i Hc
 f_:∀i Hc x H',af H1 Hc→J.f_ i Hc x H'→H'=Hc∧(i<xs.length→xs[i]?=some x)
 stop:∀i Hc,af H1 Hc→xs.length≤i→J.stop i Hc
variable {xs:List V} {H1:Hp}
theorem ju{K:aC}{a:Addr}(h:bZ K H1 a xs):mQ (sD K a) xs H1 where
 go:=fun i Hc s hi=>⟨xs,xs[i],s.seq h,by simp [hi]⟩
 f_:=fun i Hc x H' s y=>⟨y.1,fun _=>y.2 xs (s.seq h)⟩
 stop:=fun i Hc s hi=>⟨xs,s.seq h,hi⟩
theorem kX{lo:Int}{n:Nat}:mQ (mE lo n) ((List.range n).map fun i:Nat=>V.int (lo+(i:Int))) H1 where
 go:=fun i Hc s hi=>by
  have hi:i<n:=by simpa using hi
  exact hi
 f_:=fun i Hc x H' s y=>⟨y.1,fun hi=>by
  have hi:i<n:=by simpa using hi
  rw [y.2];simp [hi]⟩
 stop:=fun i Hc s hi=>by
  have hi:n≤i:=by simpa using hi
  exact hi
variable {H:Hp} {D:Addr}
theorem jv{H':Hp}{o:HO}(s:af H H')(n:H D=none):af H (upd H' D o):=fun b u e=>by rw [aK (je e n)];exact s b u e
variable {te:TE} {Q:VK}
theorem Jc{J:It}{ρσ:St}(js:mQ J xs H1)(nD:H1 D=none)(hn:xs.length<sizeLine)
  (P:Nat→V→Hp→Prop) (mono:∀i y H H' ys,P i y H→H D=some (.lst ys)→(∀b o,b≠D→H b=some o→H' b=some o)→P i y H')
  (step:∀i x,xs[i]?=some x→∀(Hc:Hp) (R:VK),af H1 Hc→(∃ys,Hc D=some (.lst ys))→(∀y H3,af Hc H3→P i y H3→R y H3)→te (some x::ρσ) Hc R)
  (fin:∀ys Hc,af H1 Hc→ys.length=xs.length→(∀i y,ys[i]?=some y→P i y Hc)→Hc D=some (.lst ys)→Q (.ref D) Hc) :
  ∃W:Nat→Nat→List V→Hp→Prop,(∃m,W 0 m [] (upd H1 D (.lst []))) ∧
   ∀i m ys Hc,W i m ys Hc→Hc D=some (.lst ys)∧((J.stop i Hc∧Q (.ref D) Hc)∨(J.go i Hc∧∀x H',J.f_ i Hc x H'→
    if true=true then te (some x::ρσ) H' fun y H3=>H3 D=some (.lst ys)∧ys.length<sizeLine∧∃m',m'<m∧W (i+1) m' (ys++[y]) (upd H3 D (.lst (ys++[y]))) else ∃m',m'<m∧W (i+1) m' ys H')):=by
 refine ⟨fun i m ys Hc=>m=xs.length-i∧i≤xs.length∧Hc D=some (.lst ys)∧af H1 Hc∧ys.length=i∧∀j y,ys[j]?=some y→P j y Hc,⟨_,rfl,b_ _,aA,jv (af.refl H1) nD,rfl,fun j y e=>by simp at e⟩,?_⟩
 rintro i m ys Hc ⟨rfl,hi,eD,sH,el,hP⟩;refine ⟨eD,?_⟩;by_cases bV:i<xs.length
 ·refine .inr ⟨js.go i Hc sH bV,fun x H' hy=>?_⟩
  obtain ⟨rfl,hx⟩:=js.f_ i Hc x H' sH hy;rw [ak rfl];refine step i x (hx bV) _ _ sH ⟨ys,eD⟩ fun y H3 s3 hp=>?_;have e3:=s3 _ _ eD;refine ⟨e3,by lia,xs.length-(i+1),by lia,rfl,bV,aA,jv (sH.trans s3) nD,by simp [el],fun j y' e=>?_⟩
  have cf:∀b o,b≠D→H3 b=some o→upd H3 D (.lst (ys++[y])) b=some o:=fun b o nb e=>by rw [aK nb];exact e
  by_cases hj:j<i
  ·have e':ys[j]?=some y':=by rw [nC (by lia)] at e;exact e
   refine mono j y' H' _ ys (hP j y' e') eD fun b o nb e=>?_;exact cf b o nb (s3 _ _ e)
  ·have hj:j=i:=by have:=(bQ.mp e).1;simp at this;lia
   subst hj;have e':y'=y:=by rw [lB (by lia),el,wQ] at e;simpa using e.symm
   subst e';exact mono _ _ H3 _ ys hp e3 cf
 ·have e:i=xs.length:=by lia
  subst e;exact .inl ⟨js.stop _ Hc sH (aG _),fin ys Hc sH el hP eD⟩
variable {wi:TI} {ρ:St→St} {σ:St}
theorem Jd(kY:∀R:It→Hp→Prop,(∀J H1,af H H1→mQ J xs H1→R J H1)→wi σ H R)(hn:xs.length<sizeLine)
  (P:Addr→Nat→V→Hp→Prop) (mono:∀D i y H H' ys,P D i y H→H D=some (.lst ys)→(∀b o,b≠D→H b=some o→H' b=some o)→P D i y H')
  (step:∀D i x,xs[i]?=some x→∀(Hc:Hp) (R:VK),af H Hc→(∃ys,Hc D=some (.lst ys))→(∀y H3,af Hc H3→P D i y H3→R y H3)→te (some x::ρ σ) Hc R)
  (fin:∀D ys Hc,af H Hc→ys.length=xs.length→(∀i y,ys[i]?=some y→P D i y Hc)→Hc D=some (.lst ys)→Q (.ref D) Hc):iD wi ρ (fun _ H Q=>Q true H) te σ H Q:=by
 refine kY _ fun J H1 s1 js=>?_;intro D nD;exact Jc (ρσ:=ρ σ) (te:=te) (Q:=Q) js nD hn (P D) (mono D) (fun i x hx Hc R sc=>step D i x hx Hc R (s1.trans sc)) (fun ys Hc sc=>fin D ys Hc (s1.trans sc))
theorem aY{g:TG}{D:Ends}(h:te σ H fun x H1=>g x σ H1 D.nx):nR te g D σ H:=h
theorem mR{a b:TS}{D:Ends}(h:a {D with nx:=fun σ H=>b D σ H} σ H):C9 a b D σ H:=h
section
variable {X:Cx} {N:List Str} {scope:Scope} {cl:List (Str×Addr)} {x:Str} {px pos:Pos} {iter elt:Expr} {ifs:List Expr} {wi:TI} {ρ:St→St} {tt:TT} {te:TE}
theorem oq{y:Str}{py xO:Pos}{i0:Nat}(B:sX X N scope cl x ρ)(hc:X.calm=true)(hN:X.N.Nodup)(DS:X.N[i0]?=some y)(hy:Loc X.env.scope y)(hi:PI X (.Name x px) iter wi)(ht:∀s₃ H₃ fp,nZ (X.dw N scope cl s₃ H₃ fp) ifs tt)(he:∀s₃ H₃ fp,PE (X.dw N scope cl s₃ H₃ fp) elt te)
  (DU:swapsWith (.ListComp elt [⟨.Name x px,iter,ifs,0⟩] scope pos) (some (.Name y py)) xO.line X.env=pure true:=by rfl) (hf:X.fn y=true∨X.env.scope.names.lookup y=some .local:=by first | exact .inl rfl | exact .inr rfl | assumption)
  (hs:∀x,foldedSetIterable iter X.env x=pure x:=by intro _;rfl):PS X (.Assign [.Name y py] (.ListComp elt [⟨.Name x px,iter,ifs,0⟩] scope pos) xO) (nR (iD wi ρ tt te) (cW i0)):=by
 intro pins s σ H D0 I h
 have h:iD wi ρ tt te σ H (fun v H1=>D0.nx (σ.set i0 (some v)) H1):=h
 rw [exec_Assign_Name_used _ _ _ _ DU]
 refine bI (wpAny_standAt (bI ?_))
 show wpAny _ X.A (do let _ ←comprehension (.ListComp elt [⟨.Name x px,iter,ifs,0⟩] scope pos) scope X.env _ (newList []) false (eval iter X.env) (some (assign (.Name y py) X.env))) _ _ s
 refine bI (dG (Q:=fun _ s'=>SP X pins D0 .next s') ?_ (fun _ s' hq=>dH (dH hq)) fun _ _ e=>e)
 refine CL (use:=some (assign (.Name y py) X.env)) rfl hs B.z5 B.kind B.names (aR (hi pins s σ H _ I h) fun v s1 h1=>aR h1 fun xo s2 h2=>?_)
 obtain ⟨it,fp,tn,J,H2,rfl,I2,T,e8,f2,q2⟩:=h2
 have nD:H2 s2.heap.objs.size=none:=I2.aD.fresh (aG _)
 obtain ⟨W,⟨m0,w0⟩,turn⟩:=q2 _ nD
 refine y8 (wpAny_newFunctionEnv B.IV (by intro y hy;simp at hy) (fun h₁ kP mM=>?_) B.kind)
 dsimp only at kP mM ⊢
 generalize hD:s2.heap.objs.size=D at nD w0 turn kP mM ⊢
 generalize kT:({s2 with heap:=s2.heap.push {cls:=.type "list",dict:=none,data:=.seq ([]:List Value).toArray}}:Shared)=s3
 have I3:Inv X pins σ (upd H2 D (.lst [])) s3:=by
  subst hD kT
  exact I2.laid (t':=s2.toks) (fun b u e=>cF _ e) (aG _) ⟨b_ _,[],_,.nil,eX _ rfl⟩
 have e3:s3.heap=s2.heap.push {cls:=.type "list",dict:=none,data:=.seq ([]:List Value).toArray}:=by rw [←kT]
 have iE:∀b o,s2.heap.get? b=some o→s3.heap.get? b=some o:=fun b o e=>by rw [e3];exact cF _ e
 rw [←e3] at kP mM ⊢
 have below:∀b o,s3.heap.get? b=some o→b≠s3.heap.objs.size:=fun b o e=>dC (bP e)
 have fP:∀b o,s3.heap.get? b=some o→h₁.get? b=some o:=fun b o e=>mM.extBut b o (below b o e) (cF _ e)
 have jT:∀b∈fp,∃o,s2.heap.get? b=some o∧∀v,o.data≠.cell v:=T.obj _ _ e8
 have xF:∀b∈fp,b≠D:=fun b hb z=>by
  obtain ⟨o,e,_⟩:=jT b hb
  rw [z,←hD] at e
  exact absurd (bP e) (dS _)
 have eQ:∀y c,cl.lookup y=some c→X.env.cells.lookup y=some c:=fun y c e=>B.sub (y,c) (lA e)
 have xG:=I3.xg
 have fI:(X.dw N scope cl s3 (upd H2 D (.lst [])) fp).Ok:=by
  refine ⟨I.ok.mod,B.kind,I.ok.glob,I.ok.blt,aG _,fun a b c e1 e2=>I.ok.inj a b c (eQ a c e1) (eQ b c e2),fun y hy=>B.has y hy,(fun _ _ z _=>absurd z dI),(fun _=>I.ok.hd hc),I.ok.frames,.inl rfl,fun b hb=>⟨?_,fun y c e z=>?_⟩,fun b o e=>?_,bE I.ok.jg I3.sz,fun b o e hb=>?_,fun b hb z=>?_,I3.stack,xG⟩
  ·obtain ⟨o,e,_⟩:=jT b hb
   exact below b o (iE b o e)
  ·exact (f2 b hb).2.2.2.2.1 y c (eQ y c e) z
  ·exact I3.bs b o e
  ·rcases (f2 b hb).2.2.2.1 with z | z
   ·exact I.ok.pd b o e z
   ·exact absurd (dF (bP e) (bE I.ok.jg z)) (dS _)
  ·rcases c_.mp (I3.xf b z) with z | z
   ·exact (f2 b hb).2.1 z
   ·exact (f2 b hb).2.2.1 z
 have IB:∀tk:Nat,Inv (X.dw N scope cl s3 (upd H2 D (.lst [])) fp) [] (none::ρ σ) (upd H2 D (.lst [])) {s3 with heap:=h₁,toks:=tk}:=fun tk=>by
  refine ⟨fI,rfl,I3.bare,Un.kept fP,⟨_,kP,fun j y v e1 e2 e3=>?_⟩,fun y c e=>?_,?_,fun y c e=>I3.jN y c (eQ y c e),(fun p hp=>nomatch hp),I3.aD.kept fP,?_⟩
  ·cases j with
   | zero=>cases e2
   | succ j=>
    obtain ⟨i,y',a1,a2,a3,a4,a5,a6⟩:=B.z6 σ j v e2
    have sY:N[j+1]?=some y:=e1
    rw [sY] at a1
    cases a1
    obtain ⟨m,hn,hl⟩:=I3.loc
    obtain ⟨u,r,l⟩:=hl i y v a2 a3 a4
    refine ⟨u,r,.inr ⟨a6,?_⟩⟩
    obtain ⟨c,ec⟩:=B.has y a6
    rcases l with ⟨k,_⟩ | ⟨_,c',n4,z⟩
    ·rcases a5 with q | q <;> (rw [k] at q;cases q)
    ·have:=eQ y c ec
     rw [this] at n4
     cases n4
     obtain ⟨o,ho,hd⟩:=z
     exact ⟨c,ec,o,fP _ _ ho,hd⟩
  ·obtain ⟨v,o,ho,hd⟩:=I3.cell y c (eQ y c e)
   exact ⟨v,o,fP _ _ ho,hd⟩
  ·exact I3.aD.fresh (aG _)
  ·show (none::ρ σ).length=N.length
   rw [fY]
   exact B.len σ I.len
 have pR:∀b o,s3.heap.get? b=some o→b≠s3.heap.objs.size:=below
 have fin:∀{σ':St} {H':Hp} {s':Shared},Inv (X.dw N scope cl s3 (upd H2 D (.lst [])) fp) [] σ' H' s'→D0.nx (σ.set i0 (some (.ref D))) H'→compPost (model X.prog X.w) X.A X.xe (some (assign (.Name y py) X.env)) (fun _ s'=>SP X pins D0 .next s') (.ref D) s3.heap.objs.size (.ok .next) s':=fun{σ' H' s'} J q=>by
  obtain ⟨m,hn,_⟩:=J.loc
  have hn:s'.heap.Ns s3.heap.objs.size m:=hn
  have JC:H' s3.heap.objs.size=none:=J.free
  have u1:Un (cV X.stack) fp (upd H2 D (.lst [])) H' s3.heap s'.heap:=by
   refine ⟨fun b o e n hb hx=>J.base.keep b o e n hb hx,fun b o e n hb hx=>J.base.slot b o e n hb hx,J.base.free,fun b o e hx=>J.base.there b o e hx,J.base.iq,J.base.g8,J.base.ir⟩
  have IX:Inv X pins σ H' s':=I3.pj (ch:=fp) (J.os) u1 J.aD J.bare fun b hb=>by
   obtain ⟨g0,g1,g2,g3,g4,g5⟩:=f2 b hb
   exact ⟨g3,g1,g4,g5⟩
  have nl:X.env.locals≠s3.heap.objs.size:=by
   obtain ⟨m3,⟨o3,_,_,e3,_⟩,_⟩:=I3.loc
   exact pR _ _ e3
  have nc:∀z c,X.env.cells.lookup z=some c→c≠s3.heap.objs.size:=fun z c e=>by
   obtain ⟨v3,o3,e3,_⟩:=I3.cell z c e
   exact pR _ _ e3
  refine wpAny_assign_Name (C4 (v:=.ref D) IX hN DS hy rfl (fun hE pS pU=>?_) hf)
  obtain ⟨a,pU,ha⟩:=pU
  have na:s3.heap.objs.size≠a:=by
   rcases ha with rfl | e
   ·exact fun z=>nl z.symm
   ·exact fun z=>nc _ _ e z.symm
  refine ⟨m,hn.sameBut pU na,fun h' i3=>⟨σ.set i0 (some (.ref D)),H',?_,q⟩⟩
  have u2:Un (cV X.stack) [s3.heap.objs.size] H' H' hE.heap h':=by
   refine ⟨fun b o e n hb hx=>(i3.2 b (by simpa using hx)).trans e,fun b o e n hb hx=>⟨o.slots,(i3.2 b (by simpa using hx)).trans e⟩,fun b o e n hx=>n,fun b o e hx=>⟨o,(i3.2 b (by simpa using hx)).trans e⟩,fun b xs z=>z,fun b o u z=>z,fun b ps z=>⟨#[],by simpa using z⟩⟩
  have xH:cL X.prog X.w H' h':=fun b u e=>by
   refine (pS.aD b u e).kG (fun c v hc z=>(i3.2 c fun y=>?_).trans z) (fun _ z=>z) fun _ _ z=>z
   have y':c=s3.heap.objs.size:=y
   rcases hc with hc | hc
   ·rw [←hc,y',JC] at e
    cases e
   ·rw [y',JC] at hc
    cases hc
  refine pS.pj (s':={hE with heap:=h'}) (ch:=[s3.heap.objs.size]) rfl u2 xH pS.bare fun b hb=>?_
  have eb:b=s3.heap.objs.size:=by simpa using hb
  subst eb
  refine ⟨.inr I3.sz,fun z=>nl z.symm,fun z c e=>nc z c e,fun p hp=>?_⟩
  exact pR _ _ (I3.pin p hp).1
 have iw:∀{H':Hp},(∀b∈fp,H' b=none)→∀b∈fp,mD (X.dw N scope cl s3 (upd H2 D (.lst [])) fp) [] H' b:=fun hn b hb=>by
  refine ⟨hn b hb,?_,?_,.inl hb,fun y c e z=>(f2 b hb).2.2.2.2.1 y c (eQ y c e) z,fun p hp=>nomatch hp⟩
  ·obtain ⟨o,e,_⟩:=jT b hb
   exact below b o (iE b o e)
  ·exact fI.pf b hb
 have loop:∀tk:Nat,codeAny (model X.prog X.w) X.A (.compLoop (.ListComp elt [⟨.Name x px,iter,ifs,0⟩] scope pos) 0 (.ref it) (.ref D) (compEnvC scope cl s3.heap.objs.size X.env))
   (compPost (model X.prog X.w) X.A X.xe (some (assign (.Name y py) X.env)) (fun _ s'=>SP X pins D0 .next s') (.ref D) s3.heap.objs.size) {s3 with heap:=h₁,toks:=tk}:=fun tk=>by
  refine CM (fun n s'=>∃i ys o H',Inv (X.dw N scope cl s3 (upd H2 D (.lst [])) fp) [] (o::ρ σ) H' s'∧tn i s'.heap∧(∀b∈fp,H' b=none)∧W i n ys H') ?_ m0
   ⟨0,[],none,_,IB tk,T.keep _ _ _ e8 fun b hb o e=>fP _ _ (iE _ _ e),fun b hb=>by rw [aK (xF b hb)];exact (f2 b hb).1,w0⟩
  rintro n s4 ⟨i,ys,o,H4,I4,n5,n8,w4⟩
  obtain ⟨IY,xI⟩:=turn i n ys H4 w4
  rcases xI with ⟨stop,qn⟩ | ⟨go,step⟩
  ·refine dG (T.done (X.dw N scope cl s3 (upd H2 D (.lst [])) fp) rfl rfl rfl hc i [] s4 _ H4 (fun _ _=>False) I4 (iw n8) n5 stop) (fun r s5 ⟨hr,I5⟩=>?_) fun _ _ z=>z.elim
   subst hr
   exact fin I5 qn
  ·refine dG (T.item (X.dw N scope cl s3 (upd H2 D (.lst [])) fp) rfl rfl rfl hc i [] s4 _ H4 (fun _ _=>False) I4 (iw n8) n5 go) (fun r s5 ⟨u,hr,h5⟩=>?_) fun _ _ z=>z.elim
   subst hr
   have z:letOwnedTupleGo (.Name x px) (.ref it) u=pure ():=rfl
   rw [z] at h5
   show wpAny _ _ ((pure ():Sem Unit) >>= fun _=>assign (.Name x px) (compEnvC scope cl s3.heap.objs.size X.env) u) _ _ s5
   refine bI (dG h5 (fun _ s5 ⟨y,H5,I5,r5,y5,iy,pD⟩=>?_) fun _ _ z=>z.elim)
   have pE:=I5.pinned (iw pD) (T.obj _ _ iy)
   have pg:PG (X.dw N scope cl s3 (upd H2 D (.lst [])) fp) (.Name x px) (cW 0):=cX (i:=0) B.nd B.n0 (.inl (zb B.hx)) (.inr (zb B.hx))
   have again:∀{σ7:St} {H7:Hp} {s7:Shared},Inv (X.dw N scope cl s3 (upd H2 D (.lst [])) fp) ([]++lK fp s5.heap) σ7 H7 s7→Inv (X.dw N scope cl s3 (upd H2 D (.lst [])) fp) [] σ7 H7 s7∧tn (i+1) s7.heap∧∀b∈fp,H7 b=none:=fun{σ7 H7 s7} I7=>by
    refine ⟨I7.sE,T.keep _ _ _ iy fun b hb o e=>(I7.pin (b,o) (fX _ (fX _ (nS hb e)))).1,fun b hb=>?_⟩
    obtain ⟨o,e,d⟩:=T.obj _ _ iy b hb
    exact (I7.pin (b,o) (fX _ (fX _ (nS hb e)))).2.1
   refine dG (pg _ s5 _ H5 y u (fun σ2 H6=>σ2=some y::ρ σ∧H6=H5) pE r5 ⟨rfl,rfl⟩) (fun _ s6 ⟨σ6,H6,I6,q6⟩=>?_) fun _ _ z=>z.elim
   obtain ⟨rfl,rfl⟩:=q6
   have xJ:=step y _ y5
   have tests:∀{kU:TT},nZ (X.dw N scope cl s3 (upd H2 D (.lst [])) fp) ifs kU→∀{R:Bool→Hp→Prop},kU (some y::ρ σ) H6 R→wpAny (model X.prog X.w) X.A
     (forIn ifs true fun c r=>if r=true then do let ok ←isTrue c (compEnvC scope cl s3.heap.objs.size X.env) (eval c (compEnvC scope cl s3.heap.objs.size X.env));pure (ForInStep.yield ok) else pure (ForInStep.yield r))
     (fun ok s7=>∃H7,Inv (X.dw N scope cl s3 (upd H2 D (.lst [])) fp) ([]++lK fp s5.heap) (some y::ρ σ) H7 s7∧R ok H7) (fun _ _=>False) s6:=fun{kU} p {R} hR=>by
    cases p with
    | nil=>exact wpAny_tests_nil ⟨_,I6,hR⟩
    | one p=>exact wpAny_tests_one (p _ s6 _ _ _ I6 hR)
   refine dG (tests (ht s3 _ fp) xJ) (fun ok s7 ⟨H7,I7,q7⟩=>?_) fun _ _ z=>z.elim
   cases ok with
   | false=>
    obtain ⟨m',gj,w7⟩:=q7
    obtain ⟨a1,a2,a3⟩:=again I7
    exact ⟨m',gj,i+1,ys,_,H7,a1,a2,a3,w7⟩
   | true=>
    refine dG (he s3 _ fp _ s7 _ H7 _ I7 q7) (fun ev s8 ⟨z,H8,I8,r8,xK,hz,m',gj,w8⟩=>?_) fun _ _ z=>z.elim
    refine dG (nW (X:=X.dw N scope cl s3 (upd H2 D (.lst [])) fp) _ s8 _ H8 (.ref D) [z] (.ref D) [ev] (fun _ H9=>H9=upd H8 D (.lst (ys++[z]))) I8 rfl (.cons r8 .nil) ⟨D,ys,z,rfl,rfl,xK,hz,rfl⟩) (fun _ s9 ⟨_,H9,I9,_,q9⟩=>?_) fun _ _ z=>z.elim
    subst q9
    obtain ⟨a1,a2,a3⟩:=again I9
    exact ⟨m',gj,i+1,ys++[z],_,_,a1,a2,a3,w8⟩
 have start:=loop (s3.toks+([]:List (Str×Value)).length)
 have es:({s3 with heap:=h₁,toks:=s3.toks+([]:List (Str×Value)).length}:Shared)={s2 with heap:=h₁,toks:=s2.toks+([]:List (Str×Value)).length}:=by rw [←kT]
 rw [es] at start
 exact CN start (T.self _ 0 _ _ _ (T.keep _ _ _ e8 fun b hb o e=>fP _ _ (iE _ _ e)) start)
end
section
variable {X:Cx}
end
section
variable {prog:Program} {w:World} {A:Around} {R:Result→Shared→Prop} {s:Shared}
end
section
variable {X:Cx} {N:List Str} {scope:Scope} {cl:List (Str×Addr)} {x y:Str} {px py pos tp:Pos} {RE:Nat} {iter elt:Expr} {ifs:List Expr} {wi:TI} {ρ:St→St} {tt:TT} {te:TE}
end
section
variable {X:Cx}
def anyR(K:aC):List V→Hp→VK→Prop:=fun xs H Q=>∃(p:Addr) (bs:List Bool),xs=[.ref p]∧bZ K H p (bs.map V.bl)∧Q (.bl (bs.any id)) H
variable {K:aC}
theorem RF(hc:X.calm=true)(hK:X.K=K:=by rfl):gc X (.builtin "any") (anyR K):=by
 intro pins s σ H xs us Q I r h;subst hK;obtain ⟨p,bs,rfl,hq,q⟩:=h;obtain ⟨u,rfl,ru⟩:=vals1 r;cases ru;obtain ⟨ai,rv,pl,hz⟩:=I.list hq;have e_:p≠s.heap.objs.size:=by obtain ⟨o,e,_⟩:=pl.isList;exact dC (bP e)
 have hl:ai.length=bs.length:=by rw [←rv.length,aJ]
 refine call_any_walk (wF pl.isList ?_);refine ⟨s.heap.objs.size,_,_,_,_,_,fun i=>bs.getD i false,rfl,Walks.list (A:=X.A.in1) (show X.A.in1.handled=none from I.ok.hd hc) s.heap.objs.size p e_ ai.toArray,⟨⟨_,eX _ rfl,rfl,rfl⟩,pl.isList.push _⟩,fun i v s' Q' E' hv fG=>?_,fun h' tk hk=>?_⟩
 ·have g9:ai[i]?=some v:=by simpa using hv
  cases eb:bs[i]? with
  | none=>
   have:=rv.none_of (i:=i) (by rw [cx,eb];rfl)
   rw [this] at g9;cases g9
  | some b=>
   obtain ⟨u,hu,ru⟩:=rv.get (i:=i) (x:=V.bl b) (by rw [cx,eb];rfl)
   rw [hu] at g9;cases g9;cases ru;have e:bs.getD i false=b:=by rw [gX,eb];rfl
   have pN:Q' (bs.getD i false) s':=fG;rw [e] at pN;exact mm pN
 ·refine ⟨.bl (bs.any id),H,I.kept fun b o e=>hk b o (fun z=>?_) (cF _ e),?_,q⟩
  ·exact absurd (bP e) (by rw [iR.mp z];exact dS _)
  ·show Value.bool _=Value.bool _
   congr 1
   rw [cI,hl];clear hk q rv pl hz hl hq
   induction bs with
   | nil=>rfl
   | cons b bs ih=>rw [fY,CK,wR,List.any_map,wR];show (b || (List.range bs.length).any fun i=>bs.getD i false)=(b || bs.any id);rw [ih]
def RG(K:aC):List V→Hp→VK→Prop:=fun xs H Q=>∃(p:Addr) (ns:List Int),xs=[.ref p]∧bZ K H p (ns.map V.int)∧Q (.int ns.sum) H
theorem RH:∀(ns:List Int),preSum (fun i=>ns.getD i 0) ns.length=ns.sum:=by
 intro ns;have key:∀k,k≤ns.length→preSum (fun i=>ns.getD i 0) k=(ns.take k).sum:=by
  intro k
  induction k with
  | zero=>intro _;rfl
  | succ k ih=>
   intro hk;show preSum (fun i=>ns.getD i 0) k+ns.getD k 0=_;rw [ih (by lia),List.take_add_one,wU]
   have e:ns[k]?=some ns[k]:=by simp [show k<ns.length by lia]
   rw [gX,e];simp
 rw [key ns.length (aG _),kA]
theorem RI(hc:X.calm=true)(hK:X.K=K:=by rfl):gc X (.builtin "sum") (RG K):=by
 intro pins s σ H xs us Q I r h;subst hK;obtain ⟨p,ns,rfl,hq,q⟩:=h;obtain ⟨u,rfl,ru⟩:=vals1 r;cases ru;obtain ⟨ai,rv,pl,hz⟩:=I.list hq;have e_:p≠s.heap.objs.size:=by obtain ⟨o,e,_⟩:=pl.isList;exact dC (bP e)
 have hl:ai.length=ns.length:=by rw [←rv.length,aJ]
 refine call_sum_walkG (wF pl.isList ?_);refine ⟨s.heap.objs.size,_,_,_,_,_,fun i=>ns.getD i 0,rfl,Walks.list (A:=X.A.in1) (show X.A.in1.handled=none from I.ok.hd hc) s.heap.objs.size p e_ ai.toArray,⟨⟨_,eX _ rfl,rfl,rfl⟩,pl.isList.push _⟩,?_,fun i v hv=>?_,fun h' tk t' hk=>?_⟩
 ·intro b hb
  rw [wG];simp only [c_,oU,or_false] at hb;rcases hb with rfl | rfl;·exact wH _
  ·obtain ⟨o,e,_⟩:=pl.isList
   exact Nat.lt_succ_of_lt (bP e)
 ·have g9:ai[i]?=some v:=by simpa using hv
  cases eb:ns[i]? with
  | none=>
   have:=rv.none_of (i:=i) (by rw [cx,eb];rfl)
   rw [this] at g9;cases g9
  | some b=>
   obtain ⟨u,hu,ru⟩:=rv.get (i:=i) (x:=V.int b) (by rw [cx,eb];rfl)
   rw [hu] at g9;cases g9;obtain ⟨t,rfl⟩:=ru;exact ⟨t,by show Value.int b t=Value.int (ns.getD i 0) t;rw [gX,eb];rfl⟩
 ·refine ⟨.int ns.sum,H,I.kept fun b o e=>hk b o (fun z=>?_) (cF _ e),⟨t',?_⟩,q⟩
  ·exact absurd (bP e) (by rw [iR.mp z];exact dS _)
  ·congr 1
   rw [cI,hl];exact RH ns
end
theorem boot_any:bootBuiltins "any"=some (.builtin "any"):=by decide +kernel
theorem boot_sum:bootBuiltins "sum"=some (.builtin "sum"):=by decide +kernel
abbrev Cx.iG (X:Cx) (N:List Str) (scope:Scope) (cl:List (Str×Addr)) (x:Str) (s₃:Shared) (H₃:Hp) (fp:List Addr):Cx:=
 {X with N:=N,s₀:=s₃,H₀:=H₃,env:=compEnvC scope ((x,s₃.heap.objs.size+1)::cl) s₃.heap.objs.size X.env,outer:=X.stack,stack:=X.stack,ex:=fp,fn:=fun y=>y == x,pn:=[],xe:=fun _ _=>False}
section
variable {M:Model} {A:Around} {E:aN} {s:Shared}
theorem RJ{scope:Scope}{globals:Addr}{cl:List (Str×Addr)}{qual x:Str}{env:Env}{Q:Env→Shared→Prop}
  (c1:∀n,cellsFrom n scope.names cl=(x,n)::cl) (p1:∀h:Heap,pushCells h scope.names=h.push {cls:=.type "cell",data:=.cell none})
  (hQ:Q (newEnv scope s.heap.objs.size globals ((x,s.heap.objs.size+1)::cl) qual none .none (some env) builtinsNs) {s with heap:=(s.heap.push {cls:=.type "dict",data:=.dict #[]}).push {cls:=.type "cell",data:=.cell none}}) :
  wpAny M A (newFunctionEnv scope globals cl [] qual none .none (some env)) Q E s:=by
 simp only [newFunctionEnv,Option.isSome_some,dJ];refine bI (wpAny_alloc ?_);refine bI (wpAny_layCells _ (fun name kind cells=>by cases RK:kind == NameKind.cell <;> simp [RK]) _ _ _ _ ?_)
 rw [show ({s with heap:=s.heap.push {cls:=.type "dict",data:=.dict #[]}}:Shared).heap.objs.size=s.heap.objs.size+1 from wG ..,c1,p1];exact bI (dH (dH hQ))
end
section
variable {X:Cx} {N:List Str} {scope:Scope} {cl:List (Str×Addr)} {x:Str} {px pos:Pos} {iter elt:Expr} {ifs:List Expr} {wi:TI} {ρ:St→St} {tt:TT} {te:TE}
theorem RL{names:List (Str×NameKind)}(h:(names.all fun q=>(q.2 != .cell && q.2 != .free) || ((cl.lookup q.1).isSome || q.1 == x))=true) :
  ∀y,y≠x→(names.lookup y=some .cell∨names.lookup y=some .free)→∃c,cl.lookup y=some c:=fun y hx hy=>by
 have key:∀k:NameKind,(k != .cell && k != .free)=false→names.lookup y=some k→∃c,cl.lookup y=some c:=fun k hk e=>by have z:=r9.mp h (y,k) (lA e);rw [hk,Bool.false_or,show ((y,k).1 == x)=false from km.mpr hx,Bool.or_false] at z;exact CH.mp z
 rcases hy with e | e;·exact key .cell rfl e
 ·exact key .free rfl e
structure RM (X:Cx) (N:List Str) (scope:Scope) (cl:List (Str×Addr)) (x:Str) (ρ:St→St):Prop where
 z5:closureFor scope X.env=pure cl
 kind:scope.kind=.function
 RN:∀n,cellsFrom n scope.names cl=(x,n)::cl
 RO:∀h:Heap,pushCells h scope.names=h.push {cls:=.type "cell",data:=.cell none}
 names:∀y∈scope.names,y.2=.local→scope.names.lookup y.1=some .local
 sub:∀p∈cl,X.env.cells.lookup p.1=some p.2
 has:∀y,y≠x→((relabel scope X.env).names.lookup y=some .cell∨(relabel scope X.env).names.lookup y=some .free)→∃c,cl.lookup y=some c
 n0:N[0]?=some x
 nd:N.Nodup
 RP:(relabel scope X.env).names.lookup x=some .cell
 z6:∀(σ:St) (j:Nat) (v:V),(ρ σ)[j]?=some (some v)→∃(i:Nat) (y:Str),N[j+1]?=some y∧X.N[i]?=some y∧σ[i]?=some (some v)∧nK X.env.scope y∧(X.env.kindOf y=some .cell∨X.env.kindOf y=some .free)∧((relabel scope X.env).names.lookup y=some .cell∨(relabel scope X.env).names.lookup y=some .free)
 len:∀σ:St,σ.length=X.N.length→(ρ σ).length+1=N.length
end
def mT(K:aC)(H:Hp):Nat→V→V→Prop
 | 0,v,u=>v=u∧mJ v=true
 | n+1,v,u=>(v=u∧mJ v=true)∨∃a b xs ys,v=.ref a∧u=.ref b∧((bZ K H a xs∧bZ K H b ys)∨(dN K H a xs∧dN K H b ys))∧xs.length=ys.length∧∀(j:Nat) (x y:V),xs[j]?=some x→ys[j]?=some y→mT K H n x y
theorem DV{v:V}(h:mJ v=true):mK v v=true:=by
 cases v with
 | aV=>rfl
 | bl b=>show (b == b)=true;simp
 | int i=>show (i == i)=true;simp
 | str x=>show (x == x)=true;simp
 | _=>cases h
theorem all_range(n:Nat):(List.range n).all (fun _=>true)=true:=by simp
section
variable {X:Cx} {pins:a9} {σ:St} {H:Hp} {s:Shared}
theorem Ad(I:Inv X pins σ H s):∀(n:Nat) (A:Around) (v u:V) (a b:Value),mT X.K H n v u→RelV v a→RelV u b→A.units+n<cLine→SeqAt.EqAt A s a b true
 | 0,A,v,u,a,b,h,ra,rb,hu=>by obtain ⟨rfl,hf⟩:=h;have z:=zR (A:=A) (s:=s) ra rb hf hf;rw [DV hf] at z;exact z
 | n+1,A,v,u,a,b,h,ra,rb,hu=>by
  rcases h with ⟨rfl,hf⟩ | ⟨p,q,xs,ys,rfl,rfl,hs,hl,hi⟩
  ·have z:=zR (A:=A) (s:=s) ra rb hf hf
   rw [DV hf] at z;exact z
  ·cases ra
   cases rb;by_cases pq:p=q
   ·subst pq
    exact SeqAt.EqAt.same _
   rcases hs with ⟨h1,h2⟩ | ⟨h1,h2⟩
   ·obtain ⟨us,r1,t1,_⟩:=I.list h1
    obtain ⟨vs,r2,t2,_⟩:=I.list h2;have l1:=r1.length;have l2:=r2.length;have z:=SeqAt.RcAt.lists (A:=A) (e:=fun _=>true) t1.isList t2.isList (by simp;lia) (by lia) (fun j z1 z2=>by
     have Ae:j<us.length:=by simpa using z1
     have Af:j<vs.length:=by simpa using z2
     obtain ⟨x,ex⟩:∃x,xs[j]?=some x:=⟨xs[j],by simp [show j<xs.length by lia]⟩
     obtain ⟨y,ey⟩:∃y,ys[j]?=some y:=⟨ys[j],by simp [show j<ys.length by lia]⟩
     obtain ⟨x',kH,rx⟩:=r1.get ex;obtain ⟨y',mU,ry⟩:=r2.get ey;have e1:us.toArray[j]=x':=by simpa using (bQ.mp kH).2
     have e2:vs.toArray[j]=y':=by simpa using (bQ.mp mU).2
     rw [e1,e2];exact Ad I n A.in1 x y x' y' (hi j x y ex ey) rx ry (by rw [zf];lia))
    rw [all_range] at z;exact SeqAt.EqAt.of_refs pq z
   ·obtain ⟨us,r1,t1,_⟩:=I.tuple h1
    obtain ⟨vs,r2,t2,_⟩:=I.tuple h2;have l1:=r1.length;have l2:=r2.length;have z:=SeqAt.RcAt.tuples (A:=A) (e:=fun _=>true) t1 t2 (by lia) (fun j z1 z2=>by
     have Ae:j<us.length:=by simpa using z1
     have Af:j<vs.length:=by simpa using z2
     obtain ⟨x,ex⟩:∃x,xs[j]?=some x:=⟨xs[j],by simp [show j<xs.length by lia]⟩
     obtain ⟨y,ey⟩:∃y,ys[j]?=some y:=⟨ys[j],by simp [show j<ys.length by lia]⟩
     obtain ⟨x',kH,rx⟩:=r1.get ex;obtain ⟨y',mU,ry⟩:=r2.get ey;have e1:us.toArray[j]=x':=by simpa using (bQ.mp kH).2
     have e2:vs.toArray[j]=y':=by simpa using (bQ.mp mU).2
     rw [e1,e2];exact Ad I n A.in1 x y x' y' (hi j x y ex ey) rx ry (by rw [zf];lia))
    have e3:(us.toArray.size == vs.toArray.size)=true:=by simp;lia
    rw [all_range,e3] at z;exact SeqAt.EqAt.of_refs pq z
end
section
variable {X:Cx}
def RQ(K:aC)(n:Nat)(r:Bool):R2:=fun x y H Q=>∃a b xs ys,x=.ref a∧y=.ref b∧bZ K H a xs∧bZ K H b ys∧xs.length=ys.length∧(∀(j:Nat) (x y:V),xs[j]?=some x→ys[j]?=some y→mT K H n x y)∧Q (.bl r) H
theorem RR{n:Nat}(hu:X.A.units+64<cLine)(hn:n<60:=by decide):cB X (compareOp .Eq) (RQ X.K n true):=by
 intro pins s σ H x y v u Q I rx ry h;obtain ⟨a,b,xs,ys,rfl,rfl,h1,h2,hl,hi,q⟩:=h;cases rx;cases ry;obtain ⟨us,r1,t1,_⟩:=I.list h1;obtain ⟨vs,r2,t2,_⟩:=I.list h2;have l1:=r1.length;have l2:=r2.length;refine SeqAt.eq_listAt (e:=fun _=>true) t1.isList t2.isList (by simp;lia) (by lia) (fun j z1 z2=>?_) ?_
 ·have Ae:j<us.length:=by simpa using z1
  have Af:j<vs.length:=by simpa using z2
  obtain ⟨x,ex⟩:∃x,xs[j]?=some x:=⟨xs[j],by simp [show j<xs.length by lia]⟩
  obtain ⟨y,ey⟩:∃y,ys[j]?=some y:=⟨ys[j],by simp [show j<ys.length by lia]⟩
  obtain ⟨x',kH,rx⟩:=r1.get ex;obtain ⟨y',mU,ry⟩:=r2.get ey;have e1:us.toArray[j]=x':=by simpa using (bQ.mp kH).2
  have e2:vs.toArray[j]=y':=by simpa using (bQ.mp mU).2
  rw [e1,e2];exact Ad I n X.A.in1 x y x' y' (hi j x y ex ey) rx ry (by rw [zf];lia)
 ·rw [all_range]
  exact ⟨.bl true,H,I,rfl,q⟩
end
section
variable {X:Cx} {N:List Str} {scope:Scope} {cl:List (Str×Addr)} {x:Str} {px pos:Pos} {iter elt:Expr} {ifs:List Expr} {wi:TI} {ρ:St→St} {tt:TT} {te:TE}
theorem RS{y:Str}{py xO:Pos}{i0:Nat}(B:RM X N scope cl x ρ)(hc:X.calm=true)(hN:X.N.Nodup)(DS:X.N[i0]?=some y)(hy:Loc X.env.scope y)(hi:PI X (.Name x px) iter wi)(ht:∀s₃ H₃ fp,nZ (X.iG N scope cl x s₃ H₃ fp) ifs tt)(he:∀s₃ H₃ fp,PE (X.iG N scope cl x s₃ H₃ fp) elt te)
  (DU:swapsWith (.ListComp elt [⟨.Name x px,iter,ifs,0⟩] scope pos) (some (.Name y py)) xO.line X.env=pure true:=by rfl) (hf:X.fn y=true∨X.env.scope.names.lookup y=some .local:=by first | exact .inl rfl | exact .inr rfl | assumption)
  (hs:∀x,foldedSetIterable iter X.env x=pure x:=by intro _;rfl):PS X (.Assign [.Name y py] (.ListComp elt [⟨.Name x px,iter,ifs,0⟩] scope pos) xO) (nR (iD wi ρ tt te) (cW i0)):=by
 intro pins s σ H D0 I h
 have h:iD wi ρ tt te σ H (fun v H1=>D0.nx (σ.set i0 (some v)) H1):=h
 rw [exec_Assign_Name_used _ _ _ _ DU]
 refine bI (wpAny_standAt (bI ?_))
 show wpAny _ X.A (do let _ ←comprehension (.ListComp elt [⟨.Name x px,iter,ifs,0⟩] scope pos) scope X.env _ (newList []) false (eval iter X.env) (some (assign (.Name y py) X.env))) _ _ s
 refine bI (dG (Q:=fun _ s'=>SP X pins D0 .next s') ?_ (fun _ s' hq=>dH (dH hq)) fun _ _ e=>e)
 refine CL (use:=some (assign (.Name y py) X.env)) rfl hs B.z5 B.kind B.names (aR (hi pins s σ H _ I h) fun v s1 h1=>aR h1 fun xo s2 h2=>?_)
 obtain ⟨it,fp,tn,J,H2,rfl,I2,T,e8,f2,q2⟩:=h2
 have nD:H2 s2.heap.objs.size=none:=I2.aD.fresh (aG _)
 obtain ⟨W,⟨m0,w0⟩,turn⟩:=q2 _ nD
 refine y8 (RJ B.RN B.RO ?_)
 dsimp only
 generalize hD:s2.heap.objs.size=D at nD w0 turn ⊢
 generalize kT:({s2 with heap:=s2.heap.push {cls:=.type "list",dict:=none,data:=.seq ([]:List Value).toArray}}:Shared)=s3
 have I3:Inv X pins σ (upd H2 D (.lst [])) s3:=by
  subst hD kT
  exact I2.laid (t':=s2.toks) (fun b u e=>cF _ e) (aG _) ⟨b_ _,[],_,.nil,eX _ rfl⟩
 have e3:s3.heap=s2.heap.push {cls:=.type "list",dict:=none,data:=.seq ([]:List Value).toArray}:=by rw [←kT]
 have iE:∀b o,s2.heap.get? b=some o→s3.heap.get? b=some o:=fun b o e=>by rw [e3];exact cF _ e
 rw [←e3]
 obtain ⟨h₁,eh⟩:∃h₁,h₁=(s3.heap.push {cls:=.type "dict",data:=.dict #[]}).push {cls:=.type "cell",data:=.cell none}:=⟨_,rfl⟩
 rw [←eh]
 have kP:h₁.Ns s3.heap.objs.size (fun _=>none):=by
  rw [eh]
  exact (Heap.Ns.new s3.heap (.type "dict")).keeps fun b o e=>cF _ e
 have RT:(s3.heap.push {cls:=.type "dict",data:=.dict #[]}).objs.size=s3.heap.objs.size+1:=wG ..
 have RU:h₁.IsCell (s3.heap.objs.size+1) none:=by
  rw [eh,←RT]
  exact ⟨_,eX _ rfl,rfl⟩
 have below:∀b o,s3.heap.get? b=some o→b≠s3.heap.objs.size:=fun b o e=>dC (bP e)
 have fP:∀b o,s3.heap.get? b=some o→h₁.get? b=some o:=fun b o e=>by rw [eh];exact cF _ (cF _ e)
 have jT:∀b∈fp,∃o,s2.heap.get? b=some o∧∀v,o.data≠.cell v:=T.obj _ _ e8
 have xF:∀b∈fp,b≠D:=fun b hb z=>by
  obtain ⟨o,e,_⟩:=jT b hb
  rw [z,←hD] at e
  exact absurd (bP e) (dS _)
 have eQ:∀y c,cl.lookup y=some c→X.env.cells.lookup y=some c:=fun y c e=>B.sub (y,c) (lA e)
 have Je:∀y c,cl.lookup y=some c→c<s3.heap.objs.size:=fun y c e=>by
  obtain ⟨v,o,eo,_⟩:=I3.cell y c (eQ y c e)
  exact bP eo
 have lk:∀y c,((x,s3.heap.objs.size+1)::cl).lookup y=some c→(y=x∧c=s3.heap.objs.size+1)∨(y≠x∧cl.lookup y=some c):=fun y c e=>by
  by_cases z:y=x
  ·subst z
   rw [zg,r_] at e
   exact .inl ⟨rfl,(Option.some.inj e).symm⟩
  ·rw [zg,km.mpr z] at e
   exact .inr ⟨z,e⟩
 have Jf:∀y c,y≠x→cl.lookup y=some c→((x,s3.heap.objs.size+1)::cl).lookup y=some c:=fun y c z e=>by
  rw [zg,km.mpr z]
  exact e
 have Jg:∀b∈fp,b<s3.heap.objs.size:=fun b hb=>by
  obtain ⟨o,e,_⟩:=jT b hb
  exact bP (iE b o e)
 have xG:=I3.xg
 have fI:(X.iG N scope cl x s3 (upd H2 D (.lst [])) fp).Ok:=by
  refine ⟨I.ok.mod,B.kind,I.ok.glob,I.ok.blt,aG _,fun a b c e1 e2=>?inj,fun y hy=>?has,(fun y c z e=>?pe),(fun _=>I.ok.hd hc),I.ok.frames,.inl rfl,fun b hb=>⟨?_,fun y c e z=>?_⟩,fun b o e=>?_,bE I.ok.jg I3.sz,fun b o e hb=>?_,fun b hb z=>?_,I3.stack,xG⟩
  case inj=>
   rcases lk a c e1 with ⟨z1,RV⟩ | ⟨_,f1⟩ <;> rcases lk b _ e2 with ⟨z2,ec⟩ | ⟨_,Jh⟩
   ·rw [z1,z2]
   ·have:=Je _ _ Jh
    rw [RV] at this
    exact absurd this (Nat.not_lt.mpr (ko _))
   ·have:=Je _ _ f1
    rw [ec] at this
    exact absurd this (Nat.not_lt.mpr (ko _))
   ·exact I.ok.inj a b c (eQ a c f1) (eQ b c Jh)
  case has=>
   by_cases z:y=x
   ·subst z
    exact ⟨_,by rw [show (compEnvC scope ((y,s3.heap.objs.size+1)::cl) s3.heap.objs.size X.env).cells=(y,s3.heap.objs.size+1)::cl from rfl,zg,r_]⟩
   ·obtain ⟨c,ec⟩:=B.has y z hy
    exact ⟨c,Jf y c z ec⟩
  case pe=>
   have z:y=x:=by simpa using z
   rcases lk y c e with ⟨_,rfl⟩ | ⟨z',_⟩
   ·exact ko _
   ·exact absurd z z'
  ·obtain ⟨o,e,_⟩:=jT b hb
   exact below b o (iE b o e)
  ·rcases lk y c e with ⟨rfl,rfl⟩ | ⟨_,e⟩
   ·rw [←z] at hb
    exact absurd (Jg _ hb) (Nat.not_lt.mpr (ko _))
   ·exact (f2 b hb).2.2.2.2.1 y c (eQ y c e) z
  ·exact I3.bs b o e
  ·rcases (f2 b hb).2.2.2.1 with z | z
   ·exact I.ok.pd b o e z
   ·exact absurd (dF (bP e) (bE I.ok.jg z)) (dS _)
  ·rcases c_.mp (I3.xf b z) with z | z
   ·exact (f2 b hb).2.1 z
   ·exact (f2 b hb).2.2.1 z
 have IB:∀tk:Nat,Inv (X.iG N scope cl x s3 (upd H2 D (.lst [])) fp) [] (none::ρ σ) (upd H2 D (.lst [])) {s3 with heap:=h₁,toks:=tk}:=fun tk=>by
  refine ⟨fI,rfl,I3.bare,Un.kept fP,⟨_,kP,fun j y v e1 e2 e3=>?_⟩,fun y c e=>?_,?_,fun y c e=>?fC,(fun p hp=>nomatch hp),I3.aD.kept fP,?_⟩
  ·cases j with
   | zero=>cases e2
   | succ j=>
    obtain ⟨i,y',a1,a2,a3,a4,a5,a6⟩:=B.z6 σ j v e2
    have sY:N[j+1]?=some y:=e1
    rw [sY] at a1
    cases a1
    obtain ⟨m,hn,hl⟩:=I3.loc
    obtain ⟨u,r,l⟩:=hl i y v a2 a3 a4
    refine ⟨u,r,.inr ⟨a6,?_⟩⟩
    have yx:y≠x:=fun z=>by
     have n0:=B.n0
     rw [←z] at n0
     have:=(List.getElem?_inj (bQ.mp n0).1 B.nd).mp (n0.trans sY.symm)
     lia
    obtain ⟨c,ec⟩:=B.has y yx a6
    rcases l with ⟨k,_⟩ | ⟨_,c',n4,z⟩
    ·rcases a5 with q | q <;> (rw [k] at q;cases q)
    ·have:=eQ y c ec
     rw [this] at n4
     cases n4
     obtain ⟨o,ho,hd⟩:=z
     exact ⟨c,Jf y c yx ec,o,fP _ _ ho,hd⟩
  case fC=>
   rcases lk y c e with ⟨rfl,rfl⟩ | ⟨_,e⟩
   ·exact I3.aD.fresh (ko _)
   ·exact I3.jN y c (eQ y c e)
  ·rcases lk y c e with ⟨rfl,rfl⟩ | ⟨_,e⟩
   ·exact ⟨none,RU⟩
   ·obtain ⟨v,o,ho,hd⟩:=I3.cell y c (eQ y c e)
    exact ⟨v,o,fP _ _ ho,hd⟩
  ·exact I3.aD.fresh (aG _)
  ·show (none::ρ σ).length=N.length
   rw [fY]
   exact B.len σ I.len
 have pR:∀b o,s3.heap.get? b=some o→b≠s3.heap.objs.size:=below
 have fin:∀{σ':St} {H':Hp} {s':Shared},Inv (X.iG N scope cl x s3 (upd H2 D (.lst [])) fp) [] σ' H' s'→D0.nx (σ.set i0 (some (.ref D))) H'→compPost (model X.prog X.w) X.A X.xe (some (assign (.Name y py) X.env)) (fun _ s'=>SP X pins D0 .next s') (.ref D) s3.heap.objs.size (.ok .next) s':=fun{σ' H' s'} J q=>by
  obtain ⟨m,hn,_⟩:=J.loc
  have hn:s'.heap.Ns s3.heap.objs.size m:=hn
  have JC:H' s3.heap.objs.size=none:=J.free
  have u1:Un (cV X.stack) fp (upd H2 D (.lst [])) H' s3.heap s'.heap:=by
   refine ⟨fun b o e n hb hx=>J.base.keep b o e n hb hx,fun b o e n hb hx=>J.base.slot b o e n hb hx,J.base.free,fun b o e hx=>J.base.there b o e hx,J.base.iq,J.base.g8,J.base.ir⟩
  have IX:Inv X pins σ H' s':=I3.pj (ch:=fp) (J.os) u1 J.aD J.bare fun b hb=>by
   obtain ⟨g0,g1,g2,g3,g4,g5⟩:=f2 b hb
   exact ⟨g3,g1,g4,g5⟩
  have nl:X.env.locals≠s3.heap.objs.size:=by
   obtain ⟨m3,⟨o3,_,_,e3,_⟩,_⟩:=I3.loc
   exact pR _ _ e3
  have nc:∀z c,X.env.cells.lookup z=some c→c≠s3.heap.objs.size:=fun z c e=>by
   obtain ⟨v3,o3,e3,_⟩:=I3.cell z c e
   exact pR _ _ e3
  refine wpAny_assign_Name (C4 (v:=.ref D) IX hN DS hy rfl (fun hE pS pU=>?_) hf)
  obtain ⟨a,pU,ha⟩:=pU
  have na:s3.heap.objs.size≠a:=by
   rcases ha with rfl | e
   ·exact fun z=>nl z.symm
   ·exact fun z=>nc _ _ e z.symm
  refine ⟨m,hn.sameBut pU na,fun h' i3=>⟨σ.set i0 (some (.ref D)),H',?_,q⟩⟩
  have u2:Un (cV X.stack) [s3.heap.objs.size] H' H' hE.heap h':=by
   refine ⟨fun b o e n hb hx=>(i3.2 b (by simpa using hx)).trans e,fun b o e n hb hx=>⟨o.slots,(i3.2 b (by simpa using hx)).trans e⟩,fun b o e n hx=>n,fun b o e hx=>⟨o,(i3.2 b (by simpa using hx)).trans e⟩,fun b xs z=>z,fun b o u z=>z,fun b ps z=>⟨#[],by simpa using z⟩⟩
  have xH:cL X.prog X.w H' h':=fun b u e=>by
   refine (pS.aD b u e).kG (fun c v hc z=>(i3.2 c fun y=>?_).trans z) (fun _ z=>z) fun _ _ z=>z
   have y':c=s3.heap.objs.size:=y
   rcases hc with hc | hc
   ·rw [←hc,y',JC] at e
    cases e
   ·rw [y',JC] at hc
    cases hc
  refine pS.pj (s':={hE with heap:=h'}) (ch:=[s3.heap.objs.size]) rfl u2 xH pS.bare fun b hb=>?_
  have eb:b=s3.heap.objs.size:=by simpa using hb
  subst eb
  refine ⟨.inr I3.sz,fun z=>nl z.symm,fun z c e=>nc z c e,fun p hp=>?_⟩
  exact pR _ _ (I3.pin p hp).1
 have iw:∀{H':Hp},(∀b∈fp,H' b=none)→∀b∈fp,mD (X.iG N scope cl x s3 (upd H2 D (.lst [])) fp) [] H' b:=fun hn b hb=>by
  refine ⟨hn b hb,?_,?_,.inl hb,fun y c e z=>?sc,fun p hp=>nomatch hp⟩
  case sc=>
   rcases lk y c e with ⟨rfl,rfl⟩ | ⟨_,e⟩
   ·rw [←z] at hb
    exact absurd (Jg _ hb) (Nat.not_lt.mpr (ko _))
   ·exact (f2 b hb).2.2.2.2.1 y c (eQ y c e) z
  ·obtain ⟨o,e,_⟩:=jT b hb
   exact below b o (iE b o e)
  ·exact fI.pf b hb
 have loop:∀tk:Nat,codeAny (model X.prog X.w) X.A (.compLoop (.ListComp elt [⟨.Name x px,iter,ifs,0⟩] scope pos) 0 (.ref it) (.ref D) (compEnvC scope ((x,s3.heap.objs.size+1)::cl) s3.heap.objs.size X.env))
   (compPost (model X.prog X.w) X.A X.xe (some (assign (.Name y py) X.env)) (fun _ s'=>SP X pins D0 .next s') (.ref D) s3.heap.objs.size) {s3 with heap:=h₁,toks:=tk}:=fun tk=>by
  refine CM (fun n s'=>∃i ys o H',Inv (X.iG N scope cl x s3 (upd H2 D (.lst [])) fp) [] (o::ρ σ) H' s'∧tn i s'.heap∧(∀b∈fp,H' b=none)∧W i n ys H') ?_ m0
   ⟨0,[],none,_,IB tk,T.keep _ _ _ e8 fun b hb o e=>fP _ _ (iE _ _ e),fun b hb=>by rw [aK (xF b hb)];exact (f2 b hb).1,w0⟩
  rintro n s4 ⟨i,ys,o,H4,I4,n5,n8,w4⟩
  obtain ⟨IY,xI⟩:=turn i n ys H4 w4
  rcases xI with ⟨stop,qn⟩ | ⟨go,step⟩
  ·refine dG (T.done (X.iG N scope cl x s3 (upd H2 D (.lst [])) fp) rfl rfl rfl hc i [] s4 _ H4 (fun _ _=>False) I4 (iw n8) n5 stop) (fun r s5 ⟨hr,I5⟩=>?_) fun _ _ z=>z.elim
   subst hr
   exact fin I5 qn
  ·refine dG (T.item (X.iG N scope cl x s3 (upd H2 D (.lst [])) fp) rfl rfl rfl hc i [] s4 _ H4 (fun _ _=>False) I4 (iw n8) n5 go) (fun r s5 ⟨u,hr,h5⟩=>?_) fun _ _ z=>z.elim
   subst hr
   have z:letOwnedTupleGo (.Name x px) (.ref it) u=pure ():=rfl
   rw [z] at h5
   show wpAny _ _ ((pure ():Sem Unit) >>= fun _=>assign (.Name x px) (compEnvC scope ((x,s3.heap.objs.size+1)::cl) s3.heap.objs.size X.env) u) _ _ s5
   refine bI (dG h5 (fun _ s5 ⟨y,H5,I5,r5,y5,iy,pD⟩=>?_) fun _ _ z=>z.elim)
   have pE:=I5.pinned (iw pD) (T.obj _ _ iy)
   have pg:PG (X.iG N scope cl x s3 (upd H2 D (.lst [])) fp) (.Name x px) (cW 0):=cX (i:=0) B.nd B.n0 (.inr B.RP) (.inl (by show (x == x)=true;simp))
   have again:∀{σ7:St} {H7:Hp} {s7:Shared},Inv (X.iG N scope cl x s3 (upd H2 D (.lst [])) fp) ([]++lK fp s5.heap) σ7 H7 s7→Inv (X.iG N scope cl x s3 (upd H2 D (.lst [])) fp) [] σ7 H7 s7∧tn (i+1) s7.heap∧∀b∈fp,H7 b=none:=fun{σ7 H7 s7} I7=>by
    refine ⟨I7.sE,T.keep _ _ _ iy fun b hb o e=>(I7.pin (b,o) (fX _ (fX _ (nS hb e)))).1,fun b hb=>?_⟩
    obtain ⟨o,e,d⟩:=T.obj _ _ iy b hb
    exact (I7.pin (b,o) (fX _ (fX _ (nS hb e)))).2.1
   refine dG (pg _ s5 _ H5 y u (fun σ2 H6=>σ2=some y::ρ σ∧H6=H5) pE r5 ⟨rfl,rfl⟩) (fun _ s6 ⟨σ6,H6,I6,q6⟩=>?_) fun _ _ z=>z.elim
   obtain ⟨rfl,rfl⟩:=q6
   have xJ:=step y _ y5
   have tests:∀{kU:TT},nZ (X.iG N scope cl x s3 (upd H2 D (.lst [])) fp) ifs kU→∀{R:Bool→Hp→Prop},kU (some y::ρ σ) H6 R→wpAny (model X.prog X.w) X.A
     (forIn ifs true fun c r=>if r=true then do let ok ←isTrue c (compEnvC scope ((x,s3.heap.objs.size+1)::cl) s3.heap.objs.size X.env) (eval c (compEnvC scope ((x,s3.heap.objs.size+1)::cl) s3.heap.objs.size X.env));pure (ForInStep.yield ok) else pure (ForInStep.yield r))
     (fun ok s7=>∃H7,Inv (X.iG N scope cl x s3 (upd H2 D (.lst [])) fp) ([]++lK fp s5.heap) (some y::ρ σ) H7 s7∧R ok H7) (fun _ _=>False) s6:=fun{kU} p {R} hR=>by
    cases p with
    | nil=>exact wpAny_tests_nil ⟨_,I6,hR⟩
    | one p=>exact wpAny_tests_one (p _ s6 _ _ _ I6 hR)
   refine dG (tests (ht s3 _ fp) xJ) (fun ok s7 ⟨H7,I7,q7⟩=>?_) fun _ _ z=>z.elim
   cases ok with
   | false=>
    obtain ⟨m',gj,w7⟩:=q7
    obtain ⟨a1,a2,a3⟩:=again I7
    exact ⟨m',gj,i+1,ys,_,H7,a1,a2,a3,w7⟩
   | true=>
    refine dG (he s3 _ fp _ s7 _ H7 _ I7 q7) (fun ev s8 ⟨z,H8,I8,r8,xK,hz,m',gj,w8⟩=>?_) fun _ _ z=>z.elim
    refine dG (nW (X:=X.iG N scope cl x s3 (upd H2 D (.lst [])) fp) _ s8 _ H8 (.ref D) [z] (.ref D) [ev] (fun _ H9=>H9=upd H8 D (.lst (ys++[z]))) I8 rfl (.cons r8 .nil) ⟨D,ys,z,rfl,rfl,xK,hz,rfl⟩) (fun _ s9 ⟨_,H9,I9,_,q9⟩=>?_) fun _ _ z=>z.elim
    subst q9
    obtain ⟨a1,a2,a3⟩:=again I9
    exact ⟨m',gj,i+1,ys++[z],_,_,a1,a2,a3,w8⟩
 have start:=loop s3.toks
 have es:({s3 with heap:=h₁,toks:=s3.toks}:Shared)={s2 with heap:=h₁}:=by rw [←kT]
 rw [es] at start
 exact CN start (T.self _ 0 _ _ _ (T.keep _ _ _ e8 fun b hb o e=>fP _ _ (iE _ _ e)) start)
end
theorem jW(kY:∀R:It→Hp→Prop,(∀J H1,af H H1→mQ J xs H1→R J H1)→wi σ H R)(hn:xs.length<sizeLine)
  (P:Addr→Nat→V→Hp→Prop) (mono:∀D i y H H' ys,P D i y H→H D=some (.lst ys)→(∀b o,b≠D→H b=some o→H' b=some o)→P D i y H')
  (step:∀D i x,xs[i]?=some x→∀(Hc:Hp) (R:VK),af H Hc→(∃ys,Hc D=some (.lst ys))→(∀y H3,af Hc H3→P D i y H3→R y H3)→te (some x::ρ σ) Hc R)
  (fin:∀D ys Hc,H D=none→af H Hc→ys.length=xs.length→(∀(i:Nat) (y:V),ys[i]?=some y→P D i y Hc)→Hc D=some (.lst ys)→Q (.ref D) Hc):iD wi ρ (fun _ H Q=>Q true H) te σ H Q:=by
 refine kY _ fun J H1 s1 js=>?_;intro D nD;have hD:H D=none:=by
  cases e:H D with
  | none=>rfl
  | some o=>rw [s1 _ _ e] at nD;cases nD
 exact Jc (ρσ:=ρ σ) (te:=te) (Q:=Q) js nD hn (P D) (mono D) (fun i x hx Hc R sc=>step D i x hx Hc R (s1.trans sc)) (fun ys Hc sc=>fin D ys Hc hD (s1.trans sc))
section
variable {X:Cx} {K:aC}
theorem RW(hK:X.K=K:=by rfl):sO X (IC K):=by subst hK;exact a_
theorem iH(hK:X.K=K:=by rfl):sO X (IA K):=by subst hK;exact b8
def RX(K:aC):List V→Hp→VK→Prop:=fun xs H Q=>∃p ys,xs=[.ref p]∧(bZ K H p ys∨dN K H p ys)∧Q (.int (ys.length:Int)) H
theorem DW(hK:X.K=K:=by rfl):gc X (.builtin "len") (RX K):=by subst hK;exact gB
theorem Ji{tg l:Expr}{tl:TE}(hl:PE X l tl)(hK:X.K=K:=by rfl):PI X tg l (HM K tl):=by subst hK;exact fD hl
def RY(K:aC):List V→Hp→VK→Prop:=fun xs H Q=>∃p ys,xs=[.ref p]∧(bZ K H p ys∨dN K H p ys)∧∀l,H l=none→Q (.ref l) (upd H l (.lst ys))
theorem Jj(hK:X.K=K:=by rfl):gc X (.type "list") (RY K):=by subst hK;exact Dt
end
end L2
namespace My
open PySem L2
variable {te:TE} {σ:St} {H:Hp}
theorem DX{r:List V→Hp→VK→Prop}{Q:VK}(h:te σ H fun x H1=>r [x] H1 Q):zP r (iX te gg) σ H Q:=h
variable {D:Ends}
theorem iI(h:te σ H D.rt):HH te D σ H:=h
variable {q:Int}
theorem RZ{b c:Int}(hq:aZ q)(h1:¬q∣b)(h2:¬q∣c):¬q∣b*c:=fun h=>by
 rcases hq with rfl | ⟨q2,q3,q4⟩
 ·have z:=jc.mp h
  rcases oV.mp z with z | z;·exact h1 (by rw [z];exact jb 0)
  ·exact h2 (by rw [z];exact jb 0)
 ·have k1:=gY c (show q≠0 by lia)
  have k2:=h_ c (show 0<q by lia)
  have k3:c % q≠0:=fun z=>h2 (CS z);have g:=DQ q2 q3 q4 (show 1≤c % q by lia) k2
  obtain ⟨w,ew⟩:=RC c q;exact h1 (RB q2 (RA g ⟨-w,by rw [lC];lia⟩) h)
theorem R3{c:TT}{t u:TS}(h:c σ H fun b H1=>if b=true then t D σ H1 else u D σ H1):HI c t u D σ H:=h
theorem R4{Q:Bool→Hp→Prop}(h:te σ H fun x H1=>∃c,x=.bl c∧Q c H1):tB te σ H Q:=h
theorem Jk{vs:List V}{b:Bool}(h:∀(i:Nat) (v:V),vs[i]?=some v→v=.bl b):vs=(List.replicate vs.length b).map V.bl:=by
 refine List.ext_getElem? fun i=>?_;rw [cx];by_cases hi:i<vs.length
 ·rw [show vs[i]?=some vs[i] by simp [hi],h i vs[i] (by simp [hi])]
  simp [hi]
 ·rw [List.getElem?_eq_none (by lia),List.getElem?_eq_none (by simp;lia)]
  rfl
theorem R5(n:Nat):(List.replicate n false).any id=false:=by simp
theorem R6(n:Nat):(List.replicate n true).all id=true:=by simp
variable {H':Hp}
theorem none_of{b:Addr}(s:af H H')(h:H' b=none):H b=none:=by
 cases e:H b with
 | none=>rfl
 | some o=>rw [s _ _ e] at h;cases h
def o1:Int×Int:=(0,1)
theorem getD_at{α:Type}{xs:List α}{d:α}{i:Nat}(hi:i<xs.length):xs.getD i d=xs[i]:=by
 rw [gX,show xs[i]?=some xs[i] by simp [hi]]
 rfl
def a7:Nat→(Nat→Int)→Int
 | 0,_=>0
 | n+1,f=>f 0+a7 n fun i=>f (i+1)
theorem gE:∀{n:Nat} {f g:Nat→Int},(∀i,i<n→f i=g i)→a7 n f=a7 n g
 | 0,f,g,_=>rfl
 | n+1,f,g,h=>by unfold a7;rw [h 0 (by lia),gE fun i hi=>h (i+1) (by lia)]
theorem pV:∀(n:Nat) (f g:Nat→Int),a7 n (fun i=>f i+g i)=a7 n f+a7 n g
 | 0,f,g=>rfl
 | n+1,f,g=>by show f 0+g 0+a7 n (fun i=>f (i+1)+g (i+1))=(f 0+a7 n fun i=>f (i+1))+(g 0+a7 n fun i=>g (i+1));rw [pV n];lia
theorem jw(c:Int):∀(n:Nat) (f:Nat→Int),c*a7 n f=a7 n fun i=>c*f i
 | 0,f=>by unfold a7;rw [fc]
 | n+1,f=>by unfold a7;rw [Int.mul_add,jw c n]
theorem xP:∀(n:Nat),a7 n (fun _=>0)=0
 | 0=>rfl
 | n+1=>by unfold a7;rw [xP n];rfl
variable {B:Nat} {v:V}
theorem Ag(hB:1≤B){a:Int}(h:xN H q v a 1)(hq:aZ q)(ha:a=0∨a=1):bj B H q v a 1:=by
 rcases h with ⟨rfl,r,rfl,e⟩ | ⟨q2,r,rfl,r0,r1,er⟩
 ·rw [(Ja a).1,(Ja a).2] at e
  exact .bU e ⟨by decide,Int.gcd_one_right ..⟩ (by rcases ha with rfl | rfl <;> simp [hB]) (by simpa using hB)
 ·have q3:q≤997:=by rcases hq with z | ⟨_,z,_⟩ <;> lia
  rw [oS (show (0:Int)≤1 by decide) (show (1:Int)<q by lia),fW,oS r0 r1] at er
  have ea:a % q=a:=oS (by lia) (by lia)
  rw [ea] at er;subst er;exact .rem r0 r1 q3
theorem DY(hq:aZ q):¬oo q 1:=fun h=>by
 unfold oo at h;rcases hq with rfl | ⟨q2,q3,q4⟩;·rw [ak rfl] at h;lia
 ·rw [aj (by lia),oS (by lia) (by lia)] at h;lia
def lS(B:Nat)(H:Hp)(q:Int)(a:Addr)(ps:bS):Prop:=∃vs:List V,H a=some (.lst vs)∧vs.length=ps.length∧∀(i:Nat) (v:V) (p:Int×Int),vs[i]?=some v→ps[i]?=some p→bj B H q v p.1 p.2
theorem lS.mono{a:Addr}{ps:bS}(h:lS B H q a ps)(s:af H H'):lS B H' q a ps:=by obtain ⟨vs,e,l,k⟩:=h;exact ⟨vs,s _ _ e,l,fun i v p h1 h2=>(k i v p h1 h2).mono s⟩
theorem Jl{K:aC}{B':Nat}{u:V}{x m:Int}{R:VK}(hv:bj B H q v x m)(hu:bj B' H q u 0 1)(k:R (.bl (decide (x=0))) H):I0 K v u H R:=by
 cases hv with
 | bU e l bx bm=>
  cases hu with
  | bU e' l' _ _=>
   refine .inr (.inr (.inl ⟨_,_,_,_,rfl,rfl,.of e,.of e',rfl,rfl,?_⟩));have z:(iC [V.int x,V.int m] [V.int 0,V.int 1])=decide (x=0):=by
    show ((x == 0) && ((m == 1) && true))=_;by_cases hx:x=0
    ·subst hx
     have:=l.gD;rw [Int.gcd_zero_left] at this;have:=l.pos;have:m=1:=by lia
     subst this;rfl
    ·rw [cJ hx,show (x == 0)=false from km.mpr hx]
     rfl
   show R (.bl (iC [V.int x,V.int m] [V.int 0,V.int 1])) H;rw [z];exact k
  | rem h0 h1 h2=>lia
 | rem h0 h1 h2=>
  cases hu with
  | bU=>lia
  | rem h0' tF pO=>
   refine .inr (.inr (.inr ⟨by simp [Dh],?_⟩))
   rw [jU];exact k
end My
namespace L2
open PySem PySem.Spec PyProof.Rows
end L2
namespace My
open PySem L2
def lU(q:Int):Td:=if q=0 then .a "fractions" else .b "wheel" q
theorem R7{q:Int}(hq:aZ q):(lU q).good=true:=by
 unfold lU;rcases hq with rfl | ⟨h1,h2,h3⟩;·rw [ak rfl];simp [Td.good,Td.xE]
 ·rw [aj (by lia)];simp [Td.good,Td.xE,Td.jS,h1,h2,h3]
def Jm(H:Hp)(td:Addr)(q:Int):Prop:=H td=some (.tup (lU q).vs)
end My
namespace L2
open PySem PySem.Spec PyProof.Rows
end L2
namespace My
open PySem L2
theorem Jn{a d t b:Int}(l:cp a d)(hb:1≤b)(e:a*b=t*d):a=lQ t b∧d=lR t b:=by
 have z:=Rx (a:=t) (show b≠0 by lia)
 have hd:=l.pos;have hd2:=z.1.pos;refine RD l z.1 ?_;refine Jb (c:=b) (by lia) ?_
 have z2:=z.2.1;grind
end My
namespace L2
open PySem PySem.Spec PyProof.Rows
def xQ(K:aC)(l:Addr):It:=
  ⟨fun i H=>∃xs x,bZ K H l xs∧xs[i]?=some x,
   fun i H v H'=>∃T x,H T=none∧v=.ref T∧H'=upd H T (.tup [.int (i:Int),x])∧∀xs,bZ K H l xs→xs[i]?=some x,
   fun i H=>∃xs,bZ K H l xs∧xs.length≤i⟩
variable {K:aC} {l:Addr}
theorem R8{P:Program}{w:World}{elts:List Expr}{k:Nat}{pos:Pos}{e it:Addr}(Jo:e≠it):Turn P w K (.Tuple elts k pos) (xQ K l) [e,it] e
  (fun i h=>(∃old,IsEnum h e it (i:Int) old)∧h.IsListIter it l i) where
 mem:=by simp
 obj:=fun i h st b hb=>by
  obtain ⟨⟨old,he⟩,h1⟩:=st;simp only [c_,oU,or_false] at hb;rcases hb with rfl | rfl;·exact ⟨_,he,fun v z=>by cases z⟩
  ·obtain ⟨o,e,c,d⟩:=h1
   exact ⟨o,e,fun v z=>by rw [d] at z;cases z⟩
 keep:=fun i h h' st k=>by obtain ⟨⟨old,he⟩,h1⟩:=st;exact ⟨⟨old,k _ (by simp) _ he⟩,h1.at fun o e=>k _ (by simp) o e⟩
 item:=by
  intro X hP hw hK hc i pins s σ H E I hf st hg;subst hP hw hK;obtain ⟨⟨old,he⟩,h1⟩:=st;obtain ⟨xs,x,tG,hx⟩:=hg;obtain ⟨ai,rv,p,_⟩:=I.list tG;obtain ⟨u,hu,ru⟩:=rv.get hx;refine wpAny_pyNext_enum_item he h1 p.isList (x:=u) (by simpa using hu) Jo fun h' g1 g2 g3 g4 g5=>⟨_,rfl,?_⟩
  refine wpAny_letOwnedTupleGo_enum g1 fun Ah q1 sb=>?_;have Jp:H s.heap.objs.size=none:=I.aD.fresh (aG _);have lt:∀b o,s.heap.get? b=some o→b≠s.heap.objs.size:=fun b o e=>dC (bP e);have keep:∀b o,b∉[e,it]→s.heap.get? b=some o→Ah.get? b=some o:=fun b o nb e=>by simp only [c_,oU,or_false,not_or] at nb;exact sb.extBut _ _ nb.1 (g5 b o nb.1 nb.2 e)
  have elt:e≠s.heap.objs.size:=lt _ _ he;have pT:=sb.extBut _ _ elt.symm g3;have xR:∀{b:Addr} {o:HO} (e:H b=some o),upd H s.heap.objs.size (.tup [.int (i:Int),x]) b=some o:=fun e=>by rw [aK (je e Jp)];exact e
  have aD:cL X.prog X.w (upd H s.heap.objs.size (.tup [.int (i:Int),x])) Ah:=fun b o e=>by
   by_cases hb:b=s.heap.objs.size
   ·subst hb
    rw [aA] at e;cases e;exact ⟨by show 2≤sizeLine;decide,[.int i s.toks,u],.cons ⟨_,rfl⟩ (.cons ru .nil),⟨_,pT,rfl,_,rfl⟩⟩
   ·rw [aK hb] at e
    refine (I.aD b o e).kG (fun c v d9 q=>keep c v (fun m=>?_) q) (fun c q=>xR q) fun c xs q=>xR q;have nn:=(hf c m).1;rcases d9 with rfl | d9;·rw [nn] at e;cases e
    ·rw [nn] at d9;cases d9
  have u1:Un (cV X.stack) [e,it] H (upd H s.heap.objs.size (.tup [.int (i:Int),x])) s.heap Ah:=
   ⟨fun b o e n _ hx=>keep b o hx e,fun b o e n _ hx=>⟨o.slots,keep b o hx e⟩,fun b o e n hx=>by rw [aK (lt b o e)];exact n,fun b o e hx=>⟨o,keep b o hx e⟩,fun b xs e=>xR e,fun b o u e=>xR e,fun b ps e=>⟨#[],by rw [xR e];simp⟩⟩
  refine ⟨.ref s.heap.objs.size,upd H s.heap.objs.size (.tup [.int (i:Int),x]),I.pj (s':={s with heap:=Ah,toks:=s.toks+1}) (ch:=[e,it]) rfl u1 aD I.bare (fun b hb=>?_),rfl,⟨_,x,Jp,rfl,rfl,fun as ha=>by rw [I.C7 ha tG];exact hx⟩,?_,fun b hb=>?_⟩
  ·obtain ⟨f0,f1,f2,f3,f4,f5⟩:=hf b hb
   exact ⟨f3,f1,f4,f5⟩
  ·refine ⟨⟨u,?_⟩,g2.extBut sb.extBut Jo.symm⟩
   have z:((i+1:Nat):Int)=(i:Int)+1:=by lia
   rw [z];exact q1
  ·have nb:b≠s.heap.objs.size:=by
    simp only [c_,oU,or_false] at hb;rcases hb with rfl | rfl;·exact lt _ _ he
    ·obtain ⟨o,e,_⟩:=h1;exact lt _ _ e
   rw [aK nb];exact (hf b hb).1
 done:=by
  intro X hP hw hK hc i pins s σ H E I hf st hg;subst hP hw hK;obtain ⟨⟨old,he⟩,h1⟩:=st;obtain ⟨xs,tG,hx⟩:=hg;obtain ⟨ai,rv,p,_⟩:=I.list tG;have hl:=rv.length;refine wpAny_pyNext_enum_end (I.ok.hd hc) he h1 p.isList (by simp;lia) fun h' g=>⟨rfl,?_⟩
  have keep:∀b o,b∉[e,it]→s.heap.get? b=some o→h'.get? b=some o:=fun b o nb e=>by simp only [c_,oU,or_false,not_or] at nb;exact g b o nb.2 e
  have aD:cL X.prog X.w H h':=fun b o e=>by
   refine (I.aD b o e).kG (fun c v d9 q=>keep c v (fun m=>?_) q) (fun c q=>q) fun c xs q=>q;have nn:=(hf c m).1;rcases d9 with rfl | d9;·rw [nn] at e;cases e
   ·rw [nn] at d9;cases d9
  have u1:Un (cV X.stack) [e,it] H H s.heap h':=
   ⟨fun b o e n _ hx=>keep b o hx e,fun b o e n _ hx=>⟨o.slots,keep b o hx e⟩,fun b o e n hx=>n,fun b o e hx=>⟨o,keep b o hx e⟩,fun b xs e=>e,fun b o u e=>e,fun b ps e=>⟨#[],by rw [e];simp⟩⟩
  refine I.pj (s':={s with heap:=h'}) (ch:=[e,it]) rfl u1 aD I.bare fun b hb=>?_;obtain ⟨f0,f1,f2,f3,f4,f5⟩:=hf b hb;exact ⟨f3,f1,f4,f5⟩
 self:=fun _ _ _ _ _ st h=>by obtain ⟨⟨old,he⟩,_⟩:=st;exact wpAny_pyIter_enum he h
theorem boot_enumerate:bootBuiltins "enumerate"=some (.type "enumerate"):=by decide +kernel
def R9(K:aC)(ta:TA):TI:=fun σ H R=>ta σ H fun vs H1=>∃l,vs=[.ref l]∧(∃xs,bZ K H1 l xs)∧R (xQ K l) H1
section
variable {X:Cx}
theorem Jq{elts:List Expr}{k:Nat}{zN:Pos}{a:Expr}{ta:TA}{p pos:Pos}(hg:Gl X "enumerate")(hm:X.mg "enumerate"=none)(ha:PA X [a] ta)(hs:starEach [a] X.env=[(false,eval a X.env)]:=by rfl) :
  PI X (.Tuple elts k zN) (.Call (.Name "enumerate" p) [a] [] pos) (R9 X.K ta):=by
 intro pins s σ H R I h;refine Call_ (nN I hg hm boot_enumerate (rZ (aR (ha pos pins s σ H _ I h) fun us s1 ⟨vs,H1,I1,r1,q1⟩=>?_) hs rfl));obtain ⟨l,e,⟨xs,tG⟩,q⟩:=q1;subst e;obtain ⟨u,rfl,ru⟩:=vals1 r1;cases ru;obtain ⟨ai,rv,p1,_⟩:=I1.list tG;refine call_enumerate_list p1.isList fun h' z1 z2 z3 z4=>?_;refine wpAny_pyIter_enum (s:={s1 with heap:=h'}) z1 ?_;refine ⟨_,_,_,_,H1,rfl,I1.kept (t':=s1.toks) z4,R8 (Nat.succ_ne_self _),⟨⟨_,z1⟩,z2⟩,fun b hb=>?_,q⟩;have le:s1.heap.objs.size≤b:=by
  simp only [c_,oU,or_false] at hb;rcases hb with rfl | rfl;·exact Nat.le_add_right ..
  ·exact aG _
 exact I1.pB le (I1.aD.fresh le)
end
theorem Jr{xs:List V}{g:TG}{tb:TS}{D:Ends}{σ:St}{H:Hp}(Pv:Nat→St→Hp→Prop)(h0:Pv 0 σ H)(hl:∀i σ H,Pv i σ H→bZ K H l xs)
  (hs:∀(i:Nat) (x:V) σ H T,xs[i]?=some x→Pv i σ H→H T=none→g (.ref T) σ (upd H T (.tup [.int (i:Int),x])) fun σ2 H2=>tb {D with nx:=Pv (i+1),ct:=Pv (i+1),bk:=D.nx} σ2 H2) (hd:∀σ H,Pv xs.length σ H→D.nx σ H) :
  ∃W:Nat→Nat→St→Hp→Prop,(∃m,W 0 m σ H)∧∀i m σ H,W i m σ H→
   ((xQ K l).stop i H∧D.nx σ H)∨((xQ K l).go i H∧∃N:St→Hp→Prop,(∀σ' H',N σ' H'→∃m',m'<m∧W (i+1) m' σ' H')∧∀x H',(xQ K l).f_ i H x H'→g x σ H' fun σ2 H2=>tb {D with nx:=N,ct:=N,bk:=D.nx} σ2 H2):=by
 refine ⟨fun i m σ H=>m=xs.length-i∧i≤xs.length∧Pv i σ H,⟨xs.length,by simp,b_ _,h0⟩,?_⟩
 rintro i m σ H ⟨rfl,hi,p⟩;have q1:=hl i σ H p;by_cases bV:i<xs.length
 ·refine .inr ⟨⟨xs,xs[i],q1,by simp [bV]⟩,Pv (i+1),fun σ' H' p'=>⟨xs.length-(i+1),by lia,rfl,bV,p'⟩,fun v H' hy=>?_⟩
  obtain ⟨T,x,nT,rfl,rfl,hx⟩:=hy;exact hs i x σ H T (hx xs q1) p nT
 ·have e:i=xs.length:=by lia
  subst e;exact .inl ⟨⟨xs,q1,aG _⟩,hd σ H p⟩
end L2
namespace My
open PySem L2
theorem tH:∀(n:Nat) (f:Nat→Int),a7 (n+1) f=a7 n f+f n
 | 0,f=>by show f 0+0=0+f 0;lia
 | n+1,f=>by show f 0+a7 (n+1) (fun i=>f (i+1))=(f 0+a7 n fun i=>f (i+1))+f (n+1);rw [tH n];lia
end My
namespace L2
open PySem PySem.Spec PyProof.Rows
section
variable {X:Cx} {tg:Expr}
end
end L2
namespace My
open PySem L2
def Cg(q a b:Int):Prop:=q∣a-b
variable {q:Int}
theorem Cg.refl(a:Int):Cg q a a:=⟨0,by lia⟩
variable {a b:Int}
theorem Cg.of_eq(h:a=b):Cg q a b:=h▸Cg.refl a
theorem Cg.symm(h:Cg q a b):Cg q b a:=by obtain ⟨k,e⟩:=h;exact ⟨-k,by rw [lC];lia⟩
variable {c:Int}
theorem Cg.trans(h1:Cg q a b)(h2:Cg q b c):Cg q a c:=by obtain ⟨k,e⟩:=h1;obtain ⟨l,e'⟩:=h2;exact ⟨k+l,by rw [Int.mul_add];lia⟩
theorem Cg.sub{d:Int}(h1:Cg q a b)(h2:Cg q c d):Cg q (a-c) (b-d):=by obtain ⟨k,e⟩:=h1;obtain ⟨l,e'⟩:=h2;exact ⟨k-l,by rw [Int.mul_sub];lia⟩
theorem Cg.mulL(c:Int)(h:Cg q a b):Cg q (c*a) (c*b):=by obtain ⟨k,e⟩:=h;exact ⟨c*k,by rw [←Int.mul_sub,e];grind⟩
theorem Cg.mulR(c:Int)(h:Cg q a b):Cg q (a*c) (b*c):=by rw [dM a,dM b];exact h.mulL c
theorem DZ(q a:Int):Cg q (a % q) a:=⟨-(a / q),by have:=zh a q;rw [lC];lia⟩
def bO(j:Nat)(v:aQ):Nat→Nat→Int:=fun i=>if i<j then v i else v (i+1)
def sgn(j:Nat):Int:=if j % 2=0 then 1 else -1
theorem D4(j:Nat):sgn (j+1)=-sgn j:=by
 unfold sgn;by_cases h:j % 2=0;·rw [ak h,aj (by lia)]
 ·rw [aj h,ak (by lia)];rfl
def aH:List Nat→(Nat→Nat→Int)→Int
 | [],_=>1
 | c::cs,v=>a7 (cs.length+1) fun j=>sgn j*v j c*aH cs (bO j v)
theorem xS(c:Nat)(cs:List Nat)(v:aQ):aH (c::cs) v=a7 (cs.length+1) fun j=>sgn j*v j c*aH cs (bO j v):=rfl
theorem R_{l j:Nat}(h:l≤j)(v:aQ):bO l (bO (j+1) v)=bO j (bO l v):=by
 funext i
 unfold bO;by_cases h1:i<l;·rw [ak h1,ak (by lia),ak (by lia),ak h1]
 ·rw [aj h1]
  by_cases h2:i<j;·rw [ak h2,aj h1,ak (by lia)]
  ·rw [aj h2,aj (by lia),aj (by lia)]
theorem Js(n:Nat)(f:Nat→Int):a7 n (fun i=>-f i)=-a7 n f:=by
 have:=jw (-1) n f;rw [show (fun i=>-f i)=fun i=>-1*f i from funext fun i=>by lia,←this]
 lia
theorem Sa(n:Nat)(F:aQ):(a7 (n+1) fun j=>a7 n fun l=>F j l)=(a7 n fun j=>a7 (j+1) fun l=>F (j+1) l)+a7 n fun l=>a7 (l+1) fun j=>F j l:=by
 induction n with
 | zero=>rfl
 | succ n ih=>
  rw [tH (n+1) fun j=>a7 (n+1) fun l=>F j l];have e1:(a7 (n+1) fun j=>a7 (n+1) fun l=>F j l)=(a7 (n+1) fun j=>a7 n fun l=>F j l)+a7 (n+1) fun j=>F j n:=by rw [←pV];exact gE fun j _=>tH n _
  rw [e1,ih,tH n fun j=>a7 (j+1) fun l=>F (j+1) l,tH n fun l=>a7 (l+1) fun j=>F j l];lia
theorem Jt(a b:Nat)(cs:List Nat)(v:aQ):aH (a::b::cs) v=-aH (b::a::cs) v:=by
 have ex:∀x y:Nat,aH (x::y::cs) v=(a7 (cs.length+1) fun j=>a7 (j+1) fun l=>sgn (j+1)*sgn l*(v (j+1) x*v l y)*aH cs (bO j (bO l v)))-a7 (cs.length+1) fun j=>a7 (j+1) fun l=>sgn (j+1)*sgn l*(v l x*v (j+1) y)*aH cs (bO j (bO l v)):=fun x y=>by
  have e0:aH (x::y::cs) v=a7 (cs.length+2) fun j=>a7 (cs.length+1) fun l=>sgn j*v j x*(sgn l*bO j v l y*aH cs (bO l (bO j v))):=by rw [xS,fY];refine gE fun j _=>?_;rw [xS,jw]
  rw [e0,Sa (cs.length+1)];rw [Int.sub_eq_add_neg,←Js]
  congr 1
  ·refine gE fun j _=>gE fun l hl=>?_
   rw [R_ (by lia),show bO (j+1) v l y=v l y by unfold bO;rw [ak (by lia)]]
   grind
  ·refine gE fun l _=>?_
   rw [←Js];refine gE fun j hj=>?_;rw [show bO j v l y=v (l+1) y by unfold bO;rw [aj (by lia)],D4]
   grind
 rw [ex a b,ex b a];have f:∀x y:Nat,(a7 (cs.length+1) fun j=>a7 (j+1) fun l=>sgn (j+1)*sgn l*(v l x*v (j+1) y)*aH cs (bO j (bO l v)))=a7 (cs.length+1) fun j=>a7 (j+1) fun l=>sgn (j+1)*sgn l*(v (j+1) y*v l x)*aH cs (bO j (bO l v)):=fun x y=>gE fun j _=>gE fun l _=>by rw [dM (v l x)]
 rw [f a b,f b a];lia
theorem tI(c:Nat):∀(cs:List Nat) (v:aQ),c∈cs→aH (c::cs) v=0
 | b::cs,v,h=>by
  by_cases e:c=b
  ·subst e
   have:=Jt c c cs v;lia
  ·have h':c∈cs:=by
    rcases c_.mp h with z | z;·exact absurd z e
    ·exact z
   rw [Jt,xS];rw [show (fun j=>sgn j*v j b*aH (c::cs) (bO j v))=fun _=>0 from funext fun j=>by rw [tI c cs _ h',fc],xP]
   rfl
def aU(e:Nat→Int)(R:aQ):Nat→Nat→Int
 | 0=>e
 | i+1=>R i
theorem Ju(e:Nat→Int)(R:aQ):bO 0 (aU e R)=R:=by
 funext i
 unfold bO;rw [aj (by lia)]
 rfl
theorem Jv(i:Nat)(e:Nat→Int)(R:aQ):bO (i+1) (aU e R)=aU e (bO i R):=by
 funext j
 unfold bO;cases j with
 | zero=>rw [ak (by lia)];rfl
 | succ j=>
  by_cases h:j<i
  ·rw [ak (by lia)]
   show R j=if j<i then R j else R (j+1)
   rw [ak h]
  ·rw [aj (by lia)]
   show R (j+1)=if j<i then R j else R (j+1)
   rw [aj h]
theorem jx(k:Nat)(C:List Nat)(e:Nat→Int)(R:aQ):aH (k::C) (aU e R)=aH C R*e k+a7 C.length fun i=>R i k*(-(sgn i)*aH C (aU e (bO i R))):=by
 rw [xS,a7];have e0:sgn 0*aU e R 0 k*aH C (bO 0 (aU e R))=aH C R*e k:=by rw [Ju];show 1*e k*aH C R=_;rw [nF,dM]
 rw [e0]
 congr 1
 refine gE fun i _=>?_;rw [Jv,D4];show -sgn i*R i k*_=_;grind
def tJ(C:List Nat)(R:aQ):Prop:=∀x:Nat→Int,(∀c∈C,(a7 C.length fun i=>R i c*x i)=0)→∀k,(a7 C.length fun i=>R i k*x i)=0
theorem Sb(R:aQ):tJ [] R:=fun _ _ _=>rfl
variable {C:List Nat} {R:aQ}
theorem Sd{h:Nat→Int}{c:Nat}(sp:tJ C R)(d0:aH C R≠0)(p0:aH (c::C) (aU h R)≠0):tJ (c::C) (aU h R):=by
 intro x hx k;have ex:∀k,(a7 (c::C).length fun i=>aU h R i k*x i)=h k*x 0+a7 C.length fun i=>R i k*x (i+1):=fun k=>rfl;have hz:∀k,aH C R*(h k*x 0+a7 C.length fun i=>R i k*x (i+1))-x 0*aH (k::C) (aU h R)=a7 C.length fun i=>R i k*(aH C R*x (i+1)-x 0*(-(sgn i)*aH C (aU h (bO i R)))):=fun k=>by
  rw [jx,show (fun i=>R i k*(aH C R*x (i+1)-x 0*(-(sgn i)*aH C (aU h (bO i R)))))=fun i=>aH C R*(R i k*x (i+1)) + -(x 0)*(R i k*(-(sgn i)*aH C (aU h (bO i R)))) from funext fun i=>by grind,pV,←jw,←jw]
  grind
 have z:=sp _ fun c' d9=>by rw [←hz c',←ex c',hx c' (fA _ d9),tI c' C _ d9];simp
 have z1:∀k,aH C R*(h k*x 0+a7 C.length fun i=>R i k*x (i+1))=x 0*aH (k::C) (aU h R):=fun k=>by have:=hz k;rw [z k] at this;omega
 have x0:x 0=0:=by
  have e:=z1 c;rw [←ex c,hx c hZ,fc] at e;rcases oV.mp e.symm with h | h;·exact h
  ·exact absurd h p0
 have e:=z1 k;rw [x0,eY] at e;rw [ex k,x0];rcases oV.mp e with h | h;·exact absurd h d0
 ·exact h
theorem Se(sp:tJ C R)(e h:Nat→Int)(c k:Nat) :
  aH C R*aH (k::c::C) (aU e (aU h R))=aH (c::C) (aU h R)*aH (k::C) (aU e R)-aH (c::C) (aU e R)*aH (k::C) (aU h R):=by
 have two:∀k,aH (k::c::C) (aU e (aU h R))=aH (c::C) (aU h R)*e k-aH (c::C) (aU e R)*h k+a7 C.length fun i=>R i k*(sgn i*aH (c::C) (aU e (aU h (bO i R)))):=fun k=>by
  rw [jx,fY,a7];have e0:aU h R 0 k*(-(sgn 0)*aH (c::C) (aU e (bO 0 (aU h R))))=-(aH (c::C) (aU e R)*h k):=by rw [Ju];show h k*(-1*_)=_;grind
  rw [e0,show (fun i=>aU h R (i+1) k*(-(sgn (i+1))*aH (c::C) (aU e (bO (i+1) (aU h R)))))=fun i=>R i k*(sgn i*aH (c::C) (aU e (aU h (bO i R)))) from funext fun i=>by rw [Jv,D4,Int.neg_neg];rfl]
  lia
 have hz:∀k,aH C R*aH (k::c::C) (aU e (aU h R))-(aH (c::C) (aU h R)*aH (k::C) (aU e R)-aH (c::C) (aU e R)*aH (k::C) (aU h R))=a7 C.length fun i=>R i k*(aH C R*(sgn i*aH (c::C) (aU e (aU h (bO i R))))-aH (c::C) (aU h R)*(-(sgn i)*aH C (aU e (bO i R)))+aH (c::C) (aU e R)*(-(sgn i)*aH C (aU h (bO i R)))):=fun k=>by
  rw [two k,jx k C e R,jx k C h R];rw [show (fun i=>R i k*(aH C R*(sgn i*aH (c::C) (aU e (aU h (bO i R))))-aH (c::C) (aU h R)*(-(sgn i)*aH C (aU e (bO i R)))+aH (c::C) (aU e R)*(-(sgn i)*aH C (aU h (bO i R)))))=fun i=>(aH C R*(R i k*(sgn i*aH (c::C) (aU e (aU h (bO i R))))) + -(aH (c::C) (aU h R))*(R i k*(-(sgn i)*aH C (aU e (bO i R)))))+aH (c::C) (aU e R)*(R i k*(-(sgn i)*aH C (aU h (bO i R)))) from funext fun i=>by grind,pV,pV,←jw,←jw,←jw]
  grind
 have z:=sp _ fun c' d9=>by rw [←hz c',tI c' (c::C) _ (fA _ d9),tI c' C _ d9,tI c' C _ d9];simp
 have:=hz k;rw [z k] at this;omega
def lV(C:List Nat)(R:aQ)(f:Nat→Int):Nat→Int:=fun k=>aH (k::C) (aU f R)
theorem Sf(R:aQ)(f:Nat→Int)(k:Nat):lV [] R f k=f k:=by show aH [k] (aU f R)=f k;rw [jx];show 1*f k+0=f k;lia
theorem Sg(R:aQ)(f:Nat→Int){c:Nat}(h:c∈C):lV C R f c=0:=tI c C _ h
theorem Jw{e:Nat→Int}:∀{C:List Nat} (S:aQ),C≠[]→(∀x∈C,e x=0)→aH C (aU e S)=0
 | x::C,S,_,h=>by
  rw [jx,h x hZ,fc,iS];cases C with
  | nil=>rfl
  | cons y C=>rw [show (fun i=>S i x*(-(sgn i)*aH (y::C) (aU e (bO i S))))=fun _=>0 from funext fun i=>by rw [Jw (bO i S) (by simp) fun z hz=>h z (fA _ hz)];simp,xP]
theorem Sh(sp:tJ C R)(f h:Nat→Int)(c k:Nat):lV C R h c*lV C R f k-lV C R f c*lV C R h k=aH C R*lV (c::C) (aU h R) f k:=(Se sp f h c k).symm
def hU:Nat→Nat
 | 0=>1
 | n+1=>(n+1)*hU n
theorem Jx{M:Nat}:∀(n:Nat) (f:Nat→Int),(∀i,i<n→(f i).natAbs≤M)→(a7 n f).natAbs≤n*M
 | 0,_,_=>by show (0:Int).natAbs≤_;simp
 | n+1,f,h=>by rw [tH,Nat.succ_mul];exact bE (Int.natAbs_add_le ..) (Nat.add_le_add (Jx n f fun i hi=>h i (by lia)) (h n (by lia)))
theorem Ai{B:Nat}:∀(C:List Nat) (v:aQ),(∀i c,(v i c).natAbs≤B)→(aH C v).natAbs≤hU C.length*B ^ C.length
 | [],_,_=>by show (1:Int).natAbs≤1*B ^ 0;simp
 | c::C,v,h=>by
  rw [xS];refine bE (Jx (M:=B*(hU C.length*B ^ C.length)) _ _ fun j _=>?_) (Nat.le_of_eq ?_)
  ·rw [gv,gv]
   have s1:(sgn j).natAbs=1:=by unfold sgn;split <;> rfl
   rw [s1,Nat.one_mul];refine gZ (h j c) (Ai C _ fun i c'=>?_);unfold bO
   split
   ·exact h _ _
   ·exact h _ _
  ·rw [fY,hU,Nat.pow_succ]
   rw [Nat.mul_assoc,Nat.mul_left_comm B,Nat.mul_comm B]
theorem xT(hq:aZ q):¬q∣1:=fun h=>by
 rcases hq with rfl | ⟨h2,_⟩
 ·have:=jc.mp h
  lia
 ·have:=Int.le_of_dvd (by decide) h
  lia
theorem xU{u x:Int}(hq:aZ q)(nu:¬q∣u)(h:Cg q (u*x) 0):Cg q x 0:=by unfold Cg at h ⊢;rw [kB] at h ⊢;exact wV fun nx=>RZ hq nu nx h
end My
namespace L2
open PySem PySem.Spec PyProof.Rows
theorem Si{xs ys:List Int}(h:xs.length=ys.length):((List.range xs.length).all fun j=>mK (.int (xs.getD j 0)) (.int (ys.getD j 0)))=decide (xs=ys):=by
 by_cases e:xs=ys
 ·subst e
  rw [da rfl,r9];intro j _;exact DV rfl
 ·rw [cJ e]
  cases z:((List.range xs.length).all fun j=>mK (.int (xs.getD j 0)) (.int (ys.getD j 0))) with
  | false=>rfl
  | true=>refine absurd (fB h fun j h1 h2=>?_) e;have:=r9.mp z j (cA.mpr h1);have this:(xs.getD j 0 == ys.getD j 0)=true:=this;rw [lq,gX,gX] at this;simpa [h1,h2] using this
end L2
namespace My
open PySem L2
def kZ(B:Nat)(H:Hp)(q:Int)(a:Addr)(au:g7):Prop:=∃vs:List V,H a=some (.lst vs)∧vs.length=au.length∧∀(i:Nat) (v:V) (ps:bS),vs[i]?=some v→au[i]?=some ps→∃r:Addr,v=.ref r∧lS B H q r ps
theorem kZ.mono{B:Nat}{H H':Hp}{q:Int}{a:Addr}{au:g7}(h:kZ B H q a au)(s:af H H'):kZ B H' q a au:=by obtain ⟨vs,e,l,k⟩:=h;exact ⟨vs,s _ _ e,l,fun i v ps h1 h2=>by obtain ⟨r,e1,e2⟩:=k i v ps h1 h2;exact ⟨r,e1,e2.mono s⟩⟩
def Sj(N:Addr):Sp:=fun vs H Q E=>∃(a:Addr) (q:Int) (B:Nat) (au:g7) (m:Nat),vs=[.ref a]∧kZ B H q a au∧1≤au.length∧au.length≤40∧(∀ps∈au,ps.length=m)∧∀H',af H H'→Q (.int (m:Int)) H'
def Sk(N:Addr):Sp:=fun vs H Q E=>∃(a:Addr) (q:Int) (B:Nat) (au:g7) (m:Nat),vs=[.ref a]∧kZ B H q a au∧1≤au.length∧au.length≤40∧(∀ps∈au,ps.length=m)∧(m≠au.length→∀H',af H H'→E (.ref N) none H')∧(m=au.length→∀H',af H H'→Q (.int (m:Int)) H')
def atT(au:g7)(i j:Nat):Int×Int:=(au.getD i []).getD j o1
end My
namespace L2
open PySem PySem.Spec PyProof.Rows
end L2
namespace My
open PySem L2
theorem Sl{x m a b:Int}(l:cp x m)(e:x*b=a*m):m∣b:=by
 have h:m∣x*b:=⟨a,by rw [e,dM]⟩
 have g:Int.gcd m x=1:=by rw [Int.gcd_comm];exact l.gD
 have h2:m.natAbs∣x.natAbs*b.natAbs:=by rw [←gv];exact Int.natAbs_dvd_natAbs.mpr h
 exact Int.natAbs_dvd_natAbs.mp (Nat.Coprime.dvd_of_dvd_mul_left g h2)
end My
namespace L2
open PySem PySem.Spec PyProof.Rows
section
variable {X:Cx}
end
end L2
namespace My
open PySem L2
end My
namespace L2
open PySem PySem.Spec PyProof.Rows
end L2
namespace My
open PySem L2
theorem pW{wi:TI}{ρ:St→St}{te:TE}{σ:St}{H:Hp}{Q:VK}{xs:List V}{n:Nat}(hl:xs.length=n)(kY:∀R:It→Hp→Prop,(∀J H1,af H H1→mQ J xs H1→R J H1)→wi σ H R)(hn:n<sizeLine)
  (P:Addr→Nat→Addr→Hp→Prop) (mono:∀D i y H H' ys,P D i y H→y≠D→H D=some (.lst ys)→(∀b o,b≠D→H b=some o→H' b=some o)→P D i y H')
  (step:∀D (i:Nat) (x:V),xs[i]?=some x→∀(Hc:Hp) (R:VK),af H Hc→(∃ys,Hc D=some (.lst ys))→(∀y H3,af Hc H3→Hc y=none→(∃o,H3 y=some o)→P D i y H3→R (.ref y) H3)→te (some x::ρ σ) Hc R)
  (fin:∀D (A:Nat→Addr) Hc,H D=none→af H Hc→(∀i j,i<n→j<n→A i=A j→i=j)→(∀i,i<n→P D i (A i) Hc∧A i≠D)→Hc D=some (.lst ((List.range n).map fun i=>V.ref (A i)))→Q (.ref D) Hc):iD wi ρ (fun _ H Q=>Q true H) te σ H Q:=by
 refine kY _ fun J H1 s1 js=>?_;intro D nD;have hD:H D=none:=by
  cases e:H D with
  | none=>rfl
  | some o=>rw [s1 _ _ e] at nD;cases nD
 refine ⟨fun i m ys Hc=>m=n-i∧i≤n∧Hc D=some (.lst ys)∧af H1 Hc∧∃A:Nat→Addr,ys=(List.range i).map (fun j=>V.ref (A j))∧(∀a b,a<i→b<i→A a=A b→a=b)∧∀j,j<i→P D j (A j) Hc∧A j≠D∧∃o,Hc (A j)=some o,⟨_,rfl,b_ _,aA,jv (af.refl H1) nD,fun _=>D,rfl,(fun a b h=>by lia),fun j h=>by lia⟩,?_⟩
 rintro i m ys Hc ⟨rfl,hi,eD,sH,A,rfl,inj,hA⟩;refine ⟨eD,?_⟩;by_cases bV:i<n
 ·refine .inr ⟨js.go i Hc sH (by lia),fun x H' hy=>?_⟩
  obtain ⟨rfl,hx⟩:=js.f_ i Hc x H' sH hy;rw [ak rfl];refine step D i x (hx (by lia)) _ _ (s1.trans sH) ⟨_,eD⟩ fun y H3 s3 ny ⟨o,ho⟩ hp=>?_
  have e3:=s3 _ _ eD;have yD:y≠D:=fun e=>by rw [e,eD] at ny;cases ny
  have cf:∀b o,b≠D→H3 b=some o→upd H3 D (.lst ((List.range i).map (fun j=>V.ref (A j))++[.ref y])) b=some o:=fun b o nb e=>by rw [aK nb];exact e
  have nA:∀j,j<i→A j≠y:=fun j hj e=>by obtain ⟨_,_,o',h'⟩:=hA j hj;rw [e,ny] at h';cases h'
  refine ⟨e3,by simp;lia,n-(i+1),by lia,rfl,bV,aA,jv (sH.trans s3) nD,fun j=>if j=i then y else A j,?_,fun a b ha hb e=>?_,fun j hj=>?_⟩
  ·rw [List.range_succ,ie]
   congr 1
   ·refine de fun j hj=>?_
    dsimp only;rw [aj (by have:=cA.mp hj;lia)]
   ·simp
  ·dsimp only at e
   by_cases z1:a=i
   ·by_cases z2:b=i
    ·lia
    ·rw [ak z1,aj z2] at e
     exact absurd e.symm (nA b (by lia))
   ·by_cases z2:b=i
    ·rw [aj z1,ak z2] at e
     exact absurd e (nA a (by lia))
    ·rw [aj z1,aj z2] at e
     exact inj a b (by lia) (by lia) e
  ·dsimp only
   by_cases z:j=i
   ·rw [ak z,z]
    exact ⟨mono D i y H3 _ _ hp yD e3 cf,yD,o,cf _ _ yD ho⟩
   ·rw [aj z]
    obtain ⟨h1,h2,o',h3⟩:=hA j (by lia)
    exact ⟨mono D j (A j) H' _ _ h1 h2 eD (fun b o nb e=>cf b o nb (s3 _ _ e)),h2,o',cf _ _ h2 (s3 _ _ h3)⟩
 ·have e:i=n:=by lia
  subst e;exact .inl ⟨js.stop _ Hc sH (by lia),fin D A Hc hD (s1.trans sH) inj (fun j hj=>⟨(hA j hj).1,(hA j hj).2.1⟩) eD⟩
open PySem PySem.W PyProof.Rows
section
variable {n:Nat} {c:Nat→Int}
end
end My
namespace Tm
open PySem PySem.W PyProof.Rows
section
variable {prog:Program} {w:World} {A:Around} {E:aN} {s:Shared} {κ:SortKind} {key:Keyed→Int} {Ok:Keyed→Prop}
end
section
variable {prog:Program} {w:World} {A:Around} {E:aN} {s:Shared} {κ:SortKind} {key:Keyed→Int} {Ok:Keyed→Prop}
section
end
end
section
variable {key:Keyed→Int}
end
section
variable {prog:Program} {w:World} {A:Around} {E:aN} {s:Shared} {κ:SortKind} {key:Keyed→Int} {Ok:Keyed→Prop}
end
section
variable {prog:Program} {w:World} {A:Around} {E:aN} {s:Shared} {κ:SortKind} {key:Keyed→Int} {Ok:Keyed→Prop}
variable {arr:Array Keyed} {pend:Array (Nat×Nat×Nat)} {g:Nat}
end
section
variable {prog:Program} {w:World} {A:Around} {E:aN} {s:Shared} {κ:SortKind} {key:Keyed→Int} {Ok:Keyed→Prop} {arr:Array Keyed} {pend:Array (Nat×Nat×Nat)} {g:Nat}
end
section
variable {prog:Program} {w:World} {A:Around} {E:aN} {s:Shared} {κ:SortKind} {key:Keyed→Int} {Ok:Keyed→Prop} {arr:Array Keyed} {pend:Array (Nat×Nat×Nat)} {g:Nat}
end
section
variable {prog:Program} {w:World} {A:Around} {E:aN} {s:Shared} {κ:SortKind} {key:Keyed→Int} {Ok:Keyed→Prop} {arr:Array Keyed} {pend:Array (Nat×Nat×Nat)} {g:Nat}
end
section
variable {key:Keyed→Int} {arr aeH:Array Keyed}
end
section
variable {prog:Program} {w:World} {A:Around} {E:aN} {s:Shared} {κ:SortKind} {key:Keyed→Int} {Ok:Keyed→Prop} {arr:Array Keyed} {pend:Array (Nat×Nat×Nat)} {g:Nat}
end
end Tm
namespace My
open PySem PySem.W PyProof.Rows Tm
section
variable {prog:Program} {w:World} {A:Around} {E:aN} {s:Shared}
end
open PySem PySem.W PyProof.Rows
section
variable {prog:Program} {w:World} {A:Around} {E:aN} {s:Shared}
end
end My
namespace L2
open PySem PySem.W PyProof.Rows My
end L2
namespace My
open PySem L2
def Sm(K:aC):R2:=fun x y H Q=>∃a b xs,x=.ref a∧y=.ref b∧bZ K H a xs∧H b=some (.lst [])∧Q (.bl (!xs.isEmpty)) H
variable {X:Cx}
theorem D6(hu:X.A.units+64<cLine):cB X (compareOp .NotEq) (Sm X.K):=by
 intro pins s σ H x y v u Q I rx ry h;obtain ⟨a,b,xs,rfl,rfl,h1,h2,q⟩:=h;cases rx;cases ry;obtain ⟨us,r1,t1,_⟩:=I.list h1;obtain ⟨vs,r2,t2,_⟩:=I.list (bZ.of h2);have l1:=r1.length;have l2:=r2.length;cases xs with
 | nil=>
  refine SeqAt.RcNeAt.lists (e:=fun _=>true) t1.isList t2.isList (by simp at l1 l2 ⊢;lia) (by lia) (fun j z1 z2=>?_) _ _ _ _ ?_
  ·simp at l1
   have:us=[]:=List.length_eq_zero_iff.mp l1.symm;subst this;simp at z1
  ·rw [all_range]
   exact ⟨.bl false,H,I,rfl,q⟩
 | cons w ws=>
  refine SeqAt.RcNeAt.lists_lengths t1.isList t2.isList ?_ (by lia) _ _ _ _ ⟨.bl true,H,I,rfl,q⟩
  simp at l1 l2 ⊢;lia
def eB(H:Hp)(vs:List V)(L:bS):Prop:=vs.length=L.length∧∀(k:Nat) (v:V) (p:Int×Int),vs[k]?=some v→L[k]?=some p→∃b,v=.ref b∧H b=some (.tup [.int p.1,.int p.2])
theorem eB.nil(H:Hp):eB H [] []:=⟨rfl,fun k v p h=>by simp at h⟩
variable {H H':Hp} {L:bS}
theorem eB.mono{vs:List V}(h:eB H vs L)(s:af H H'):eB H' vs L:=⟨h.1,fun k v p h1 h2=>by obtain ⟨b,e,g⟩:=h.2 k v p h1 h2;exact ⟨b,e,s _ _ g⟩⟩
variable {xs:List V}
theorem eB.cf{vs:List V}{r:Addr}(h:eB H vs L)(e:H r=some (.lst xs))(k:∀b o,b≠r→H b=some o→H' b=some o):eB H' vs L:=⟨h.1,fun i v p h1 h2=>by obtain ⟨b,eb,g⟩:=h.2 i v p h1 h2;refine ⟨b,eb,k b _ (fun z=>?_) g⟩;rw [z,e] at g;cases g⟩
def D7(H:Hp)(t:Addr)(n:Nat)(L:bS):Prop:=∃(lt:Addr) (us:List V),H t=some (.tup [.int (n:Int),.ref lt])∧H lt=some (.tup us)∧eB H us L
theorem eB.cat{us zs:List V}{M:bS}(h:eB H us L)(g:eB H zs M):eB H (us++zs) (L++M):=⟨by simp [h.1,g.1],fun k v p h1 h2=>by
 have hl:=h.1;by_cases z:k<us.length
 ·rw [nC z] at h1
  rw [nC (by lia)] at h2
  exact h.2 k v p h1 h2
 ·rw [lB (by lia)] at h1
  rw [lB (by lia),show k-L.length=k-us.length by lia] at h2
  exact g.2 _ v p h1 h2⟩
variable {K:aC}
theorem Jy(hu:X.A.units<cLine)(hK:X.K=K:=by rfl):cB X (compareOp .NotEq) (DR K):=by subst hK;exact Rv hu
theorem Jz{B B':Nat}{q:Int}{v u:V}{x m:Int}{R:VK}(hv:bj B H q v x m)(hu:bj B' H q u 0 1)(k:R (.bl (!decide (x=0))) H):DR K v u H R:=by
 cases hv with
 | bU e l bx bm=>
  cases hu with
  | bU e' l' _ _=>
   refine .inl ⟨_,_,_,_,rfl,rfl,.of e,.of e',rfl,rfl,?_⟩;have z:(iC [V.int x,V.int m] [V.int 0,V.int 1])=decide (x=0):=by
    show ((x == 0) && ((m == 1) && true))=_;by_cases hx:x=0
    ·subst hx
     have:=l.gD;rw [Int.gcd_zero_left] at this;have:=l.pos;have:m=1:=by lia
     subst this;rfl
    ·rw [cJ hx,show (x == 0)=false by simp [hx],Bool.false_and]
   rw [z];simpa using k
  | rem h0 h1 _=>lia
 | rem h0 h1 h2=>
  cases hu with
  | bU _ _ _ _=>lia
  | rem _ _ _=>
   refine .inr ⟨rfl,?_⟩;rw [show decide (V.int x=V.int 0)=decide (x=0) by simp]
   exact k
theorem JA{wi:TI}{ρ:St→St}{tt:TT}{te:TE}{σ:St}{Q:VK}(pr:Nat→Bool)(kY:∀R:It→Hp→Prop,(∀J,mQ J xs H→R J H)→wi σ H R)(hn:xs.length<sizeLine)
  (P:Addr→Nat→V→Hp→Prop) (mono:∀D i y H H' ys,P D i y H→H D=some (.lst ys)→(∀b o,b≠D→H b=some o→H' b=some o)→P D i y H')
  (test:∀(i:Nat) (x:V),xs[i]?=some x→∀(Hc:Hp) (R:Bool→Hp→Prop),af H Hc→R (pr i) Hc→tt (some x::ρ σ) Hc R)
  (step:∀D (i:Nat) (x:V),xs[i]?=some x→∀(Hc:Hp) (R:VK),af H Hc→(∃ys,Hc D=some (.lst ys))→(∀y H3,af Hc H3→P D i y H3→R y H3)→te (some x::ρ σ) Hc R)
  (fin:∀D ys Hc,H D=none→af H Hc→ys.length=((List.range xs.length).filter pr).length→(∀(k i:Nat) (y:V),ys[k]?=some y→((List.range xs.length).filter pr)[k]?=some i→P D i y Hc)→Hc D=some (.lst ys)→Q (.ref D) Hc):iD wi ρ tt te σ H Q:=by
 refine kY _ fun J js=>?_;intro D nD;refine ⟨fun i m ys Hc=>m=xs.length-i∧i≤xs.length∧Hc D=some (.lst ys)∧af H Hc∧ys.length=((List.range i).filter pr).length∧∀(k i':Nat) (y:V),ys[k]?=some y→((List.range i).filter pr)[k]?=some i'→P D i' y Hc,⟨_,rfl,b_ _,aA,jv (af.refl H) nD,rfl,fun k i y h=>by simp at h⟩,?_⟩
 rintro i m ys Hc ⟨rfl,hi,eD,sH,ly,hP⟩;refine ⟨eD,?_⟩;by_cases bV:i<xs.length
 ·refine .inr ⟨js.go i Hc sH bV,fun x H' hy=>?_⟩
  obtain ⟨rfl,hx⟩:=js.f_ i Hc x H' sH hy;refine test i x (hx bV) _ _ sH ?_;have fs:(List.range (i+1)).filter pr=(List.range i).filter pr++(if pr i=true then [i] else []):=by
   rw [List.range_succ,oW]
   congr 1
   cases e:pr i <;> simp [e]
  have fl:((List.range i).filter pr).length≤i:=bE (CT _ _) (by simp)
  cases e:pr i with
  | true=>
   rw [ak rfl];refine step D i x (hx bV) _ _ sH ⟨_,eD⟩ fun y H3 s3 hp=>?_;have e3:=s3 _ _ eD;have cf:∀b o,b≠D→H3 b=some o→upd H3 D (.lst (ys++[y])) b=some o:=fun b o nb e=>by rw [aK nb];exact e
   refine ⟨e3,by lia,xs.length-(i+1),by lia,rfl,bV,aA,jv (sH.trans s3) nD,?_,fun k i' y' h1 h2=>?_⟩
   ·rw [fs,e,ak rfl,gu,gu,ly]
    rfl
   ·rw [fs,e,ak rfl] at h2
    by_cases z:k<ys.length
    ·rw [nC z] at h1
     rw [nC (by lia)] at h2
     refine mono D i' y' H' _ ys (hP k i' y' h1 h2) eD fun b o nb e=>cf b o nb (s3 _ _ e)
    ·have hk:=(bQ.mp h1).1
     rw [gu,CI] at hk;obtain rfl:k=ys.length:=by lia
     rw [lB (aG _),wQ] at h1;rw [lB (by lia),show ys.length-((List.range i).filter pr).length=0 by lia] at h2
     cases h1;cases h2;exact mono D _ _ H3 _ ys hp e3 cf
  | false=>
   rw [aj (by simp)]
   refine ⟨xs.length-(i+1),by lia,rfl,bV,eD,sH,?_,fun k i' y' h1 h2=>?_⟩
   ·rw [fs,e,aj (by simp),lz]
    exact ly
   ·rw [fs,e,aj (by simp),lz] at h2
    exact hP k i' y' h1 h2
 ·have e:i=xs.length:=by lia
  subst e;exact .inl ⟨js.stop _ Hc sH (aG _),fin D ys Hc nD sH ly hP eD⟩
def lW(n:Nat)(f:Nat→Nat→Bool)(i:Nat):List (Int×Int):=((List.range (n-(i+1))).filter fun k=>f i (i+1+k)).map fun k=>((i:Int),((i+1+k:Nat):Int))
def b7(n:Nat)(f:Nat→Nat→Bool):Nat→List (Int×Int)
 | 0=>[]
 | i+1=>b7 n f i++lW n f i
variable {n i:Nat} {f:Nat→Nat→Bool}
theorem Sn{p:Int×Int}(h:p∈lW n f i):∃j,i<j∧j<n∧f i j=true∧p=((i:Int),(j:Int)):=by obtain ⟨k,hk,rfl⟩:=iT.mp h;obtain ⟨h1,h2⟩:=i8.mp hk;have:=cA.mp h1;exact ⟨i+1+k,by lia,by lia,h2,rfl⟩
theorem So{j:Nat}(h1:i<j)(h2:j<n)(h3:f i j=true):((i:Int),(j:Int))∈lW n f i:=by
 refine iT.mpr ⟨j-(i+1),i8.mpr ⟨cA.mpr (by lia),?_⟩,?_⟩
 ·show f i (i+1+(j-(i+1)))=true
  rw [show i+1+(j-(i+1))=j by lia]
  exact h3
 ·rw [show i+1+(j-(i+1))=j by lia]
theorem mem_of{n:Nat}{f:Nat→Nat→Bool}{p:Int×Int}:∀{k:Nat},p∈b7 n f k→∃i j,i<k∧i<j∧j<n∧f i j=true∧p=((i:Int),(j:Int))
 | 0,h=>by cases h
 | k+1,h=>by
  rcases lh.mp h with h | h
  ·obtain ⟨i,j,h1,h2⟩:=mem_of h
   exact ⟨i,j,by lia,h2⟩
  ·obtain ⟨j,h1⟩:=Sn h
   exact ⟨k,j,by lia,h1⟩
theorem xV{n:Nat}{f:Nat→Nat→Bool}{i j:Nat}(h1:i<j)(h2:j<n)(h3:f i j=true):∀{k:Nat},i<k→((i:Int),(j:Int))∈b7 n f k
 | k+1,h=>by
  by_cases z:i=k
  ·subst z
   exact fX _ (So h1 h2 h3)
  ·exact List.mem_append_left _ (xV h1 h2 h3 (by lia))
def jy(au:g7)(i j:Nat):Bool:=!decide (((au.getD i []).getD j o1).1=0)
def bf(au:g7)(i j:Nat):Bool:=jy au i j || jy au j i
def Sq(C:Addr):Sp:=fun vs H Q _=>∃(z a:Addr) (q:Int) (B:Nat) (au:g7) (n i:Nat),vs=[.ref z,.ref a,.int (i:Int)]∧fJ C H z q∧aZ q∧kZ B H q a au∧au.length=n∧n≤40∧(∀ps∈au,ps.length=n)∧i<n ∧
 ∀(r:Addr) (us:List V) (H':Hp),af H H'→H r=none→H' r=some (.lst us)→eB H' us (lW n (bf au) i)→Q (.ref r) H'
def Sr(C N:Addr):Sp:=fun vs H Q E=>∃(z a:Addr) (q:Int) (B:Nat) (au:g7) (m:Nat),vs=[.ref z,.ref a]∧fJ C H z q∧aZ q∧kZ B H q a au∧1≤au.length∧au.length≤40∧(∀ps∈au,ps.length=m) ∧
 (m≠au.length→∀H',af H H'→E (.ref N) none H') ∧
 (m=au.length→∀(t:Addr) (H':Hp),af H H'→H t=none→D7 H' t m (b7 m (bf au) m)→Q (.ref t) H')
end My
namespace L2
open PySem PySem.Spec PyProof.Rows
section
variable {X:Cx} {pins:a9} {σ:St} {H:Hp} {s:Shared}
end
end L2
namespace My
open PySem L2
theorem Ss{q:Int}:(lU q).prime=if q=0 then V.aV else .int q:=by
 unfold lU
 split <;> rfl
end My
namespace L2
open PySem PySem.Spec PyProof.Rows
def D8(o:Obj):Nat:=match o.data with
 | .dict _ ep=>ep
 | _=>0
def tK(a:Addr)(o:Obj)(aw:List (Key×V)):It:=
 ⟨fun i H=>H a=some (.cP o (.dK aw))∧i<aw.length,fun i H x H'=>H'=H∧∃kv,aw[i]?=some kv∧x=kV kv.1,fun i H=>H a=some (.cP o (.dK aw))∧aw.length≤i⟩
variable {k:Key}
theorem Su{v:Value}(h:oY k v=true):RelV (kV k) v:=by
 rcases lD h with ⟨i,t,rfl,rfl⟩ | ⟨x,t,rfl,rfl⟩;·exact ⟨t,rfl⟩
 ·exact ⟨t,rfl⟩
theorem JB{aw:List (Key×V)}{vs:List (Key×Value)}:∀{i:Nat} {kv:Key×V},KV aw vs→aw[i]?=some kv→∃v,vs[i]?=some (kv.1,v)
 | _,_,.nil,h=>by simp at h
 | 0,kv,.cons (b:=b) r _,h=>by simp at h;subst h;obtain ⟨k,v⟩:=b;have e:_=k:=r.1;exact ⟨v,by rw [e];rfl⟩
 | i+1,kv,.cons _ t,h=>by simp at h;obtain ⟨v,e⟩:=JB t h;exact ⟨v,by simpa using e⟩
section
variable {X:Cx} {pins:a9} {σ:St} {H:Hp} {s:Shared}
theorem Inv.D9{a:Addr}{o:Obj}{aw:List (Key×V)}(I:Inv X pins σ H s)(h:H a=some (.cP o (.dK aw))):∃vs,KV aw vs∧s.heap.DictAt (iV X.prog X.w) a vs (D8 o):=by obtain ⟨g,_,_,vs,r,o',es,ep,g',c,d,rest⟩:=(show cQ X.prog X.w H s.heap a (.cP o (.dK aw)) from I.aD a _ h);rw [g] at g';cases g';refine ⟨vs,r,o,es,g,c,?_,rest⟩;rw [d];unfold D8;rw [d]
end
variable {P:Program} {w:World}
theorem Sv{K:aC}{tg:Expr}(a it:Addr)(o:Obj)(aw:List (Key×V)):Turn P w K tg (tK a o aw) [it] it (fun i h=>h.IsKeyIter it a i aw.length (D8 o)) where
 mem:=by simp
 obj:=fun i h st b hb=>by
  have e:b=it:=by simpa using hb
  subst e;obtain ⟨o,e,c,d⟩:=st;exact ⟨o,e,fun v z=>by rw [d] at z;cases z⟩
 keep:=fun i h h' st k=>by obtain ⟨o,e,c,d⟩:=st;exact ⟨o,k it (by simp) o e,c,d⟩
 item:=by
  intro X hP hw hK hc i pins s σ H E I hf st hg;subst hP hw hK;obtain ⟨eH,hi⟩:=hg;obtain ⟨vs,r,hm⟩:=I.D9 eH;have lr:aw.length=vs.length:=Paired.length r;have ek:aw[i]?=some aw[i]:=by simp [hi]
  obtain ⟨v,ev⟩:=JB r ek;obtain ⟨f0,f1,f2,f3,f4,f5⟩:=hf it (by simp)
  rw [lr] at st;refine wpAny_pyNext_dict_item st hm ev fun key h' hk gM sb=>?_;have I1:Inv X pins σ H {s with heap:=h'}:=I.turned (t':=s.toks) (fun b o hb e=>(sb.2 b hb).trans e) f0 f1 f3 f4 f5;obtain ⟨o',e,c,d⟩:=id gM;rw [←lr] at gM;exact ⟨key,rfl,sC (s:={s with heap:=h'}) e c d (by decide) ⟨kV aw[i].1,H,I1,Su hk,⟨rfl,_,ek,rfl⟩,gM,fun b hb=>(hf b hb).1⟩⟩
 done:=by
  intro X hP hw hK hc i pins s σ H E I hf st hg;subst hP hw hK;obtain ⟨eH,hi⟩:=hg;obtain ⟨vs,r,hm⟩:=I.D9 eH;have lr:aw.length=vs.length:=Paired.length r;obtain ⟨f0,f1,f2,f3,f4,f5⟩:=hf it (by simp)
  rw [lr] at st;exact wpAny_pyNext_dict_end (I.ok.hd hc) st hm (by simp;lia) fun h' eb=>⟨rfl,I.turned (t':=s.toks) (fun b o hb e=>eb b o hb e) f0 f1 f3 f4 f5⟩
 self:=fun _ _ _ _ _ st h=>wpAny_pyIter_keyiter st h
section
variable {X:Cx} {tg:Expr}
def Sx(tl:TE):TI:=fun σ H R=>tl σ H fun x H1=>∃a aw,x=.ref a∧((H1 a=some (.dK aw)∧∀o,R (tK a o aw) (upd H1 a (.cP o (.dK aw))))∨∃o,H1 a=some (.cP o (.dK aw))∧R (tK a o aw) H1)
theorem Sy{l:Expr}{tl:TE}(hl:PE X l tl):PI X tg l (Sx tl):=by
 intro pins s σ H R I h;refine aR (hl pins s σ H _ I h) fun v s1 ⟨x,H1,I1,r1,q1⟩=>?_;obtain ⟨a,aw,e,q⟩:=q1;subst e;cases r1;have main:∀{H2:Hp} {o:Obj},Inv X pins σ H2 s1→H2 a=some (.cP o (.dK aw))→R (tK a o aw) H2→wpAny (model X.prog X.w) X.A (pyIter (.ref a)) (zF X pins σ tg R) X.xe s1:=fun{H2 o} I2 eH q=>by
  obtain ⟨vs,r,hm⟩:=I2.D9 eH;obtain ⟨_,_,sys,_⟩:=(show cQ X.prog X.w H2 s1.heap a (.cP o (.dK aw)) from I2.aD a _ eH);have lr:aw.length=vs.length:=Paired.length r;refine wpAny_pyIter_dict sys hm ?_;refine ⟨s1.heap.objs.size,[s1.heap.objs.size],_,_,H2,rfl,I2.kept (t':=s1.toks) fun b o e=>cF _ e,Sv a _ o aw,⟨_,eX _ rfl,rfl,by rw [lr];rfl⟩,fun b hb=>?_,q⟩
  have e:b=s1.heap.objs.size:=by simpa using hb
  subst e;exact I2.pB (aG _) (I2.aD.fresh (aG _))
 rcases q with ⟨eH,q⟩ | ⟨o,eH,q⟩
 ·obtain ⟨hz,sys,vs,r,o,es,ep,g,c,d,rest⟩:=(show cQ X.prog X.w H1 s1.heap a (.dK aw) from I1.aD a _ eH)
  refine main (H2:=upd H1 a (.cP o (.dK aw))) ?_ aA (q o);exact I1.write (t':=s1.toks) (x:=a) (e:=a) (by rw [eH];exact trivial) (.inl rfl) (fun b u _ e=>e) ⟨o,g⟩ ⟨g,hz,sys,vs,r,o,es,ep,g,c,d,rest⟩
 ·exact main I1 eH q
end
section
variable (P:Program) (w:World)
end
section
variable {P:Program} {w:World} {H H':Hp} {h h':Heap} {a:Addr} {o:HO}
end
section
variable {P:Program} {w:World} {H:Hp} {h h':Heap} {x e:Addr} {o':HO}
end
section
variable {fs C0 ex kH:List Addr} {H H1 H2:Hp} {h h1 h2 h':Heap} {a x e:Addr} {o:HO}
end
section
variable {X:Cx} {pins:a9} {σ:List (Option V)} {H H':Hp} {s:Shared} {h':Heap}
end
section
variable {X:Cx}
variable {a b:Expr} {ta tb:TE} {pos:Pos}
variable {tA xk:TT} {rest:List Expr}
end
section
variable {X:Cx} {pins:a9} {σ:St} {H:Hp} {s:Shared} {a:Addr} {xs ys:List V}
end
section
variable {X:Cx} {pins:a9} {σ:St} {H:Hp} {s:Shared} {E:aN}
end
section
variable {X:Cx} {st:Stmt} {rest:List Stmt} {t u:TS} {e:Expr} {te:TE} {pos:Pos}
end
section
variable {X:Cx} {pos:Pos}
end
section
variable {X:Cx} {pos:Pos}
end
section
variable {X:Cx} {tg:Expr}
end
section
variable {X:Cx} {a b c:Expr} {ta tb tc:TE} {pos:Pos}
end
section
variable {X:Cx} {a b c:Expr} {ta tb tc:TE} {pos:Pos}
end
section
variable {prog:Program} {w:World} {A:Around} {E:aN} {s:Shared} {K:aC} {x dx C f:Addr} {mA:dq} {name:Str} {v:Value}
end
section
variable {P:Program} {w:World} {H H':Hp} {h h':Heap} {a C dx:Addr} {fs C0:List (Str×V)}
end
section
variable {X:Cx} {pins:a9} {σ:St} {H:Hp} {s:Shared} {a C dx:Addr} {fs:List (Str×V)} {f:Str} {v:V} {A:Around} {E:aN}
end
section
variable {X:Cx} {o e value:Expr} {f:Str} {pos pos' zN:Pos} {ta tv:TE}
end
section
variable {X:Cx} {pins:a9} {σ:St} {H:Hp} {s:Shared} {A:Around} {E:aN} {Q:aN} {c:Value} {b:Bool}
end
section
variable {X:Cx} {e:Expr} {es:List Expr} {te:TE} {t:TA} {pos:Pos}
end
section
variable {X:Cx} {pins:a9} {σ:St} {H:Hp} {s s':Shared}
end
section
variable {X:Cx} {CX:iz} {k:Nat} {f C:Addr} {fd:FuncData} {ps:List Str} {sp:Sp} {fF:List V} {ds:List Value} {E:XK} {x m:Str} {p pos apos:Pos} {e o:Expr} {es:List Expr} {ta:TE} {t:TA}
end
section
variable {X:Cx} {CX:iz} {k:Nat} {f C:Addr} {fd:FuncData} {ps ks:List Str} {sp:Sp} {E:XK} {x m:Str} {p pos apos Il:Pos} {e o:Expr} {es:List Expr} {Px:List Keyword} {te ta:TE} {t tk:TA} {nm:Option Str}
variable {g:List Value→List Value→List Value} {gV:List V→List V→List V}
end
section
variable {X:Cx} {x:Str} {p pos:Pos} {e:Expr} {es:List Expr} {t:TA} {id T:String} {r:List V→Hp→VK→Prop}
end
section
variable {κ:Type} [DecidableEq κ]
def pX(aw:List (κ×V))(k:κ):Option V:=(aw.find? fun kv=>decide (kv.1=k)).map (·.2)
def putK(aw:List (κ×V))(k:κ)(v:V):List (κ×V):=
 if (aw.any fun kv=>decide (kv.1=k))=true then aw.map (fun kv=>if kv.1=k then (kv.1,v) else kv) else aw++[(k,v)]
variable {p:κ×V}
theorem JD{r:List (κ×V)}{k:κ}(e:p.1=k):pX (p::r) k=some p.2:=by simp [pX,zi,e]
theorem JE{r:List (κ×V)}{k:κ}(e:¬p.1=k):pX (p::r) k=pX r k:=by simp [pX,zi,e]
theorem JF(k:κ):∀aw:List (κ×V),(aw.any fun kv=>decide (kv.1=k))=(pX aw k).isSome
 | []=>rfl
 | p::r=>by
  rw [wR];by_cases e:p.1=k;·simp only [JD e,da e,Bool.true_or,Option.isSome_some]
  ·rw [JE e,cJ e,Bool.false_or];exact JF k r
theorem JG(aw:List (κ×V))(k:κ)(v:V):(putK aw k v).length≤aw.length+1:=by
 unfold putK
 split
 ·rw [aJ];lia
 ·rw [gu,fY,List.length_nil];lia
theorem jd.Sz{o:Option V}{u:Option Value}(r:jd o u):o.isSome=u.isSome:=by
 cases o with
 | none=>cases u with
  | none=>rfl
  | some _=>exact (show False from r).elim
 | some _=>cases u with
  | none=>exact (show False from r).elim
  | some _=>rfl
variable {aw:List (κ×V)}
theorem KV.any{vs:List (κ×Value)}(r:KV aw vs)(k:κ):(aw.any fun kv=>decide (kv.1=k))=vs.any fun kv=>decide (kv.1=k):=by
 unfold KV at r
 induction r with
 | nil=>rfl
 | cons h t ih=>rw [wR,wR,ih,h.1]
variable {y:V} {u:Value}
theorem KV.D_{vs:List (κ×Value)}(r:KV aw vs)(k:κ)(ry:RelV y u) :
  KV (aw.map fun kv=>if kv.1=k then (kv.1,y) else kv) (vs.map fun kv=>if kv.1=k then (kv.1,u) else kv):=by
 unfold KV at r ⊢
 induction r with
 | nil=>exact .nil
 | @cons p q ps qs h t ih=>
  rw [cG,cG];refine .cons ?_ ih;obtain ⟨h1,h2⟩:=h;by_cases e:p.1=k;·rw [ak e,ak (h1.symm.trans e)];exact ⟨h1,ry⟩
  ·rw [aj e,aj (fun z=>e (h1.trans z))];exact ⟨h1,h2⟩
theorem KV.put{vs:List (κ×Value)}(r:KV aw vs)(k:κ)(ry:RelV y u):KV (putK aw k y) (stored vs k u):=by
 unfold putK stored;rw [r.any k];by_cases e:(vs.any fun kv=>decide (kv.1=k))=true;·rw [ak e,ak e];exact r.D_ k ry
 ·rw [aj e,aj e];exact Paired.snoc r ⟨rfl,ry⟩
theorem KV.length{vs:List (κ×Value)}(r:KV aw vs):aw.length=vs.length:=Paired.length r
end
variable {u:Value}
theorem JH(r:RelV (kV k) u):(iV P w).is k u=true:=by
 cases k with
 | inl i=>obtain ⟨t,e⟩:=(show ∃t,u=Value.int i t from r);subst e;exact N4 P w i t
 | inr x=>obtain ⟨t,e⟩:=(show ∃t,u=Value.str x t from r);subst e;exact N5 P w x t
theorem JI{P:Program}{w:World}:∀{ks:List Key} {us:List Value},Vals (ks.map kV) us→ItemsAre (iV P w) ks us
 | [],_,r=>by rw [wJ] at r;cases r;exact .nil
 | k::ks,_,r=>by
  rw [cG] at r;cases r with
  | cons h t=>exact .cons (JH h) (JI t)
abbrev KT (H:Hp):List (List Key×V)→List (List Key×Addr×Value)→Prop:=Paired fun p q=>p.1=q.1∧H q.2.1=some (.tup (p.1.map kV))∧RelV p.2 q.2.2
variable {H:Hp} {aw:List (List Key×V)} {xs:List (List Key×Addr×Value)}
theorem KT.val(r:KT H aw xs)(k:List Key):jd (pX aw k) ((atKey xs k).map (·.2)):=by
 induction r with
 | nil=>exact True.intro
 | @cons p q ps qs h t ih=>
  obtain ⟨h1,_,h2⟩:=h;by_cases e:p.1=k
  ·have e':q.1=k:=h1.symm.trans e
   have b:atKey (q::qs) k=some q.2:=by simp [atKey,zi,e']
   rw [JD e,b];exact h2
  ·have e':¬q.1=k:=fun z=>e (h1.trans z)
   have b:atKey (q::qs) k=atKey qs k:=by simp [atKey,zi,e']
   rw [JE e,b];exact ih
variable {y:V}
theorem KT.D_(r:KT H aw xs)(k:List Key)(ry:RelV y u) :
  KT H (aw.map fun kv=>if kv.1=k then (kv.1,y) else kv) (xs.map (putAt k u)):=by
 induction r with
 | nil=>exact .nil
 | @cons p q ps qs h t ih=>
  rw [cG,cG];refine .cons ?_ ih;obtain ⟨h1,h2,h3⟩:=h;unfold putAt;by_cases e:p.1=k;·rw [ak e,ak (h1.symm.trans e)];exact ⟨h1,h2,ry⟩
  ·rw [aj e,aj (fun z=>e (h1.trans z))];exact ⟨h1,h2,h3⟩
theorem KT.put(r:KT H aw xs)(k:List Key){b:Addr}(hb:H b=some (.tup (k.map kV)))(ry:RelV y u) :
  KT H (putK aw k y) (storedH xs k b u):=by
 have e:(aw.any fun kv=>decide (kv.1=k))=(atKey xs k).isSome:=by rw [JF,(r.val k).Sz,Option.isSome_map]
 unfold putK storedH;rw [e];by_cases q:(atKey xs k).isSome=true;·rw [ak q,ak q];exact r.D_ k ry
 ·rw [aj q,aj q];exact Paired.snoc r ⟨rfl,hb,ry⟩
theorem KT.keeps{H':Hp}(r:KT H aw xs)(ht:∀b ys,H b=some (.tup ys)→H' b=some (.tup ys)):KT H' aw xs:=
 Paired.CZ r fun _ _ z=>⟨z.1,ht _ _ z.2.1,z.2.2⟩
section
variable {P:Program} {w:World} {H:Hp} {h:Heap} {a:Addr}
theorem JJ{u:HO}(ok:cL P w H h)(e:Rd H a u):cQ P w H h a u:=e.ok ok
theorem SA{aw:List (Key×V)}(ok:cL P w H h)(e:Rd H a (.dK aw)):aw.length≤sizeLine∧(a == sysModules)=false∧∃vs,KV aw vs∧h.DictOf (iV P w) a vs:=
 show cQ P w H h a (.dK aw) from JJ ok e
theorem SD{aw:List (Key×V)}(ok:cL P w H h)(e:H a=some (.dK aw)):aw.length≤sizeLine∧(a == sysModules)=false∧∃vs,KV aw vs∧h.DictOf (iV P w) a vs:=SA ok (.inl e)
theorem JK{ks:List Key}(ok:cL P w H h)(e:H a=some (.tup (ks.map kV))):(tupleKind (iV P w)).is h ks a:=by obtain ⟨_,ai,r,o,h1,h2,n,h3⟩:=(show cQ P w H h a (.tup (ks.map kV)) from ok a _ e);exact ⟨o,ai.toArray,n,h1,h2,h3,by simpa using JI r⟩
theorem SE(ok:cL P w H h)(e:Rd H a (.dT aw)):aw.length≤sizeLine∧(a == sysModules)=false ∧
  ∃xs,KT H aw xs∧h.DictOfH (tupleKind (iV P w)) a xs:=by
 obtain ⟨z,y,xs,r,o,es,ep,h1,h2,h3,h4,h5⟩:=(show cQ P w H h a (.dT aw) from JJ ok e);refine ⟨z,y,xs,r,o,es,ep,h1,h2,h3,h4,fun x hx=>?_,h5⟩;have all:∀{l:List (List Key×V)} {m:List (List Key×Addr×Value)},KT H l m→∀x∈m,(tupleKind (iV P w)).is h x.1 x.2.1:=by
  intro l m q
  induction q with
  | nil=>intro x hx;exact nomatch hx
  | @cons p q ps qs hq t ih=>
   intro x hx;rcases c_.mp hx with e | hx
   ·subst e
    exact JK ok (by rw [←hq.1];exact hq.2.1)
   ·exact ih x hx
 exact all r x hx
theorem SF(ok:cL P w H h)(e:H a=some (.dT aw)):aw.length≤sizeLine∧(a == sysModules)=false ∧
  ∃xs,KT H aw xs∧h.DictOfH (tupleKind (iV P w)) a xs:=SE ok (.inl e)
end
def Ea(H:Hp)(a:Addr)(y v:V)(H':Hp):Prop:=
 (∃aw k,H a=some (.dK aw)∧y=kV k∧aw.length<sizeLine∧H'=upd H a (.dK (putK aw k v))) ∨
 ∃aw k b,H a=some (.dT aw)∧y=.ref b∧H b=some (.tup (k.map kV))∧aw.length<sizeLine∧H'=upd H a (.dT (putK aw k v))
section
variable {X:Cx} {pins:a9} {σ:St} {H:Hp} {s:Shared} {a:Addr} {y v:V} {u r:Value} {o:Option V} {A:Around} {E:aN}
theorem Inv.big(I:Inv X pins σ H s):sysModules<s.heap.objs.size:=by have h:mainGlobals<s.heap.objs.size:=(I.mod.glob.keeps I.bk).lt;exact Nat.lt_trans (by decide) h
variable {h':Heap}
theorem JL{t':Nat}{ob:HO}(I:Inv X pins σ H s)(mu:xc (H a))(hs:Heap.SameBut a s.heap h')(he:∃q,h'.get? a=some q)(new:cQ X.prog X.w (upd H a ob) h' a ob) :
  Inv X pins σ (upd H a ob) {s with heap:=h',toks:=t'}:=
 I.write (x:=a) (e:=a) mu (.inl rfl) (fun b q hb z=>(hs.2 b hb).trans z) he new
variable {H':Hp}
theorem SG{aw:List (Key×V)}{vs:List (Key×Value)}(z:aw.length≤sizeLine)(hd:(a == sysModules)=false)(rel:KV aw vs)(dd:h'.DictOf (iV P w) a vs) :
  cQ P w H' h' a (.dK aw):=⟨z,hd,vs,rel,dd⟩
theorem SH{Q:Unit→Shared→Prop}(hu:A.units+1<cLine)(I:Inv X pins σ H s)(g:Ea H a y v H')(ry:RelV y u)(rv:RelV v r)(h:∀s',Inv X pins σ H' s'→Q () s') :
  wpAny (model X.prog X.w) A (setItem (.ref a) u r) Q E s:=by
 rcases g with ⟨aw,k,e,ey,l,eH⟩ | ⟨aw,k,b,e,ey,eb,l,eH⟩
 ·subst ey eH
  obtain ⟨z,hd,vs,rel,dd⟩:=SD I.aD e;have hz:vs.length≤sizeLine:=by rw [←rel.length];exact z
  have hl:(putK aw k v).length≤sizeLine:=by have:=JG aw k v;lia
  refine wpAny_setItem_pairs (hsz:=hz) (JH ry) dd fun h' xB hs=>h _ ?_;have he:∃q,h'.get? a=some q:=let ⟨q,_,_,hq,_⟩:=xB;⟨q,hq⟩
  exact JL I (by rw [e];exact True.intro) hs he (SG hl hd (rel.put k rv) xB)
 ·subst ey eH
  cases (show u=Value.ref b from ry);obtain ⟨z,hd,xs,rel,dd⟩:=SF I.aD e;have hz:xs.length≤sizeLine:=by rw [←Paired.length rel];exact z
  have hl:(putK aw k v).length≤sizeLine:=by have:=JG aw k v;lia
  refine wpAny_setItem_heap (hsz:=hz) (tupleKind_room_in1 hu) (JK I.aD eb) dd fun h' xB hs=>h _ ?_;obtain ⟨q,es,ep,hq,h2,h3,h4,_,h5⟩:=xB;refine JL I (by rw [e];exact True.intro) hs ⟨q,hq⟩ ⟨hl,hd,_,(rel.put k eb rv).keeps fun c ys ec=>?_,q,es,ep,hq,h2,h3,h4,h5⟩
  rw [aK (N6 ec e (fun z=>nomatch z))];exact ec
end
section
variable {X:Cx} {pins:a9} {σ:St} {H:Hp} {s:Shared} {a:Addr} {aw:List (Key×V)} {k:Key} {u:Value} {A:Around} {E:aN}
end
def SI(td ty tv:TE):TS:=fun D σ H=>tv σ H fun v H1=>td σ H1 fun x H2=>ty σ H2 fun y H3=>∃a H4,x=.ref a∧Ea H3 a y v H4∧D.nx σ H4
section
variable {X:Cx} {o i e value:Expr} {pos pos' zN:Pos} {td ty tv:TE}
theorem Eb(hu:X.A.units+1<cLine)(ho:PE X o td)(hi:PE X i ty)(hv:PE X value tv)(hs:swapsWith value (some (.Subscript o i pos')) pos.line X.env=pure false) :
  PS X (.Assign [.Subscript o i pos'] value pos) (SI td ty tv):=by
 intro pins s σ H D I h;refine wpAny_Assign_Subscript (aR (hv pins s σ H _ I h) fun r s1 ⟨v,H1,I1,rv,q1⟩=>aR (ho pins s1 σ H1 _ I1 q1) fun u s2 ⟨x,H2,I2,rx,q2⟩=>aR (hi pins s2 σ H2 _ I2 q2) fun iv s3 ⟨y,H3,I3,ry,a,H4,ex,g,q3⟩=>?_) hs;subst ex;obtain rfl:u=Value.ref a:=rx;exact SH hu I3 g ry rv fun s4 I4=>⟨σ,H4,I4,q3⟩
end
theorem SJ(h:Heap)(hb:sysModules<h.objs.size):cQ P w H (h.push {cls:=.type "dict",data:=.dict #[]}) h.objs.size (.dK []):=
 ⟨b_ _,km.mpr (Ne.symm (dC hb)),[],.nil,Heap.DictOf.new h⟩
def SK:TE:=fun _ H Q=>∀p,H p=none→Q (.ref p) (upd H p (.dK []))
section
variable {X:Cx} {pos:Pos}
theorem SM:PE X (.Dict [] [] pos) SK:=fun pins s σ H Q I h=>wpAny_Dict_empty ⟨.ref s.heap.objs.size,_,I.laid (a:=s.heap.objs.size) (o:=.dK []) (t':=s.toks) (fun _ _ q=>cF _ q) (aG _) (SJ s.heap I.big),rfl,h _ (I.aD.fresh (aG _))⟩
end
section
variable {X:Cx} {pins:a9} {σ:St} {H:Hp} {s:Shared} {a:Addr} {y d:V} {u r:Value} {o:Option V} {A:Around} {E:aN}
end
section
variable {X:Cx} {o e f:Expr} {apos fH:Pos} {td ty tx:TE}
end
section
variable {X:Cx} {pins:a9} {σ:St} {H:Hp} {s:Shared} {a:Addr} {aw:List (Key×V)} {A:Around} {E:aN}
end
section
variable {X:Cx} {pins:a9} {σ:St} {H:Hp} {s:Shared} {a:Addr} {y:V} {u:Value} {A:Around} {E:aN}
end
end L2
namespace Att
open PySem PySem.W PySem.Calls PyProof.Rows
section
variable {prog:Program} {w:World} {A:Around} {E:aN} {s:Shared} {K:Frag}
end
end Att
namespace L2
open PySem PySem.Spec PyProof.Rows
section
variable {P:Program} {w:World} {K:aC} {mg:dq} {base:Heap}
end
section
variable {X:Cx}
end
section
variable {κ:Type} [DecidableEq κ]
end
theorem JM:∀{us:List Value} {ns:List Int},IntsAre us ns→Vals (ns.map V.int) us
 | _,_,.nil=>.nil
 | _,_,.cons a u r=>.cons ⟨u,rfl⟩ (JM r)
def SN:List V→Hp→VK→Prop:=fun xs H Q=>∃(a:Addr) (zs:List Int),xs=[.ref a]∧H a=some (.lst (zs.map V.int))∧zs.length<64∧∀(ws:List Int) (D:Addr),ws.Perm zs→ws.Pairwise (·≤·)→H D=none→Q (.ref D) (upd H D (.lst (ws.map V.int)))
theorem JN{X:Cx}:gc X (.builtin "sorted") SN:=by
 intro pins s σ H xs us Q I r h;obtain ⟨a,zs,rfl,ha,h64,k⟩:=h;obtain ⟨u,rfl,ru⟩:=vals1 r;cases ru;obtain ⟨ai,rv,pl,hz⟩:=I.list (.of ha);have hl:=rv.length;rw [aJ] at hl;refine sorted_ints pl.isList (intsAre_of rv) (by lia) fun out JO a1 a2 a3=>?_
 obtain ⟨e,he⟩:=sortedAll_at s.heap ai out;refine ⟨.ref (s.heap.objs.size+1),_,I.laid (t':=s.toks) (o:=.lst (JO.map .int)) (fun _ _=>sortedAll_old) (ko _) ⟨?_,out.toList,e,JM a1,?_⟩,rfl,k JO _ a2 a3 (I.aD.fresh (ko _))⟩
 ·rw [aJ,a2.length_eq]
  rw [sizeLine_eq];lia
 ·simpa using he
end L2
namespace My
open PySem L2
def dk(ks:List Nat):List (Key×V):=ks.map fun k:Nat=>((Sum.inl (k:Int):Key),V.bl true)
def fQ(ks:List Nat)(k:Nat):List Nat:=if k∈ks then ks else ks++[k]
theorem SO{a b:Nat}:((Sum.inl (a:Int):Key)=Sum.inl (b:Int))↔a=b:=by
 constructor
 ·intro h
  have:=Sum.inl.inj h;lia
 ·rintro rfl;rfl
theorem SQ(ks:List Nat):(dk ks).length=ks.length:=aJ _
theorem SR(ks:List Nat)(k:Nat):((dk ks).any fun kv=>decide (kv.1=(Sum.inl (k:Int):Key)))=decide (k∈ks):=by
 rw [oO,List.any_eq_true,wW];constructor
 ·rintro ⟨kv,h1,h2⟩
  obtain ⟨j,hj,rfl⟩:=iT.mp h1;have:=SO.mp (g6 h2);subst this;exact hj
 ·intro h
  exact ⟨_,iT.mpr ⟨k,h,rfl⟩,da rfl⟩
theorem SS(ks:List Nat)(k:Nat):putK (dk ks) (Sum.inl (k:Int):Key) (V.bl true)=dk (fQ ks k):=by
 unfold putK fQ;rw [SR];by_cases h:k∈ks
 ·rw [ak (da h),ak h]
  unfold dk;rw [d5];refine de fun j _=>?_;show (if _ then _ else _)=_
  split <;> rfl
 ·rw [aj (by rw [wW];exact h),aj h]
  unfold dk;rw [ie];rfl
variable {ks:List Nat} {k j:Nat}
theorem Aj:j∈fQ ks k↔j∈ks∨j=k:=by
 unfold fQ;by_cases h:k∈ks
 ·rw [ak h]
  constructor;·exact .inl
  ·rintro (e | rfl)
   ·exact e
   ·exact h
 ·rw [aj h,lh,iR]
theorem SU(h:ks.Nodup):(fQ ks k).Nodup:=by
 unfold fQ;by_cases m:k∈ks;·rw [ak m];exact h
 ·rw [aj m]
  refine List.nodup_append.mpr ⟨h,(by simp),fun a ha b hb=>?_⟩
  rw [iR] at hb;subst hb;rintro rfl;exact m ha
def lX(n:Nat)(ks:List Nat):Prop:=ks.Nodup∧∀k∈ks,k<n
theorem lX.nil(n:Nat):lX n []:=⟨List.nodup_nil,fun _ h=>by cases h⟩
variable {n:Nat}
theorem lX.add(h:lX n ks)(hk:k<n):lX n (fQ ks k):=⟨SU h.1,fun j hj=>by
 rcases Aj.mp hj with e | rfl;·exact h.2 j e
 ·exact hk⟩
theorem Ec:∀{n:Nat} {ks:List Nat},ks.Nodup→(∀k∈ks,k<n)→ks.length≤n
 | 0,ks,_,h=>by
  cases ks with
  | nil=>exact aG _
  | cons a r=>exact absurd (h a (hZ ..)) (oQ _)
 | n+1,ks,nd,h=>by
  have e:=Ec (n:=n) (ks:=ks.erase n) (nd.erase n) (fun k hk=>by have m:=(List.Nodup.mem_erase_iff nd).mp hk;have:=h k m.2;have:=m.1;lia)
  by_cases hm:n∈ks
  ·have:=List.length_erase_of_mem hm
   lia
  ·rw [List.erase_of_not_mem hm] at e
   lia
theorem lX.len(h:lX n ks):ks.length≤n:=Ec h.1 h.2
structure eR (H:Hp) (D:Addr) (n:Nat) (ds:Nat→Addr) (un:Nat→Prop) (f:Nat→List Nat):Prop where
 lst:H D=some (.lst ((List.range n).map fun i=>V.ref (ds i)))
 inj:∀i j,i<n→j<n→ds i=ds j→i=j
 ne:∀i,i<n→ds i≠D
 at':∀i,i<n→un i→H (ds i)=some (.dK (dk (f i)))
 pl:∀i,i<n→lX n (f i)
def gk(f:Nat→List Nat)(i:Nat)(ks:List Nat):Nat→List Nat:=fun j=>if j=i then ks else f j
variable {H:Hp} {D:Addr} {ds:Nat→Addr} {f:Nat→List Nat} {i:Nat}
theorem eR.put{un:Nat→Prop}(h:eR H D n ds un f)(hi:i<n)(hj:j<n)(ui:un i)(hn:n≤1000) :
  Ea H (ds i) (.int (j:Int)) (.bl true) (upd H (ds i) (.dK (dk (fQ (f i) j))))∧eR (upd H (ds i) (.dK (dk (fQ (f i) j)))) D n ds un (gk f i (fQ (f i) j)):=by
 refine ⟨.inl ⟨dk (f i),Sum.inl (j:Int),h.at' i hi ui,rfl,?_,by rw [SS]⟩,?_,h.inj,h.ne,fun k hk uk=>?_,fun k hk=>?_⟩
 ·rw [SQ]
  have:=(h.pl i hi).len;exact jH this (jH hn (by rw [sizeLine_eq];decide))
 ·rw [aK (Ne.symm (h.ne i hi))]
  exact h.lst
 ·unfold gk
  by_cases e:k=i
  ·subst e
   rw [ak rfl,aA]
  ·rw [aj e,aK (fun z=>e (h.inj k i hk hi z))]
   exact h.at' k hk uk
 ·unfold gk
  by_cases e:k=i;·rw [ak e];exact (h.pl i hi).add hj
  ·rw [aj e];exact h.pl k hk
theorem eR.ix{un:Nat→Prop}(h:eR H D n ds un f)(hi:i<n):iY ((List.range n).map fun i=>V.ref (ds i)) (i:Int)=some (V.ref (ds i)):=
 iZ (by rw [cx,ku hi];rfl)
def Ed(n:Nat)(L:bS):Prop:=∀p∈L,0≤p.1∧p.1<(n:Int)∧0≤p.2∧p.2<(n:Int)
def mV(n:Nat)(L:bS)(f:Nat→List Nat):Prop:=∀i j:Nat,i<n→(j∈f i↔((i:Int),(j:Int))∈L∨((j:Int),(i:Int))∈L)
theorem mV.nil(n:Nat):mV n [] (fun _=>[]):=fun i j _=>by simp
theorem mV.more{L:bS}(h:mV n L f)(hi:i<n)(hj:j<n):mV n (L++[((i:Int),(j:Int))]) (gk (gk f i (fQ (f i) j)) j (fQ (gk f i (fQ (f i) j) j) i)):=fun a b ha=>by
 have e1:∀x y:Nat,y∈gk f i (fQ (f i) j) x↔y∈f x∨(x=i∧y=j):=fun x y=>by
  unfold gk;by_cases e:x=i
  ·subst e
   rw [ak rfl,Aj];simp
  ·rw [aj e]
   simp [e]
 have e2:b∈gk (gk f i (fQ (f i) j)) j (fQ (gk f i (fQ (f i) j) j) i) a↔b∈gk f i (fQ (f i) j) a∨(a=j∧b=i):=by
  unfold gk;by_cases e:a=j
  ·subst e
   rw [ak rfl,Aj];simp
  ·rw [aj e]
   simp [e]
 rw [e2,e1,h a b ha];simp only [lh,iR,Prod.mk.injEq];constructor
 ·rintro ((e | e) | ⟨rfl,rfl⟩)
  ·rcases e with e | e
   ·exact .inl (.inl e)
   ·exact .inr (.inl e)
  ·exact .inl (.inr ⟨by lia,by lia⟩)
  ·exact .inr (.inr ⟨rfl,rfl⟩)
 ·rintro ((e | ⟨e1,e2⟩) | (e | ⟨e1,e2⟩))
  ·exact .inl (.inl (.inl e))
  ·exact .inl (.inr ⟨by lia,by lia⟩)
  ·exact .inl (.inl (.inr e))
  ·exact .inr ⟨by lia,by lia⟩
def SV:Sp:=fun vs H Q _=>∃(t:Addr) (n:Nat) (L:bS),vs=[.ref t]∧D7 H t n L∧Ed n L∧n≤1000 ∧
 ∀(H':Hp) (D:Addr) (ds:Nat→Addr) (f:Nat→List Nat),af H H'→H D=none→(∀i,i<n→H (ds i)=none)→eR H' D n ds (fun _=>True) f→mV n L f→Q (.ref D) H'
end My
namespace L2
open PySem PySem.Spec PyProof.Rows
def SW(K:aC):R2:=fun x y H Q=>∃(a b:Addr) (xs ys:List Int),x=.ref a∧y=.ref b∧bZ K H a (xs.map V.int)∧bZ K H b (ys.map V.int)∧Q (.bl (decide (xs=ys))) H
theorem JP{X:Cx}(hu:X.A.units+64<cLine):cB X (compareOp .Eq) (SW X.K):=by
 intro pins s σ H x y v u Q I rx ry h;obtain ⟨a,b,xs,ys,rfl,rfl,h1,h2,q⟩:=h;cases rx;cases ry;obtain ⟨us,r1,t1,_⟩:=I.list h1;obtain ⟨vs,r2,t2,_⟩:=I.list h2;have l1:=r1.length;have l2:=r2.length;rw [aJ] at l1 l2;by_cases hl:xs.length=ys.length
 ·refine SeqAt.RcAt.lists (e:=fun j=>mK (.int (xs.getD j 0)) (.int (ys.getD j 0))) t1.isList t2.isList (by simp;lia) (by lia) (fun j z1 z2=>?_) _ _ _ _ ?_
  ·have Ae:j<us.length:=by simpa using z1
   have Af:j<vs.length:=by simpa using z2
   have ex:(xs.map V.int)[j]?=some (.int (xs.getD j 0)):=by rw [cx,gX];simp [show j<xs.length by lia]
   have ey:(ys.map V.int)[j]?=some (.int (ys.getD j 0)):=by rw [cx,gX];simp [show j<ys.length by lia]
   obtain ⟨x',kH,rx⟩:=r1.get ex;obtain ⟨y',mU,ry⟩:=r2.get ey;have e1:us.toArray[j]=x':=by simpa using (bQ.mp kH).2
   have e2:vs.toArray[j]=y':=by simpa using (bQ.mp mU).2
   rw [e1,e2];exact zR rx ry rfl rfl
  ·rw [show us.toArray.size=xs.length by simp;lia,Si hl]
   exact ⟨.bl (decide (xs=ys)),H,I,rfl,q⟩
 ·rw [cJ (fun e=>hl (by rw [e]))] at q
  refine SeqAt.RcAt.lists_lengths t1.isList t2.isList ?_ (by lia) _ _ _ _ ⟨.bl false,H,I,rfl,q⟩
  simp;lia
end L2
namespace My
open PySem L2
def iN(k:Nat):Int:=(k:Int)
def mW(zs:List Int)(n:Nat):Prop:=zs.Perm ((List.range n).map iN)
instance (zs:List Int) (n:Nat):Decidable (mW zs n):=by unfold mW;exact inferInstance
theorem SX(n:Nat):((List.range n).map iN).Pairwise (·≤·):=by rw [zk];exact List.Pairwise.imp (fun h=>by unfold iN;lia) List.pairwise_lt_range
variable {ws zs:List Int} {n:Nat}
theorem SY(p:ws.Perm zs)(o:ws.Pairwise (·≤·)):decide (ws=(List.range n).map iN)=decide (mW zs n):=by
 by_cases h:mW zs n
 ·rw [da h]
  refine da ?_;exact (p.trans h).eq_of_pairwise (fun a b _ _ h1 h2=>by lia) o (SX n)
 ·rw [cJ h]
  refine cJ fun e=>h ?_;subst e;exact p.symm
def S0:Sp:=fun vs H Q _=>∃(a:Addr) (zs:List Int) (n:Nat),vs=[.ref a,.int (n:Int)]∧H a=some (.lst (zs.map V.int))∧zs.length<64∧n≤1000∧(∀H',af H H'→Q (.bl (decide (mW zs n))) H')
def S1(N:Addr):Sp:=fun vs H Q E=>∃(a:Addr) (zs:List Int) (n:Nat),vs=[.ref a,.int (n:Int)]∧H a=some (.lst (zs.map V.int))∧zs.length<64∧n≤1000 ∧
 (¬mW zs n→∀H',af H H'→E (.ref N) none H')∧(mW zs n→∀H',af H H'→Q .aV H')
def S7(H:Hp)(a:Addr)(n:Nat)(o:List Nat):Prop:=H a=some (.lst (o.map fun k:Nat=>V.int (k:Int)))∧o.Perm (List.range n)
def S9:Sp:=fun vs H Q _=>∃(a:Addr) (n:Nat) (o:List Nat),vs=[.ref a]∧S7 H a n o∧n≤1000 ∧
 ∀(r:Addr) (H':Hp),af H H'→H r=none→H' r=some (.lst ((List.range n).map fun p=>V.int (o.idxOf p:Int)))→Q (.ref r) H'
variable {H H1:Hp} {D:Addr}
theorem S_(s:af H H1)(e:H1 D=none):H D=none:=by
 cases z:H D with
 | none=>rfl
 | some o=>rw [s _ _ z] at e;cases e
theorem Ak(s:af H H1){o:HO}(e:H1 D=none):af H (upd H1 D o):=jv s (S_ s e)
variable {k:Nat}
theorem jX(h:k<n):mI n (k:Int)=some k:=by unfold mI;rw [ak (by lia),ak (by lia),eJ]
def jY(o:List Nat)(k p:Nat):Int:=if o.idxOf p<k then (o.idxOf p:Int) else 0
variable {o:List Nat}
theorem fk(h:o.Perm (List.range n)):o.Nodup:=h.nodup_iff.mpr wX
theorem cw(h:o.Perm (List.range n)):o.length=n:=by rw [h.length_eq,dc]
variable {p:Nat}
theorem bF(h:o.Perm (List.range n)):p∈o↔p<n:=by rw [h.mem_iff,cA]
theorem hV(nd:o.Nodup)(hk:k<o.length):o.idxOf o[k]=k:=nd.idxOf_getElem k hk
theorem cT(h:p∈o):∃hk:o.idxOf p<o.length,o[o.idxOf p]=p:=⟨List.idxOf_lt_length_of_mem h,List.getElem_idxOf _⟩
theorem Ta(h:o.Perm (List.range n))(hk:k<o.length):((List.range n).map fun p=>V.int (jY o k p)).set o[k] (.int (k:Int))=(List.range n).map fun p=>V.int (jY o (k+1) p):=by
 have nd:=fk h;refine fB (by simp) fun q h1 h2=>?_
 have hq:q<n:=by simpa using h2
 rw [List.getElem_set];by_cases e:o[k]=q
 ·rw [ak e]
  simp only [d8,ig];unfold jY;rw [←e,hV nd hk,ak (wH k)]
 ·rw [aj e]
  simp only [d8,ig];unfold jY;have ne:o.idxOf q≠k:=fun z=>by obtain ⟨hz,ez⟩:=cT ((bF h).mpr hq);subst z;exact e ez
  by_cases z:o.idxOf q<k;·rw [ak z,ak (by lia)]
  ·rw [aj z,aj (by lia)]
theorem Tb(n:Nat)(o:List Nat):(List.replicate n [V.int 0]).flatten=(List.range n).map fun p=>V.int (jY o 0 p):=by
 have e:∀n:Nat,(List.replicate n [V.int 0]).flatten=List.replicate n (V.int 0):=fun n=>by
  induction n with
  | zero=>rfl
  | succ n ih=>rw [r6,wK,ih];rfl
 rw [e];refine fB (by simp) fun q h1 h2=>?_
 simp [jY]
theorem Tc(h:o.Perm (List.range n)):(List.range n).map (fun p=>V.int (jY o o.length p))=(List.range n).map fun p=>V.int (o.idxOf p:Int):=by refine de fun p hp=>?_;unfold jY;rw [ak (List.idxOf_lt_length_of_mem ((bF h).mpr (cA.mp hp)))]
def ou(n:Nat)(ds:Nat→Addr)(un:Nat→Prop)(H H':Hp):Prop:=∀b o,H b=some o→(∀i,i<n→un i→b≠ds i)→H' b=some o
variable {ds:Nat→Addr}
theorem ou.refl{un:Nat→Prop}:ou n ds un H H:=fun _ _ h _=>h
variable {i:Nat}
theorem ou.put{un:Nat→Prop}(h:ou n ds un H H1)(hi:i<n)(ui:un i){o:HO}:ou n ds un H (upd H1 (ds i) o):=fun b u e k=>by rw [aK (k i hi ui)];exact h b u e k
theorem take_snoc{α:Type}{xs:List α}{x:α}(h:xs[i]?=some x):xs.take (i+1)=xs.take i++[x]:=by rw [nG,h];rfl
def hX(n:Nat)(f:Nat→List Nat)(ps:List Nat)(i j:Nat)(g:Nat→List Nat):Prop:=∀a b:Nat,a<n→(b∈g a↔b∈f a∨(a≠b∧(a∈ps.take i∧b∈ps∨ps[i]?=some a∧b∈ps.take j)))
theorem hX.start(n:Nat)(f:Nat→List Nat)(ps:List Nat):hX n f ps 0 0 f:=fun a b _=>by simp
variable {f g:Nat→List Nat} {ps:List Nat}
theorem hX.row(h:hX n f ps i ps.length g):hX n f ps (i+1) 0 g:=fun a b ha=>by
 rw [h a b ha,kA];cases e:ps[i]? with
 | none=>
  have:ps.length≤i:=CG.mp e;rw [kC this,kC (by lia)]
  simp
 | some x=>
  rw [take_snoc e];simp only [lh,iR,Option.some.injEq,List.take_zero,oU,and_false,or_false];constructor
  ·rintro (z | ⟨z,z1 | z1⟩)
   ·exact .inl z
   ·exact .inr ⟨z,.inl z1.1,z1.2⟩
   ·exact .inr ⟨z,.inr z1.1.symm,z1.2⟩
  ·rintro (z | ⟨z,z1 | z1,z2⟩)
   ·exact .inl z
   ·exact .inr ⟨z,.inl ⟨z1,z2⟩⟩
   ·exact .inr ⟨z,.inr ⟨z1.symm,z2⟩⟩
variable {j:Nat}
theorem hX.same{x:Nat}(h:hX n f ps i j g)(hi:ps[i]?=some x)(hj:ps[j]?=some x):hX n f ps i (j+1) g:=fun a b ha=>by
 rw [h a b ha,take_snoc hj];simp only [lh,iR,hi,Option.some.injEq];constructor
 ·rintro (z | ⟨z,z1 | z1⟩)
  ·exact .inl z
  ·exact .inr ⟨z,.inl z1⟩
  ·exact .inr ⟨z,.inr ⟨z1.1,.inl z1.2⟩⟩
 ·rintro (z | ⟨z,z1 | ⟨z1,z2 | z2⟩⟩)
  ·exact .inl z
  ·exact .inr ⟨z,.inl z1⟩
  ·exact .inr ⟨z,.inr ⟨z1,z2⟩⟩
  ·exact absurd (z1.symm.trans z2.symm) z
theorem hX.put{x y:Nat}(h:hX n f ps i j g)(hi:ps[i]?=some x)(hj:ps[j]?=some y)(ne:x≠y):hX n f ps i (j+1) (gk g x (fQ (g x) y)):=fun a b ha=>by
 have e1:b∈gk g x (fQ (g x) y) a↔b∈g a∨(a=x∧b=y):=by
  unfold gk;by_cases e:a=x
  ·subst e
   rw [ak rfl,Aj];simp
  ·rw [aj e]
   simp [e]
 rw [e1,h a b ha,take_snoc hj];simp only [lh,iR,hi,Option.some.injEq];constructor
 ·rintro ((z | ⟨z,z1 | z1⟩) | ⟨rfl,rfl⟩)
  ·exact .inl z
  ·exact .inr ⟨z,.inl z1⟩
  ·exact .inr ⟨z,.inr ⟨z1.1,.inl z1.2⟩⟩
  ·exact .inr ⟨ne,.inr ⟨rfl,.inr rfl⟩⟩
 ·rintro (z | ⟨z,z1 | ⟨z1,z2 | z2⟩⟩)
  ·exact .inl (.inl z)
  ·exact .inl (.inr ⟨z,.inl z1⟩)
  ·exact .inl (.inr ⟨z,.inr ⟨z1,z2⟩⟩)
  ·exact .inr ⟨z1.symm,z2⟩
theorem hX.done(h:hX n f ps ps.length 0 g):∀a b:Nat,a<n→(b∈g a↔b∈f a∨(a≠b∧a∈ps∧b∈ps)):=fun a b ha=>by rw [h a b ha,kA];simp
def Te:Sp:=fun vs H Q _=>∃(D pl:Addr) (n:Nat) (ds:Nat→Addr) (un:Nat→Prop) (f:Nat→List Nat) (ps:List Nat),vs=[.ref D,.ref pl]∧eR H D n ds un f∧H pl=some (.lst (ps.map fun k:Nat=>V.int (k:Int)))∧(∀p∈ps,p<n∧un p)∧n≤1000 ∧
 ∀(H':Hp) (g:Nat→List Nat),ou n ds un H H'→eR H' D n ds un g→(∀a b:Nat,a<n→(b∈g a↔b∈f a∨(a≠b∧a∈ps∧b∈ps)))→Q .aV H'
theorem eR.mono{H':Hp}{un:Nat→Prop}(h:eR H D n ds un f)(s:af H H'):eR H' D n ds un f:=⟨s _ _ h.lst,h.inj,h.ne,fun i hi ui=>s _ _ (h.at' i hi ui),h.pl⟩
theorem eR.less{un JQ:Nat→Prop}(h:eR H D n ds un f)(k:∀i,i<n→JQ i→un i):eR H D n ds JQ f:=⟨h.lst,h.inj,h.ne,fun i hi ui=>h.at' i hi (k i hi ui),h.pl⟩
variable {x:Addr}
theorem eR.upd{un:Nat→Prop}(h:eR H D n ds un f){o:HO}(n1:x≠D)(n2:∀i,i<n→un i→ds i≠x):eR (upd H x o) D n ds un f:=⟨by rw [aK (Ne.symm n1)];exact h.lst,h.inj,h.ne,fun i hi ui=>by rw [aK (n2 i hi ui)];exact h.at' i hi ui,h.pl⟩
variable {a:Addr}
theorem Tf{o:Obj}{aw:List (Key×V)}(h:H1 a=some (.cP o (.dK aw))):mQ (tK a o aw) (aw.map fun kv=>kV kv.1) H1 where
 go:=fun i Hc s hi=>⟨s _ _ h,by simpa using hi⟩
 f_:=fun i Hc x H' s y=>⟨y.1,fun _=>by obtain ⟨kv,e,rfl⟩:=y.2;rw [cx,e];rfl⟩
 stop:=fun i Hc s hi=>⟨s _ _ h,by simpa using hi⟩
theorem Tg(ks:List Nat):(dk ks).map (fun kv=>kV kv.1)=ks.map fun k:Nat=>V.int (k:Int):=by unfold dk;rw [d5];rfl
theorem Th(ks:List Nat):(List.range ks.length).map (fun i=>ks.getD i 0)=ks:=by
 refine fB (by simp) fun i h1 h2=>?_
 simp [gX,h2]
theorem Ti(ks:List Nat)(pr:Nat→Bool):((List.range ks.length).filter fun i=>pr (ks.getD i 0)).map (fun i=>ks.getD i 0)=ks.filter pr:=by have e:=List.filter_map (f:=fun i=>ks.getD i 0) (l:=List.range ks.length) (p:=pr);rw [Th] at e;exact e.symm
variable {ρ:St→St} {tt:TT} {te:TE} {σ:St} {Q:VK} {ks:List Nat}
theorem Tj{ob:Obj}(h:H a=some (.cP ob (.dK (dk ks))))(pr:Nat→Bool)(hl:ks.length<sizeLine)
  (test:∀k∈ks,∀(Hc:Hp) (R:Bool→Hp→Prop),af H Hc→R (pr k) Hc→tt (some (.int (k:Int))::ρ σ) Hc R)
  (step:∀k∈ks,∀(Hc:Hp) (R:VK),R (.int (k:Int)) Hc→te (some (.int (k:Int))::ρ σ) Hc R)
  (fin:∀D Hc,H D=none→af H Hc→Hc D=some (.lst ((ks.filter pr).map fun k:Nat=>V.int (k:Int)))→Q (.ref D) Hc):iD (fun _ H R=>R (tK a ob (dk ks)) H) ρ tt te σ H Q:=by
 have at':∀{i:Nat} {x:V},(ks.map fun k:Nat=>V.int (k:Int))[i]?=some x→i<ks.length∧x=.int ((ks.getD i 0:Nat):Int)∧ks.getD i 0∈ks:=fun{i x} hx=>by
  have hi:i<ks.length:=by have:=(bQ.mp hx).1;simpa using this
  rw [cx] at hx;simp [hi] at hx;rw [getD_at hi];exact ⟨hi,hx.symm,dj hi⟩
 refine JA (xs:=ks.map fun k:Nat=>V.int (k:Int)) (fun i=>pr (ks.getD i 0)) (fun R k=>k _ (by rw [←Tg];exact Tf h)) (by rw [aJ];exact hl) (fun _ i y _=>y=.int ((ks.getD i 0:Nat):Int)) (fun _ _ _ _ _ _ h _ _=>h) ?_ ?_ ?_
 ·intro i x hx Hc R sc hR
  obtain ⟨_,rfl,m⟩:=at' hx;exact test _ m Hc R sc hR
 ·intro D i x hx Hc R sc _ kc
  obtain ⟨_,rfl,m⟩:=at' hx;exact step _ m Hc R (kc _ Hc (af.refl _) rfl)
 ·intro D ys Hc nD sc ly hP eD
  refine fin D Hc nD sc ?_;rw [eD,←Ti ks pr,d5];rw [aJ] at ly hP
  congr 2
  refine fB (by simpa using ly) fun k h1 h2=>?_
  have h3:k<((List.range ks.length).filter fun i=>pr (ks.getD i 0)).length:=by simpa using h2
  rw [d8];exact hP k _ _ (b6 h1) (b6 h3)
theorem JR(p:ws.Perm (ks.map iN)):∃ms:List Nat,ws=ms.map iN∧ms.Perm ks:=by
 refine ⟨ws.map Int.toNat,?_,?_⟩
 ·rw [d5]
  conv=>lhs;rw [←List.map_id ws]
  refine de fun z hz=>?_
  obtain ⟨k,_,rfl⟩:=iT.mp (p.mem_iff.mp hz)
  show iN k=iN (Int.toNat (iN k))
  unfold iN
  rw [eJ]
 ·have:=p.map Int.toNat
  rw [d5] at this
  have e:ks.map (Int.toNat ∘ iN)=ks:=by
   conv=>rhs;rw [←List.map_id ks]
   exact de fun k _=>eJ k
  rw [e] at this
  exact this
structure dO (n:Nat) (o:List Nat) (p:Nat) (ms:List Nat):Prop where
 up:ms.Pairwise (· < ·)
 lt:∀q∈ms,q<n
 la:∀q∈ms,o.idxOf p<o.idxOf q
theorem Tn{ms:List Nat}(hk:lX n ks)(h:ms.Perm (ks.filter fun q=>decide (o.idxOf p<o.idxOf q)))(s:(ms.map iN).Pairwise (·≤·)):dO n o p ms:=by
 have m:∀q∈ms,q∈ks∧o.idxOf p<o.idxOf q:=fun q hq=>by have:=i8.mp (h.mem_iff.mp hq);exact ⟨this.1,by simpa using this.2⟩
 refine ⟨?_,fun q hq=>hk.2 q (m q hq).1,fun q hq=>(m q hq).2⟩;have nd:ms.Nodup:=h.nodup_iff.mpr (hk.1.filter _);rw [zk] at s;refine List.Pairwise.imp₂ (fun a b h1 h2=>?_) s nd;have h1:(a:Int)≤(b:Int):=h1;have h2:a≠b:=h2;lia
def tL(H:Hp)(D:Addr)(n:Nat)(rs:Nat→Addr)(g:Nat→List Nat):Prop:=H D=some (.lst ((List.range n).map fun p=>V.ref (rs p)))∧∀p,p<n→H (rs p)=some (.lst ((g p).map fun k:Nat=>V.int (k:Int)))
theorem To(h:mW zs n):∃o:List Nat,zs=o.map iN∧o.Perm (List.range n):=JR h
def jZ(rs:Nat→Addr)(p:Nat)(x:Addr):Nat→Addr:=fun q=>if q=p then x else rs q
theorem Tq(n:Nat)(rs:Nat→Addr)(p:Nat)(x:Addr):((List.range n).map fun q=>V.ref (rs q)).set p (.ref x)=(List.range n).map fun q=>V.ref (jZ rs p x q):=by
 refine fB (by simp) fun q h1 h2=>?_
 rw [List.getElem_set,d8,ig,d8,ig];unfold jZ;by_cases e:p=q
 ·subst e
  rw [ak rfl,ak rfl]
 ·rw [aj e,aj (Ne.symm e)]
variable {rs:Nat→Addr}
theorem JS:jZ rs p x p=x:=ak rfl
variable {q:Nat}
theorem Tr(h:q≠p):jZ rs p x q=rs q:=aj h
theorem Ts{x:List Nat}:gk f p x p=x:=ak rfl
theorem Tu{x:List Nat}(h:q≠p):gk f p x q=f q:=aj h
theorem cy{g:Nat→V}(h:p<n):iY ((List.range n).map g) (p:Int)=some (g p):=iZ (by rw [cx,ku h];rfl)
theorem Tv(o ks:List Nat)(p:Nat):(ks.filter fun q=>decide ((o.idxOf p:Int)<(o.idxOf q:Int)))=ks.filter fun q=>decide (o.idxOf p<o.idxOf q):=by refine List.filter_congr fun q _=>?_;rw [oO,wW,wW];lia
theorem tM(h:o.Perm (List.range n))(hp:p<n)(hq:q<n)(ne:p≠q):o.idxOf p≠o.idxOf q:=fun z=>by
 obtain ⟨h1,e1⟩:=cT ((bF h).mpr hp);obtain ⟨h2,e2⟩:=cT ((bF h).mpr hq);refine ne ?_;rw [←e1,←e2]
 congr 1
theorem Tx{wi:TI}(h:wi σ H fun J H1=>iD (fun _ H R=>R J H) ρ tt te σ H1 Q):iD wi ρ tt te σ H Q:=h
end My
namespace L2
open PySem PySem.Spec PyProof.Rows
section
variable {X:Cx} {pins:a9} {σ:St} {H:Hp} {s:Shared}
end
end L2
namespace My
open PySem L2
theorem Tz{n:Nat}{o:List Nat}(h:o.Perm (List.range n)){p:Nat}{ms:List Nat}(k:dO n o p ms):ms.length≤n-1-o.idxOf p:=by
 have nd:(ms.map fun q=>o.idxOf q-(o.idxOf p+1)).Nodup:=by rw [CU,zk];refine List.Pairwise.imp_of_mem (fun{a b} ha hb lt=>?_) k.up;have h1:=k.la a ha;have h2:=k.la b hb;have ne:=tM h (k.lt a ha) (k.lt b hb) (dC lt);lia
 have:=Ec (n:=n-1-o.idxOf p) nd (fun x hx=>by obtain ⟨q,hq,rfl⟩:=iT.mp hx;have h1:=k.la q hq;have h2:=(cT ((bF h).mpr (k.lt q hq))).1;rw [cw h] at h2;lia)
 rwa [aJ] at this
end My
namespace L2
open PySem PySem.Spec PyProof.Rows
end L2
namespace My
open PySem L2
def TB:Sp:=fun vs H Q _=>∃m:Nat,vs=[.int (m:Int)]∧m≤1000∧Q (.int ((m:Int)*m+3*m+1)) H
end My
namespace L2
open PySem PySem.Spec PyProof.Rows
end L2
namespace My
open PySem L2
end My
namespace L2
open PySem PySem.Spec PyProof.Rows
end L2
namespace My
open PySem L2
end My
namespace L2
open PySem PySem.Spec PyProof.Rows
end L2
namespace My
open PySem L2
variable {n:Nat} {cj:Nat→Nat→Prop} {dP:Nat→Prop} {s:Nat}
end My
namespace L2
open PySem PySem.Spec PyProof.Rows
end L2
namespace My
open PySem L2
end My
namespace L2
open PySem PySem.Spec PyProof.Rows
end L2
namespace My
open PySem L2
end My
namespace L2
open PySem PySem.Spec PyProof.Rows My
end L2
namespace My
open PySem L2
end My
namespace L2
open PySem PySem.Spec PyProof.Rows My
end L2
namespace My
open PySem L2
inductive Wk (cj:Nat→Nat→Prop) (dP:Nat→Prop) (s:Nat):Nat→Prop where
 | one {b:Nat}:cj s b→Wk cj dP s b
 | more {a b:Nat}:Wk cj dP s a→dP a→cj a b→Wk cj dP s b
section
variable {cj:Nat→Nat→Prop} {dP lY:Nat→Prop} {s t:Nat}
theorem Wk.mono(h:Wk cj dP s t)(k:∀x,dP x→lY x):Wk cj lY s t:=by
 induction h with
 | one ab=>exact .one ab
 | more _ o ab ih=>exact .more ih (k _ o) ab
theorem Wk.cons{a:Nat}(ab:cj s a)(ta:dP a)(h:Wk cj dP a t):Wk cj dP s t:=by
 induction h with
 | one e=>exact .more (.one ab) ta e
 | more _ o e ih=>exact .more ih o e
theorem Wk.symm(sy:∀a b,cj a b→cj b a)(h:Wk cj dP s t):Wk cj dP t s:=by
 induction h with
 | one ab=>exact .one (sy _ _ ab)
 | more _ o ab ih=>exact ih.cons (sy _ _ ab) o
variable {p:Nat}
theorem Wk.trans(h:Wk cj dP s p)(tp:dP p)(h':Wk cj dP p t):Wk cj dP s t:=by
 induction h' with
 | one ab=>exact .more h tp ab
 | more _ o ab ih=>exact .more ih o ab
theorem Wk.step(k:∀x,lY x↔dP x∨x=p):Wk cj lY s t↔Wk cj dP s t∨(Wk cj dP s p∧Wk cj dP p t):=by
 constructor
 ·intro h
  induction h with
  | one ab=>exact .inl (.one ab)
  | more _ o ab ih=>
   rcases (k _).mp o with o | rfl
   ·rcases ih with ih | ⟨i1,i2⟩
    ·exact .inl (.more ih o ab)
    ·exact .inr ⟨i1,.more i2 o ab⟩
   ·rcases ih with ih | ⟨i1,_⟩
    ·exact .inr ⟨ih,.one ab⟩
    ·exact .inr ⟨i1,.one ab⟩
 ·have m:∀x,dP x→lY x:=fun x h=>(k x).mpr (.inl h)
  rintro (h | ⟨h,h'⟩);·exact h.mono m
  ·exact (h.mono m).trans ((k p).mpr (.inr rfl)) (h'.mono m)
end
def aL(n:Nat)(L:bS)(a b:Nat):Prop:=a<n∧b<n∧(((a:Int),(b:Int))∈L∨((b:Int),(a:Int))∈L)
variable {n:Nat} {L:bS}
theorem Al(a b:Nat)(h:aL n L a b):aL n L b a:=⟨h.2.1,h.1,h.2.2.symm⟩
def Ee(L:bS):Prop:=∀p∈L,p.1≠p.2
def i4(n:Nat)(o:List Nat)(k x:Nat):Prop:=x<n∧o.idxOf x<k
def pY(n:Nat)(L:bS)(o:List Nat)(k:Nat)(f:Nat→List Nat):Prop:=∀a b:Nat,a<n→b<n→k≤o.idxOf a→k≤o.idxOf b→(b∈f a↔a≠b∧Wk (aL n L) (i4 n o k) a b)
variable {o:List Nat} {f:Nat→List Nat}
theorem pY.start(nb:mV n L f)(ns:Ee L):pY n L o 0 f:=fun a b ha hb _ _=>by
 rw [nb a b ha];constructor
 ·intro h
  refine ⟨fun e=>?_,.one ⟨ha,hb,h⟩⟩;subst e;rcases h with h | h <;> exact ns _ h rfl
 ·rintro ⟨_,h⟩
  cases h with
  | one ab=>exact ab.2.2
  | more _ o _=>exact absurd o.2 (oQ _)
variable {k:Nat} {ms:List Nat}
theorem pY.step(ho:o.Perm (List.range n)){p:Nat}{g:Nat→List Nat}(h:pY n L o k f)(hp:p<n)(ip:o.idxOf p=k)(hm:∀q,q∈ms↔q∈f p∧k<o.idxOf q)(ml:∀q∈ms,q<n)
  (con:∀a b:Nat,a<n→(b∈g a↔b∈f a∨(a≠b∧a∈ms∧b∈ms))):pY n L o (k+1) g:=fun a b ha hb ka kb=>by
 have th:∀x,i4 n o (k+1) x↔i4 n o k x∨x=p:=fun x=>by
  unfold i4;constructor
  ·rintro ⟨h1,h2⟩
   by_cases e:o.idxOf x=k
   ·right
    by_cases z:x=p;·exact z
    ·exact absurd (e.trans ip.symm) (tM ho h1 hp z)
   ·exact .inl ⟨h1,by lia⟩
  ·rintro (⟨h1,h2⟩ | rfl)
   ·exact ⟨h1,by lia⟩
   ·exact ⟨hp,by lia⟩
 have ap:a≠p:=fun e=>by subst e;lia
 have bp:b≠p:=fun e=>by subst e;lia
 have ea:=h p a hp ha (by lia) (by lia)
 have eb:=h p b hp hb (by lia) (by lia)
 rw [con a b ha,h a b ha hb (by lia) (by lia),hm a,hm b,ea,eb,Wk.step th]
 constructor
 ·rintro (⟨h1,h2⟩ | ⟨h1,⟨⟨_,h2⟩,_⟩,⟨_,h3⟩,_⟩)
  ·exact ⟨h1,.inl h2⟩
  ·exact ⟨h1,.inr ⟨h2.symm Al,h3⟩⟩
 ·rintro ⟨h1,h2 | ⟨h2,h3⟩⟩
  ·exact .inl ⟨h1,h2⟩
  ·exact .inr ⟨h1,⟨⟨Ne.symm ap,h2.symm Al⟩,by lia⟩,⟨Ne.symm bp,h3⟩,by lia⟩
def dD(n:Nat)(L:bS)(o:List Nat)(p:Nat)(ms:List Nat):Prop:=∀q,q∈ms↔q<n∧o.idxOf p<o.idxOf q∧Wk (aL n L) (i4 n o (o.idxOf p)) p q
def TC(N:Addr):Sp:=fun vs H Q E=>∃(t a:Addr) (n:Nat) (L:bS) (zs:List Int),vs=[.ref t,.ref a]∧D7 H t n L∧Ed n L∧Ee L∧n≤60∧H a=some (.lst (zs.map V.int))∧zs.length<64 ∧
 (¬mW zs n→∀H',af H H'→E (.ref N) none H') ∧
 ∀o:List Nat,zs=o.map iN→o.Perm (List.range n)→∀(H':Hp) (D:Addr) (rs:Nat→Addr) (g:Nat→List Nat),af H H'→H D=none→(∀p,p<n→H (rs p)=none)→tL H' D n rs g→(∀p,p<n→dO n o p (g p)∧dD n L o p (g p))→Q (.ref D) H'
def iJ(M:aQ):List Nat→Nat→Nat→Int
 | []=>fun _ _=>0
 | p::C=>aU (M p) (iJ M C)
def ar(M:aQ)(C:List Nat):Int:=aH C (iJ M C)
def ao(M:aQ)(C:List Nat)(f:Nat→Int):Nat→Int:=lV C (iJ M C) f
def aW(q:Int)(M:aQ):List Nat→Prop
 | []=>True
 | p::C=>aW q M C∧¬q∣ao M C (M p) p
section
variable {q:Int} {M:aQ} {C:List Nat} {p k:Nat} {f:Nat→Int}
theorem gR:ao M [] f k=f k:=Sf _ f k
theorem iK(hq:aZ q):∀{C:List Nat},aW q M C→¬q∣ar M C
 | [],_=>xT hq
 | _::_,h=>h.2
theorem mX{x:Int}(h:¬q∣x):x≠0:=fun e=>h (by rw [e];exact wY q)
theorem JT(hq:aZ q):∀{C:List Nat},aW q M C→tJ C (iJ M C)
 | [],_=>Sb _
 | _::_,h=>Sd (JT hq h.1) (mX (iK hq h.1)) (mX h.2)
theorem j4(hq:aZ q)(h:aW q M C)(p:Nat)(f:Nat→Int)(k:Nat):ao M C (M p) p*ao M C f k-ao M C f p*ao M C (M p) k=ar M C*ao M (p::C) f k:=Sh (JT hq h) f (M p) p k
variable {c:Nat}
theorem Am(h:c∈C):ao M C f c=0:=Sg _ f h
theorem pZ(hq:aZ q):∀{C:List Nat},aW q M C→∀r∈C,∀k,ao M C (M r) k=0
 | [],_,_,hr,_=>nomatch hr
 | p::C,h,r,hr,k=>by
  have d0:=mX (iK hq h.1);have e:=j4 hq h.1 p (M r) k;have z:ar M C*ao M (p::C) (M r) k=0:=by
   rcases c_.mp hr with rfl | hr;·rw [←e];exact mr _
   ·rw [←e,pZ hq h.1 r hr k,pZ hq h.1 r hr p,fc,eY,mr]
  exact (oV.mp z).resolve_left d0
theorem JU:∀(C:List Nat) (i:Nat),i<C.length→iJ M C i=M (C.getD i 0)
 | _::_,0,_=>rfl
 | _::C,i+1,h=>JU C i (Nat.lt_of_succ_lt_succ h)
theorem JV(M:aQ)(C:List Nat)(f:Nat→Int):∃y:Nat→Int,∀k,ao M C f k=ar M C*f k+a7 C.length fun i=>M (C.getD i 0) k*y i:=⟨fun i=>-(sgn i)*aH C (aU f (bO i (iJ M C))),fun k=>by
 unfold ao lV;rw [jx k C f (iJ M C)]
 congr 1
 exact gE fun i hi=>by rw [JU C i hi]⟩
theorem JW:∀{C:List Nat} {R:aQ} {e e':Nat→Int},(∀c∈C,e c=e' c)→aH C (aU e R)=aH C (aU e' R)
 | [],_,_,_,_=>rfl
 | k::C,R,e,e',h=>by
  rw [jx,jx,h k (hZ ..)]
  congr 1
  exact gE fun i hi=>by rw [JW (C:=C) fun c hc=>h c (fA _ hc)]
theorem Ef:∀{C:List Nat},C≠[]→∀{R:aQ} (a b:Int) (e e':Nat→Int),aH C (aU (fun k=>a*e k+b*e' k) R)=a*aH C (aU e R)+b*aH C (aU e' R)
 | [],h,_,_,_,_,_=>absurd rfl h
 | k::C,_,R,a,b,e,e'=>by
  rw [jx,jx,jx];by_cases z:C=[]
  ·subst z
   show _+0=a*(_+0)+b*(_+0);grind
  ·have s:(a7 C.length fun i=>R i k*(-(sgn i)*aH C (aU (fun k=>a*e k+b*e' k) (bO i R))))=a*(a7 C.length fun i=>R i k*(-(sgn i)*aH C (aU e (bO i R))))+b*a7 C.length fun i=>R i k*(-(sgn i)*aH C (aU e' (bO i R))):=by rw [jw,jw,←pV];exact gE fun i _=>by rw [Ef z a b e e'];grind
   rw [s];grind
def dl(c:Nat):Nat→Int:=fun k=>if k=c then 1 else 0
theorem JX{C:List Nat}(hC:C≠[]){R:aQ}{f:Nat→Int}:∀{l:List Nat},l.Nodup→aH C (aU (fun k=>if k∈l then f k else 0) R)=(l.map fun c=>f c*aH C (aU (dl c) R)).sum
 | [],_=>by
  have:=Ef hC (R:=R) 0 0 (fun _=>0) (fun _=>0);rw [show (fun k=>if k∈([]:List Nat) then f k else 0)=fun k=>0*(fun _:Nat=>(0:Int)) k+0*(fun _:Nat=>(0:Int)) k from funext fun k=>by simp,this]
  simp
 | c::l,nd=>by
  rw [jG] at nd;rw [cG,cK,←JX hC nd.2];have:=Ef hC (R:=R) (f c) 1 (dl c) (fun k=>if k∈l then f k else 0)
  rw [nF] at this;rw [←this]
  congr 1
  congr 1
  funext k
  unfold dl;by_cases e:k=c
  ·subst e
   simp [nd.1]
  ·by_cases h:k∈l <;> simp [e,h]
def cg(M:aQ)(C:List Nat)(n c:Nat):Int:=-aH (n::C) (aU (dl c) (iJ M C))
theorem JY(nd:C.Nodup)(hn:n∉C):ao M C f n=ar M C*f n-(C.map fun c=>f c*cg M C n c).sum:=by
 have hC:n::C≠[]:=List.cons_ne_nil _ _;have e1:ao M C f n=((n::C).map fun c=>f c*aH (n::C) (aU (dl c) (iJ M C))).sum:=by rw [←JX hC (jG.mpr ⟨hn,nd⟩)];unfold ao lV;exact JW fun c hc=>by rw [ak hc]
 have e2:aH (n::C) (aU (dl n) (iJ M C))=ar M C:=by
  rw [jx];have:(a7 C.length fun i=>iJ M C i n*(-(sgn i)*aH C (aU (dl n) (bO i (iJ M C)))))=0:=by rw [←xP C.length];refine gE fun i hi=>?_;rw [Jw (e:=dl n) _ (fun z=>by rw [z] at hi;exact absurd hi (oQ _)) fun x hx=>aj (fun z:x=n=>hn (z▸hx)),fc,fc]
  rw [this];unfold dl ar;simp
 rw [e1,cG,cK,e2];have e3:((C.map fun c=>f c*aH (n::C) (aU (dl c) (iJ M C))).sum)=-(C.map fun c=>f c*cg M C n c).sum:=by
  have gen:∀(w:Nat→Int) (l:List Nat),(l.map fun c=>f c*w c).sum=-(l.map fun c=>f c * -w c).sum:=fun w l=>by
   induction l with
   | nil=>rfl
   | cons x l ih=>rw [cG,cK,cG,cK,ih];grind
  exact gen (fun c=>aH (n::C) (aU (dl c) (iJ M C))) C
 rw [e3,dM];lia
theorem Eg(hq:aZ q)(g:aW q M C)(nd:C.Nodup)(hn:n∉C){r:Nat}(hr:r∈C):(C.map fun c=>M r c*cg M C n c).sum=ar M C*M r n:=by have:=JY (M:=M) (f:=M r) nd hn;rw [pZ hq g r hr n] at this;lia
theorem lZ(a:Int)(F:Nat→Int):∀l:List Nat,(l.map fun c=>a*F c).sum=a*(l.map F).sum
 | []=>(fc a).symm
 | x::l=>by rw [cG,cK,cG,cK,lZ a F l,Int.mul_add]
theorem xW(F G:Nat→Int):∀l:List Nat,(l.map fun c=>F c+G c).sum=(l.map F).sum+(l.map G).sum
 | []=>rfl
 | x::l=>by rw [cG,cK,cG,cK,cG,cK,xW F G l];lia
theorem Eh(F:aQ):∀(m:Nat) (l:List Nat),(l.map fun c=>a7 m fun i=>F i c).sum=a7 m fun i=>(l.map (F i)).sum
 | m,[]=>(xP m).symm
 | m,x::l=>by rw [cG,cK,Eh F m l,←pV];exact gE fun i _=>by rw [cG,cK]
theorem JZ(hq:aZ q)(g:aW q M C)(nd:C.Nodup)(hn:n∉C){C':List Nat}(sub:∀r∈C',r∈C)(hp:p∈C):(C.map fun c=>ao M C' (M p) c*cg M C n c).sum=ar M C*ao M C' (M p) n:=by
 obtain ⟨y,hy⟩:=JV M C' (M p);have e:(fun c=>ao M C' (M p) c*cg M C n c)=fun c=>ar M C'*(M p c*cg M C n c)+a7 C'.length fun i=>y i*(M (C'.getD i 0) c*cg M C n c):=by
  funext c
  rw [hy c,Int.add_mul,ja,dM (a7 _ _),jw]
  congr 1
  exact gE fun i _=>by grind
 rw [e,xW,lZ,Eg hq g nd hn hp,Eh];have e2:(a7 C'.length fun i=>(C.map fun c=>y i*(M (C'.getD i 0) c*cg M C n c)).sum)=ar M C*a7 C'.length fun i=>M (C'.getD i 0) n*y i:=by
  rw [jw];refine gE fun i hi=>?_;have mem:C'.getD i 0∈C':=by rw [gX,b6 hi];exact dj hi
  rw [lZ,Eg hq g nd hn (sub _ mem)];grind
 rw [e2,hy n];grind
theorem ox(hq:aZ q){n:Nat}{cj:Nat→Nat→Prop}(zero:∀a b,a<n→b<n→a≠b→¬cj a b→M a b=0):∀{C:List Nat},aW q M C→(∀c∈C,c<n)→∀i j,i<n→j<n→i∉C→j∉C→i≠j→¬Wk cj (·∈C) i j→ao M C (M i) j=0
 | [],_,_,i,j,li,lj,_,_,ij,nw=>by rw [gR];exact zero i j li lj ij fun z=>nw (.one z)
 | p::C,g,lc,i,j,li,lj,hi,hj,ij,nw=>by
  rw [c_,not_or] at hi hj;have lp:=lc p (hZ ..);have Ei:∀c∈C,c<n:=fun c hc=>lc c (fA _ hc);have st:=Wk.step (cj:=cj) (dP:=(·∈C)) (lY:=(·∈p::C)) (s:=i) (t:=j) (p:=p) fun x=>by rw [c_];exact Or.comm
  rw [st,not_or] at nw;have e:=j4 hq g.1 p (M i) j;rw [ox hq zero g.1 Ei i j li lj hi.2 hj.2 ij nw.1,fc] at e;have z:ao M C (M i) p*ao M C (M p) j=0:=by
   by_cases pC:p∈C;·rw [Am pC,eY]
   ·by_cases w:Wk cj (·∈C) i p
    ·rw [ox hq zero g.1 Ei p j lp lj pC hj.2 (Ne.symm hj.1) fun z=>nw.2 ⟨w,z⟩,fc]
    ·rw [ox hq zero g.1 Ei i p li lp hi.2 pC hi.1 w,eY]
  rw [z] at e;exact (oV.mp (show ar M C*ao M (p::C) (M i) j=0 by lia)).resolve_left (mX (iK hq g.1))
theorem An{B:Nat}(hB:∀i k,(M i k).natAbs≤B):∀(C:List Nat) (i k:Nat),(iJ M C i k).natAbs≤B
 | [],_,_=>b_ _
 | p::_,0,k=>hB p k
 | _::C,i+1,k=>An hB C i k
theorem J0{B:Nat}{R:aQ}(hf:∀k,(f k).natAbs≤B)(hR:∀i k,(R i k).natAbs≤B):∀i k,(aU f R i k).natAbs≤B
 | 0,k=>hf k
 | i+1,k=>hR i k
variable {B:Nat}
theorem TF(hB:∀i k,(M i k).natAbs≤B)(hf:∀k,(f k).natAbs≤B):(ao M C f k).natAbs≤hU (C.length+1)*B ^ (C.length+1):=Ai (k::C) _ (J0 hf (An hB C))
theorem TH(hB:∀i k,(M i k).natAbs≤B):(ar M C).natAbs≤hU C.length*B ^ C.length:=Ai C _ (An hB C)
theorem TJ(b1:1≤B)(hB:∀i k,(M i k).natAbs≤B):(cg M C n c).natAbs≤hU (C.length+1)*B ^ (C.length+1):=by unfold cg;rw [nE];exact Ai (n::C) _ (J0 (fun k=>by unfold dl;split;exact b1;exact b_ _) (An hB C))
end
def aO(B:Nat)(H:Hp)(q:Int)(v:V)(T U:Int):Prop:=∃x m:Int,bj B H q v x m∧q∣x*U-T*m∧¬q∣U
section
variable {B Y:Nat} {H H':Hp} {q:Int} {v u:V} {T U T' U':Int}
theorem aO.mono(h:aO B H q v T U)(s:af H H'):aO B H' q v T U:=let ⟨x,m,h1,h2⟩:=h;⟨x,m,h1.mono s,h2⟩
theorem aO.eq(hq:aZ q)(h:aO B H q v T U)(e:Cg q (T*U') (T'*U))(nu:¬q∣U'):aO B H q v T' U':=by
 obtain ⟨x,m,h1,h2,h3⟩:=h;refine ⟨x,m,h1,?_,nu⟩;have c:Cg q (U*(x*U'-T'*m)) 0:=by
  have a:Cg q (U'*(x*U)) (U'*(T*m)):=Cg.mulL U' h2;have b:Cg q (m*(T*U')) (m*(T'*U)):=Cg.mulL m e;have d:=a.trans ((Cg.of_eq (by grind)).trans b)
  have d2:=d.sub (Cg.refl (m*(T'*U)));exact (Cg.of_eq (by grind)).trans (d2.trans (Cg.of_eq (by lia)))
 have:=xU hq h3 c;unfold Cg at this
 rwa [kB] at this
theorem aO.bd(h:aO B H q v T U)(bt:T.natAbs≤Y)(bu:U.natAbs≤Y):aO Y H q v T U:=by
 obtain ⟨x,m,h1,h2,h3⟩:=h;cases h1 with
 | rem a b c=>exact ⟨_,_,.rem a b c,h2,h3⟩
 | bU e l bx bm=>
  have h2:=jc.mp h2;have U0:U≠0:=fun z=>h3 (by rw [z];exact jb 0)
  have le:m≤(U.natAbs:Int)∧x.natAbs≤T.natAbs:=by
   by_cases up:0<U
   ·have:=tE l up (show x*U=T*m by lia)
    exact ⟨by lia,this.2⟩
   ·have:=tE l (show 0 < -U by lia) (show x * -U=-T*m by rw [lC,sj];lia)
    rw [nE] at this;exact ⟨by lia,this.2⟩
  have mp:=l.pos;exact ⟨x,m,.bU e l (by lia) (by lia),by rw [h2];exact jb 0,h3⟩
theorem Ao(hq:aZ q)(h:aO B H q v T U):q∣T↔∃x m,bj B H q v x m∧x=0:=by
 obtain ⟨x,m,h1,h2,h3⟩:=h;constructor
 ·intro d
  refine ⟨x,m,h1,?_⟩;have c:Cg q (U*x) 0:=by
   have:q∣x*U:=by
    have:=si h2 (zl (c:=m) d)
    rwa [Int.sub_add_cancel] at this
   unfold Cg;rw [kB,dM];exact this
  have:=xU hq h3 c;unfold Cg at this;rw [kB] at this;cases h1 with
  | bU=>exact jc.mp this
  | rem a b c=>
   obtain ⟨k,hk⟩:=this;have:k=0:=by
    rcases Int.lt_trichotomy k 0 with z | z | z
    ·have:q*k≤q*(-1):=se (by lia) (by lia)
     lia
    ·exact z
    ·have:q*1≤q*k:=se (by lia) (by lia)
     lia
   rw [hk,this,fc]
 ·rintro ⟨x',m',tF,rfl⟩
  have e:x=0:=by
   cases h1 with
   | bU e l=>
    cases tF with
    | bU e' l'=>rw [e] at e';cases e';rfl
   | rem=>cases tF;rfl
  subst e;have:q∣T*m:=by have:=h2;rw [eY,oT] at this;exact Int.dvd_neg.mp this
  cases h1 with
  | bU e l=>
   have:=jc.mp this;have mp:=l.pos;have:T=0:=(oV.mp this).resolve_right (by lia)
   rw [this];exact jb 0
  | rem=>rwa [fW] at this
end
section
variable {H:Hp} {q:Int} {v u:V} {T U T' U':Int} {C N z:Addr} {Q:VK} {E:XK}
theorem Ap{B:Nat}{x m:Int}(h:bj B H q v x m)(b:B≤10 ^ 300):cb x∧cb m∧1≤m:=by
 cases h with
 | bU e l bx bm=>exact ⟨bE bx b,bE bm b,l.pos⟩
 | rem h0 h1 h2=>exact ⟨bE (show _≤997 by lia) (by decide +kernel),by unfold cb;decide +kernel,by decide⟩
variable {X Y Y':Nat}
theorem J1{fr:Int→Int→Int→Int→Int}{rm:Int→Int→Int}(hw:fJ C H z q)(hq:aZ q)(hv:aO X H q v T U)(hu:aO Y H q u T' U')(bX:X≤10 ^ 300)(bY:Y≤10 ^ 300)(top bot:Int)
  (hf:∀x m y n,q∣x*U-T*m→q∣y*U'-T'*n→q∣fr x m y n*bot-top*(m*n)) (hr:∀x y,fr x 1 y 1=rm x y) (nb:¬q∣bot) (bt:top.natAbs≤Y') (bb:bot.natAbs≤Y')
  (k:∀(v':V) (H':Hp),af H H'→aO Y' H' q v' top bot→Q v' H'):kW C fr rm [.ref z,v,u] H Q E:=by
 obtain ⟨x,m,h1,h2,h3⟩:=hv
 obtain ⟨y,n,g1,g2,g3⟩:=hu
 obtain ⟨a1,a2,a3⟩:=Ap h1 bX
 obtain ⟨b1,b2,b3⟩:=Ap g1 bY
 have key:=hf x m y n h2 g2
 refine ⟨z,q,v,u,rfl,hw,?_⟩
 cases h1 with
 | bU e l bx bm=>
  cases g1 with
  | bU e' l' Ej zX=>
   refine .inl ⟨rfl,_,_,x,m,y,n,rfl,rfl,e,e',l,l',a1,a2,b1,b2,fun r' H' a d s' er la ea=>k _ H' s' ?_⟩
   have key:=jc.mp key
   have mn:m*n≠0:=Int.ne_of_gt (Int.mul_pos (by lia) (by lia))
   have ew:a*bot=top*d:=by
    refine CQ mn ?_
    have:fr x m y n*bot=top*(m*n):=by omega
    calc a*bot*(m*n)=a*(m*n)*bot:=by grind
     _=fr x m y n*d*bot:=by rw [ea]
     _=fr x m y n*bot*d:=by grind
     _=top*(m*n)*d:=by rw [this]
     _=top*d*(m*n):=by grind
   have W:aO (a.natAbs+d.natAbs) H' 0 (.ref r') top bot:=⟨a,d,.bU er la (by lia) (by lia),by rw [ew,mr];exact jb 0,nb⟩
   exact W.bd bt bb
  | rem h0 h1 h2=>lia
 | rem h0 tF pO=>
  cases g1 with
  | bU e' l' Ej zX=>lia
  | rem g0 g1 Ek=>
   have pN:2≤q:=by rcases hq with h | h <;> lia
   refine .inr ⟨pN,x,y,rfl,rfl,h0,by lia,k _ H (af.refl _) ⟨_,1,.rem (gY _ (by lia)) (h_ _ (by lia)) pO,?_,nb⟩⟩
   rw [fW,fW] at key
   rw [hr] at key
   rw [fW]
   have c:Cg q (rm x y % q*bot) (rm x y*bot):=(DZ q _).mulR bot
   exact c.trans key
theorem El(hw:fJ C H z q)(hq:aZ q)(hv:aO X H q v T U)(hu:aO Y H q u T' U')(bX:X≤10 ^ 300)(bY:Y≤10 ^ 300)(nb:¬q∣U*U')(bt:(T*U'-T'*U).natAbs≤Y')(bb:(U*U').natAbs≤Y')
  (k:∀(v':V) (H':Hp),af H H'→aO Y' H' q v' (T*U'-T'*U) (U*U')→Q v' H'):kW C (fun x m y n=>x*n-y*m) (fun i j=>i-j) [.ref z,v,u] H Q E:=
 J1 hw hq hv hu bX bY _ _ (fun x m y n h1 h2=>by obtain ⟨a,ha⟩:=h1;obtain ⟨b,hb⟩:=h2;exact ⟨n*U'*a-m*U*b,by grind⟩) (fun x y=>by rw [fW,fW]) nb bt bb k
theorem Em(hw:fJ C H z q)(hq:aZ q)(hv:aO X H q v T U)(hu:aO Y H q u T' U')(bX:X≤10 ^ 300)(bY:Y≤10 ^ 300)(nb:¬q∣U*U')(bt:(T*T').natAbs≤Y')(bb:(U*U').natAbs≤Y')
  (k:∀(v':V) (H':Hp),af H H'→aO Y' H' q v' (T*T') (U*U')→Q v' H'):kW C (fun x m y n=>x*y) (fun i j=>i*j) [.ref z,v,u] H Q E:=
 J1 hw hq hv hu bX bY _ _ (fun x m y n h1 h2=>by obtain ⟨a,ha⟩:=h1;obtain ⟨b,hb⟩:=h2;exact ⟨y*U'*a+T*m*b,by grind⟩) (fun x y=>rfl) nb bt bb k
theorem fR(hq:aZ q){a b:Int}(ha:¬q∣a)(hb:¬q∣b):¬q∣a*b:=fun d=>hb (by
 have:=xU hq ha (show Cg q (a*b) 0 by unfold Cg;rwa [kB])
 unfold Cg at this
 rwa [kB] at this)
theorem J2(hw:fJ C H z q)(hq:aZ q)(hv:aO X H q v T U)(hu:aO Y H q u T' U')(bX:X≤10 ^ 300)(bY:Y≤10 ^ 300)(nt:¬q∣T')(bt:(T*U').natAbs≤Y')(bb:(U*T').natAbs≤Y')
  (k:∀(v':V) (H':Hp),af H H'→aO Y' H' q v' (T*U') (U*T')→Q v' H'):Ab C N [.ref z,v,u] H Q E:=by
 have ny:∀{y n},bj Y H q u y n→q∣y*U'-T'*n→¬q∣U'→y≠0:=fun{y n} g1 g2 g3 e=>nt ((Ao hq ⟨y,n,g1,g2,g3⟩).mpr ⟨y,n,g1,e⟩)
 obtain ⟨x,m,h1,h2,h3⟩:=hv
 obtain ⟨y,n,g1,g2,g3⟩:=hu
 have y0:=ny g1 g2 g3
 obtain ⟨a1,a2,a3⟩:=Ap h1 bX
 obtain ⟨b1,b2,b3⟩:=Ap g1 bY
 have nb:=fR hq h3 nt
 refine ⟨z,q,v,u,rfl,hw,?_⟩
 cases h1 with
 | bU e l bx bm=>
  cases g1 with
  | bU e' l' Ej zX=>
   refine .inl ⟨rfl,_,_,x,m,y,n,rfl,rfl,e,e',l,l',a1,a2,b1,b2,fun z=>absurd z y0,fun _ r' H' a d s' er la ea=>k _ H' s' ?_⟩
   have h2:=jc.mp h2
   have g2:=jc.mp g2
   have my:m*y≠0:=fun z=>(oV.mp z).elim (fun z=>by lia) y0
   have ew:a*(U*T')=T*U'*d:=by
    refine CQ (a:=m*y) my ?_
    have e1:x*U=T*m:=by lia
    have e2:T'*n=y*U':=by lia
    calc a*(U*T')*(m*y)=a*(m*y)*(U*T'):=by grind
     _=x*n*d*(U*T'):=by rw [ea]
     _=x*U*(T'*n)*d:=by grind
     _=T*m*(y*U')*d:=by rw [e1,e2]
     _=T*U'*d*(m*y):=by grind
   have W:aO (a.natAbs+d.natAbs) H' 0 (.ref r') (T*U') (U*T'):=⟨a,d,.bU er la (by lia) (by lia),by rw [ew,mr];exact jb 0,nb⟩
   exact W.bd bt bb
  | rem h0 h1 h2=>lia
 | rem h0 tF pO=>
  cases g1 with
  | bU e' l' Ej zX=>lia
  | rem g0 g1 Ek=>
   have fG:2≤q∧q≤997∧hJ q=true:=by rcases hq with h | h;lia;exact h
   refine .inr ⟨fG.1,x,y,rfl,rfl,fG.2.1,fG.2.2,h0,tF,g0,g1,fun z=>absurd z y0,fun _ r r0 r1 er=>k _ H (af.refl _) ⟨r,1,.rem r0 r1 pO,?_,nb⟩⟩
   have c1:Cg q (r*y) x:=by
    have:=DZ q (r*y)
    rw [er] at this
    exact this.symm
   have c2:Cg q (x*U) (T*1):=h2
   have c3:Cg q (y*U') (T'*1):=g2
   rw [fW] at c2 c3 ⊢
   have e1:Cg q (r*(U*T')) (r*U*(y*U')):=(Cg.of_eq (by grind)).trans ((c3.symm).mulL (r*U))
   have e2:Cg q (r*U*(y*U')) (x*(U*U')):=(Cg.of_eq (show r*U*(y*U')=r*y*(U*U') by grind)).trans (c1.mulR (U*U'))
   have e3:Cg q (x*(U*U')) (T*U'):=(Cg.of_eq (show x*(U*U')=x*U*U' by grind)).trans (c2.mulR U')
   exact e1.trans (e2.trans e3)
end
def az(o:List Nat):List V:=o.map fun k:Nat=>V.int (k:Int)
structure WTab (H:Hp) (a:Addr) (n:Nat) (rs:Nat→Addr) (vf:Nat→Nat→V):Prop where
 lst:H a=some (.lst ((List.range n).map fun i=>V.ref (rs i)))
 inj:∀i j,i<n→j<n→rs i=rs j→i=j
 ne:∀i,i<n→rs i≠a
 at':∀i,i<n→H (rs i)=some (.lst ((List.range n).map (vf i)))
def l4(vf:Nat→Nat→V)(i j:Nat)(w:V):Nat→Nat→V:=fun i' j'=>if i'=i∧j'=j then w else vf i' j'
variable {j:Nat} {w:V}
theorem map_set{f:Nat→V}:((List.range n).map f).set j w=(List.range n).map fun j'=>if j'=j then w else f j':=by
 refine fB (by simp) fun i h1 h2=>?_
 rw [List.getElem_set];simp;by_cases e:j=i;·subst e;simp
 ·rw [aj e,aj (Ne.symm e)]
section
variable {H H':Hp} {a:Addr} {n:Nat} {rs:Nat→Addr} {vf:Nat→Nat→V}
theorem WTab.cf(h:WTab H a n rs vf)(k:∀b o,(b=a∨∃i,i<n∧b=rs i)→H b=some o→H' b=some o):WTab H' a n rs vf:=
 ⟨k _ _ (.inl rfl) h.lst,h.inj,h.ne,fun i hi=>k _ _ (.inr ⟨i,hi,rfl⟩) (h.at' i hi)⟩
theorem WTab.mono(h:WTab H a n rs vf)(s:af H H'):WTab H' a n rs vf:=h.cf fun b o _ e=>s b o e
theorem WTab.put(h:WTab H a n rs vf){i:Nat}(w:V)(hi:i<n):WTab (upd H (rs i) (.lst (((List.range n).map (vf i)).set j w))) a n rs (l4 vf i j w):=by
 refine ⟨by rw [aK (Ne.symm (h.ne i hi))];exact h.lst,h.inj,h.ne,fun i' fm=>?_⟩
 by_cases e:i'=i
 ·subst e
  rw [aA,map_set]
  congr 2
  refine de fun j' _=>?_;unfold l4;simp
 ·rw [aK (fun z=>e (h.inj i' i fm hi z)),h.at' i' fm]
  congr 2
  refine de fun j' _=>?_;unfold l4;simp [e]
end
structure J3 (q:Int) (X n p:Nat) (ms:List Nat) (T U T' U':aQ):Prop where
 mY:¬q∣T p p
 nz:∀i j,i<n→j<n→¬q∣U' i j
 bt:∀i j,i<n→j<n→(T' i j).natAbs≤X∧(U' i j).natAbs≤X
 low:∀i∈ms,Cg q (T i p*U p p*U' i p) (T' i p*(U i p*T p p))
 ent:∀i∈ms,∀j∈ms,Cg q ((T i j*(U' i p*U p j)-T' i p*T p j*U i j)*U' i j) (T' i j*(U i j*(U' i p*U p j)))
 xX:∀i j,i<n→j<n→(i∉ms∨(j≠p∧j∉ms))→Cg q (T i j*U' i j) (T' i j*U i j)
def fo(X:Nat)(H:Hp)(q:Int)(n:Nat)(vf:Nat→Nat→V)(T U:aQ):Prop:=∀i j,i<n→j<n→aO X H q (vf i j) (T i j) (U i j)
def fS(n:Nat)(rs:Nat→Addr)(H H':Hp):Prop:=∀b o,(∀i,i<n→b≠rs i)→H b=some o→H' b=some o
def TK(C:Addr):Sp:=fun vs H Q _=>∃(z a b:Addr) (q:Int) (n X p:Nat) (rs:Nat→Addr) (vf:Nat→Nat→V) (ms:List Nat) (T U T' U':aQ),vs=[.ref z,.ref a,.int (p:Int),.ref b]∧fJ C H z q∧aZ q∧WTab H a n rs vf∧H b=some (.lst (az ms))∧(∀i,i<n→b≠rs i∧z≠rs i)∧p<n∧(∀m∈ms,m<n∧m≠p)∧ms.Nodup∧n≤60∧1000≤X∧X≤10 ^ 100∧fo X H q n vf T U∧(∀i j,i<n→j<n→(T i j).natAbs≤X∧(U i j).natAbs≤X)∧J3 q X n p ms T U T' U' ∧
 ∀(H':Hp) (i5:Nat→Nat→V),fS n rs H H'→WTab H' a n rs i5→fo X H' q n i5 T' U'→Q .aV H'
def jz(D:Nat→Nat→Bool)(T T':aQ):Nat→Nat→Int:=fun i j=>if D i j then T' i j else T i j
theorem fS.refl(n:Nat)(rs:Nat→Addr)(H:Hp):fS n rs H H:=fun _ _ _ e=>e
variable {rs:Nat→Addr} {H H1:Hp}
theorem fS.same{H2:Hp}(h:fS n rs H H1)(s:af H1 H2):fS n rs H H2:=fun b o nb e=>s _ _ (h b o nb e)
variable {i:Nat}
theorem fS.put{o:HO}(h:fS n rs H H1)(hi:i<n):fS n rs H (upd H1 (rs i) o):=fun b u nb e=>by rw [aK (nb i hi)];exact h b u nb e
theorem int_at{x:V}(h:(az ms)[k]?=some x):∃i:Nat,ms[k]?=some i∧x=.int (i:Int):=by
 unfold az at h;rw [cx] at h;cases e:ms[k]? with
 | none=>rw [e] at h;cases h
 | some i=>rw [e] at h;exact ⟨i,rfl,(Option.some.inj h).symm⟩
theorem Aq(nd:ms.Nodup)(h:ms[k]?=some i):i∉ms.take k:=fun z=>by have h2:=(wI (k+1) ms).nodup nd;rw [take_snoc h,List.nodup_append] at h2;exact h2.2.2 i z i (iR.mpr rfl) rfl
variable {D:Nat→Nat→Bool} {T T':aQ}
theorem fK(h:D i j=true):jz D T T' i j=T' i j:=by unfold jz;rw [ak h]
theorem eC(h:D i j=false):jz D T T' i j=T i j:=by unfold jz;rw [h];rfl
variable {X:Nat} {q:Int} {vf:Nat→Nat→V} {U U':aQ}
theorem fo.put{H':Hp}(h:fo X H q n vf T U)(k:∀v t u,aO X H q v t u→aO X H' q v t u)(hw:aO X H' q w (T' i j) (U' i j))(o:∀i' j',i'<n→j'<n→¬(i'=i∧j'=j)→T' i' j'=T i' j'∧U' i' j'=U i' j'):fo X H' q n (l4 vf i j w) T' U':=fun i' j' fm fq=>by
 unfold l4;by_cases e:i'=i∧j'=j
 ·rw [ak e,e.1,e.2]
  exact hw
 ·rw [aj e,(o i' j' fm fq e).1,(o i' j' fm fq e).2]
  exact k _ _ _ (h i' j' fm fq)
theorem fo.to(h:fo X H q n vf T U)(o:∀i' j',i'<n→j'<n→T' i' j'=T i' j'∧U' i' j'=U i' j'):fo X H q n vf T' U':=fun i j hi hj=>by rw [(o i j hi hj).1,(o i j hi hj).2];exact h i j hi hj
theorem fo.J4(hq:aZ q)(h:fo X H q n vf T U)(o:∀i j,i<n→j<n→(T' i j=T i j∧U' i j=U i j)∨(Cg q (T i j*U' i j) (T' i j*U i j)∧¬q∣U' i j∧(T' i j).natAbs≤X∧(U' i j).natAbs≤X)):fo X H q n vf T' U':=fun i j hi hj=>by
 rcases o i j hi hj with ⟨e1,e2⟩ | ⟨e1,e2,e3,e4⟩
 ·rw [e1,e2]
  exact h i j hi hj
 ·exact ((h i j hi hj).eq hq e1 e2).bd e3 e4
theorem aO.put{v:V}{t u:Int}{b:Addr}{xs:List V}{o:HO}(h:aO X H q v t u)(e:H b=some (.lst xs)):aO X (upd H b o) q v t u:=by
 obtain ⟨x,m,h1,h2⟩:=h;refine ⟨x,m,?_,h2⟩;cases h1 with
 | bU e' l bx bm=>exact .bU (by rw [aK (fun z=>by rw [z,e] at e';cases e')];exact e') l bx bm
 | rem a b c=>exact .rem a b c
end My
namespace L2
open PySem PySem.Spec PyProof.Rows
section
variable {X:Cx} {a b:Expr} {rest:List Expr} {pos:Pos} {ta tb:TE}
end
end L2
namespace My
open PySem L2
end My
namespace L2
open PySem PySem.Spec PyProof.Rows
section
variable {prog:Program} {w:World} {A:Around} {E:aN} {s:Shared}
end
section
variable {prog:Program} {w:World} {A:Around} {E:aN} {s:Shared}
end
section
variable {X:Cx}
end
section
variable {prog:Program} {w:World} {A:Around} {E:aN} {s:Shared}
end
end L2
namespace My
open PySem L2
end My
namespace L2
open PySem PySem.Spec PyProof.Rows
end L2
namespace My
open PySem L2
end My
namespace L2
open PySem PySem.Spec PyProof.Rows
section
variable {X:Cx}
def TL:V→List V→Hp→VK→Prop:=fun x vs H Q=>∃(l:Addr) (zs:List Int) (j:Nat) (z:Int),x=.ref l∧vs=[.int z]∧H l=some (.lst (zs.map V.int))∧zs.length≤1000∧zs[j]?=some z∧(∀m,m<j→zs[m]?≠some z)∧Q (.int (j:Int)) H
theorem En:xx X "list.index" TL:=by
 intro pins s σ H x vs v us Q I rx rv h;obtain ⟨l,zs,j,z,rfl,rfl,hH,l1,hj,TM,q⟩:=h;cases rx;obtain ⟨u,rfl,ru⟩:=rv.one;obtain ⟨t,rfl⟩:=ru;obtain ⟨sz,ai,n,r,hl,e⟩:=I.mL hH;have hjl:j<zs.length:=(bQ.mp hj).1;rw [aJ] at hl sz;have at':∀m (hm:m<ai.toArray.size),∃t',ai.toArray[m]=.int (zs.getD m 0) t':=fun m hm=>by
  have gj:m<zs.length:=by simp at hm;lia
  obtain ⟨w,hw,kL⟩:=r.get (i:=m) (x:=.int (zs.getD m 0)) (by rw [cx,gX,b6 gj];rfl)
  obtain ⟨t',rfl⟩:=kL;exact ⟨t',by simpa using (bQ.mp hw).2⟩
 have zj:zs.getD j 0=z:=by rw [gX,hj];rfl
 refine oP F.slot_list_index ⟨_,e,rfl⟩ F.entry_list_index (F.args_list_index_2 _ _) (MeetsSeq.list_index l ai.toArray n (.int z t) (fun v=>numOf v == z) (fun y hy=>?_) j (by rw [cI];lia) (by lia) ?_ (fun m hm TN=>?_)) ⟨e,?_⟩
 ·obtain ⟨m,hm,rfl⟩:=Array.getElem_of_mem hy
  obtain ⟨t',e'⟩:=at' m hm;rw [e'];exact MeetsSeq.EqGives.int _ _ _ _
 ·obtain ⟨t',e'⟩:=at' j (by rw [cI];lia)
  rw [e',zj];exact r_ z
 ·obtain ⟨t',e'⟩:=at' m hm
  rw [e'];have gj:m<zs.length:=by simp at hm;lia
  have:=TM m TN;rw [b6 gj] at this;have ne:zs.getD m 0≠z:=fun q=>this (by rw [←q,gX,b6 gj];rfl)
  show (zs.getD m 0 == z)=false;simpa using ne
 ·exact ⟨.int (j:Int),H,I.tok _,⟨_,rfl⟩,q⟩
end
end L2
namespace My
open PySem L2
end My
namespace L2
open PySem
section
variable {prog:Program} {w:World} {A:Around} {E:aN} {s:Shared}
end
end L2
namespace My
open PySem L2
end My
namespace L2
open PySem PySem.Spec PyProof.Rows My
theorem J5{wi:TI}{ρ:St→St}{tt:TT}{te:TE}{σ:St}{H:Hp}{Q:VK}{xs:List V}(c:V→Bool)(kY:∀R:It→Hp→Prop,(∀J H1,af H H1→mQ J xs H1→R J H1)→wi σ H R)(hn:xs.length<sizeLine)
  (test:∀x∈xs,∀(Hc:Hp) (R:Bool→Hp→Prop),af H Hc→R (c x) Hc→tt (some x::ρ σ) Hc R)
  (elem:∀(x:V) (Hc:Hp) (R:VK),R x Hc→te (some x::ρ σ) Hc R)
  (fin:∀D Hc,H D=none→af H Hc→Hc D=some (.lst (xs.filter c))→Q (.ref D) Hc):iD wi ρ tt te σ H Q:=by
 refine kY _ fun J H1 s1 js=>?_;intro D nD;refine ⟨fun i m ys Hc=>m=xs.length-i∧i≤xs.length∧Hc D=some (.lst ys)∧af H1 Hc∧ys.length≤i∧ys=(xs.take i).filter c,⟨_,rfl,b_ _,aA,jv (af.refl H1) nD,aG _,rfl⟩,?_⟩;rintro i m ys Hc ⟨rfl,hi,eD,sH,ly,hP⟩;refine ⟨eD,?_⟩;by_cases bV:i<xs.length
 ·refine .inr ⟨js.go i Hc sH bV,fun x H' hy=>?_⟩
  obtain ⟨rfl,hx⟩:=js.f_ i Hc x H' sH hy;have ex:=hx bV;have mx:x∈xs:=fZ ex;have tk:xs.take (i+1)=xs.take i++[x]:=by rw [nG,ex];rfl
  refine test x mx _ _ (s1.trans sH) ?_;by_cases hb:c x=true
  ·rw [ak hb]
   refine elem x _ _ ⟨eD,by lia,xs.length-(i+1),by lia,rfl,bV,aA,jv sH nD,by simp;lia,?_⟩
   rw [tk,oW,←hP,List.filter_cons,ak hb];rfl
  ·rw [aj hb]
   refine ⟨xs.length-(i+1),by lia,rfl,bV,eD,sH,by lia,?_⟩
   rw [tk,oW,←hP,List.filter_cons,aj hb,List.filter_nil,lz]
 ·have e:i=xs.length:=by lia
  subst e;rw [kA] at hP;subst hP;exact .inl ⟨js.stop _ Hc sH (aG _),fin D Hc (none_of s1 nD) (s1.trans sH) eD⟩
end L2
namespace My
open PySem L2
section
variable {P a d:Addr} {H Hc:Hp} {n m:Nat} {L:bS}
end
section
variable {n:Nat} {E:Nat→Nat→Prop} {pos rk:Nat→Nat}
end
open PySem PySem.W PyProof.Rows Tm
section
variable {prog:Program} {w:World} {A:Around} {E:aN} {s:Shared}
end
open PySem PySem.W PyProof.Rows
section
variable {prog:Program} {w:World} {A:Around} {E:aN} {s:Shared}
end
end My
namespace L2
open PySem PySem.W PyProof.Rows My
end L2
namespace My
open PySem PySem.W PyProof.Rows
section
variable {prog:Program} {w:World} {A:Around} {E:aN} {s:Shared} {R:Result→Shared→Prop}
def j6(s:Shared)(h:Heap):Prop:=∀b o,s.heap.get? b=some o→h.get? b=some o
end
open PySem PySem.W PyProof.Rows L2
theorem TQ(a:Value):argsOk "min" ⟨[a],[]⟩:=by unfold argsOk;kernel_rfl
section
variable {prog:Program} {w:World} {A:Around} {s:Shared}
end
end My
namespace L2
open PySem PySem.W PyProof.Rows My
end L2
namespace My
open PySem L2
end My
namespace L2
open PySem PySem.Spec PyProof.Rows My
end L2
namespace My
open PySem L2
end My
namespace L2
open PySem
section
variable {prog:Program} {w:World} {A:Around} {E:aN} {s:Shared}
end
open PySem PySem.Spec PyProof.Rows My
end L2
namespace My
open PySem L2
end My
namespace L2
open PySem PySem.W PyProof.Rows
section
variable {prog:Program} {w:World} {A:Around} {E:aN} {s:Shared}
end
open AutoSeq1 (wpAny_loadPart')
section
variable {prog:Program} {w:World} {A:Around} {E:aN} {s:Shared}
end
end L2
namespace My
open PySem L2
end My
namespace L2
open PySem PySem.Spec PyProof.Rows My
end L2
namespace My
open PySem L2
open PySem L2 Classical
theorem aF{a b:TS}{D:Ends}{σ:St}{H:Hp}(h:∀R:St→Hp→Prop,(∀σ H,b D σ H→R σ H)→a {D with nx:=R} σ H):C9 a b D σ H:=h _ fun _ _ h=>h
end My
namespace L2
open PySem PySem.Spec PyProof.Rows
end L2
namespace My
open PySem L2 Classical
open PySem L2
structure j7 (n:Nat) (L L':bS) (f:Nat→Nat):Prop where
 lt:∀k,k<n→f k<n
 inj:∀j k,j<n→k<n→f j=f k→j=k
 tN:∀x,x<n→∃k,k<n∧f k=x
 cj:∀j k,j<n→k<n→(aL n L' (f j) (f k)↔aL n L j k)
end My
namespace L2
open PySem PySem.Spec PyProof.Rows My
section
variable {X:Cx}
end
end L2
namespace My
open PySem L2
end My
namespace L2
open PySem PySem.Spec PyProof.Rows My
end L2
namespace My
open PySem L2
def sV(s:String):V:=.str (Str.ofString s)
end My
namespace L2
open PySem PySem.Spec PyProof.Rows
section
variable {prog:Program} {w:World} {A:Around} {E:aN} {s:Shared}
end
open AutoSeq1 (wpAny_loadPart')
section
variable {prog:Program} {w:World} {A:Around} {E:aN} {s:Shared}
end
section
variable {prog:Program} {w:World} {A:Around} {E:aN} {s:Shared}
end
section
variable {X:Cx}
end
open PySem PySem.Spec PyProof.Rows My
end L2
namespace My
open PySem L2
def bW(H:Hp)(T:Addr):Prop:=∃x:Int,H T=some (.lst [.int x])
def aX(T:Addr)(H H':Hp):Prop:=∀b o,b≠T→H b=some o→H' b=some o
variable {T:Addr} {H H1:Hp}
theorem aX.trans{H2:Hp}(a:aX T H H1)(b:aX T H1 H2):aX T H H2:=fun c o n e=>b c o n (a c o n e)
theorem aX.of(a:af H H1):aX T H H1:=fun c o _ e=>a c o e
theorem aX.upd{o:HO}:aX T H (L2.upd H T o):=fun c u n e=>(aK n).trans e
theorem bW.mono(h:bW H T)(a:af H H1):bW H1 T:=let ⟨x,e⟩:=h;⟨x,a _ _ e⟩
theorem bW.ne{b:Addr}(h:bW H T)(n:H b=none):b≠T:=fun z=>by obtain ⟨x,e⟩:=h;rw [z,e] at n;cases n
def TR(K:aC):Sp:=fun vs H Q _=>∃(a:Addr) (ns:List Int) (k:Nat),vs=[.ref a,.int (k:Int)]∧bZ K H a (ns.map V.int)∧∀z:Int,Q (.int z) H
def TU(K:aC):Sp:=fun vs H Q _=>∃(a:Addr) (ns:List Int) (k:Nat),vs=[.ref a,.int (k:Int)]∧bZ K H a (ns.map V.int)∧k≤1000∧∀(T:Addr) (H':Hp),af H H'→H T=none→bW H' T→Q (.ref T) H'
def TV:Sp:=fun vs H Q _=>∃(T:Addr) (m:Nat),vs=[.ref T,.int (m:Int)]∧bW H T∧1≤m∧m≤1000∧∀(d:Nat) (H':Hp),d<m→aX T H H'→bW H' T→Q (.int (d:Int)) H'
theorem aX.refl(T:Addr)(H:Hp):aX T H H:=fun _ _ _ e=>e
end My
namespace L2
open PySem
end L2
namespace My
open PySem L2
def oy(m:Nat):Nat:=m*m+3*m+1
end My
namespace L2
open PySem
variable {X:Cx}
def TY:V→List V→Hp→VK→Prop:=fun x vs H Q=>∃l xs,∃k:Nat,∃i:Int,∃y,x=.ref l∧vs=[.int i,y]∧i=(k:Int)∧H l=some (.lst xs)∧k≤xs.length∧xs.length≤1000∧Q .aV (upd H l (.lst (xs.take k++y::xs.drop k)))
theorem TZ:xx X "list.insert" TY:=by
 intro pins s σ H x vs v us Q I rx rv h;obtain ⟨l,xs,k,i,y,rfl,rfl,hi,hH,hk,hz,q⟩:=h;cases rx;obtain ⟨u,w,rfl,ru,kL⟩:=rv.two;obtain ⟨t,rfl⟩:=ru;obtain ⟨z,ai,n,r,hl,e⟩:=I.mL hH;have l1:1001≤sizeLine:=by decide +kernel
 have lx:=r.length;have hf:¬(!Builtin.List.listFitsIndex i)=true:=by
  rw [fitsIndex_both (k:=i) (by lia) (by lia)]
  exact dI
 have hs:ai.toArray.size≤sizeLine:=by rw [cI];lia
 have M:=@AutoSeq1.list_insert_list_int_val_1 l ai.toArray n i t w hf hs;refine oP F.slot_list_insert ⟨_,e,rfl⟩ F.entry_list_insert (@F.args_list_insert_3 _ _ _) M ⟨e,?_⟩;refine ⟨.aV,_,I.zS (its':=ai.take k++w::ai.drop k) hH e ?_ ((r.take k).append (.cons kL (r.drop k))) ?_,rfl,q⟩
 ·have e1:¬(i<0):=by lia
  have e2:min i.toNat ai.length=k:=by lia
  simp only [aj e1,cI,e2];apply Array.ext';simp;rw [kC (by simp)]
 ·rw [gu,fY,kr,List.length_drop]
  lia
open PySem PySem.Spec PyProof.Rows
section
variable {prog:Program} {w:World} {A:Around} {E:aN} {s:Shared}
end
section
variable {X:Cx} {tg:Expr}
end
section
variable {prog:Program} {w:World} {K:Type} [DecidableEq K] {knd:HeapKind prog w K} {A:Around} {E:aN} {s:Shared}
end
section
variable {prog:Program} {w:World} {A:Around} {E:aN} {s:Shared}
end
section
variable {X:Cx} {pins:a9} {σ:St} {H:Hp} {s:Shared}
end
section
variable {X:Cx} {tg:Expr}
end
open PySem PySem.W PyProof.Rows My
end L2
namespace My
open PySem L2
end My
namespace L2
open PySem
end L2
namespace My
end My
namespace L2
open PySem PySem.Spec PyProof.Rows
open PySem PySem.Spec PyProof.Rows PySem.W
open PySem PySem.Spec PyProof.Rows PySem.W Att
section
variable {prog:Program} {w:World} {A:Around} {E:aN} {s:Shared}
end
section
variable {X:Cx}
end
end L2
namespace My
open PySem L2
def nI(o:List Nat):List V:=o.map fun k:Nat=>V.int (k:Int)
def gF(n:Nat)(g:Nat→List Nat):Nat:=((List.range n).map fun x=>oy (g x).length).sum
def T5:Sp:=fun vs H Q _=>∃(T:Addr) (n:Nat),vs=[.ref T,.int (n:Int)]∧bW H T∧n≤60∧∀(D:Addr) (o:List Nat) (H':Hp),aX T H H'→bW H' T→H D=none→H' D=some (.lst (nI o))→o.Perm (List.range n)→Q (.ref D) H'
section
variable {n:Nat} {cj:Nat→Nat→Prop} {dP:Nat→Prop} {p q:Nat}
end
theorem tO{n:Nat}{o:List Nat}(ho:o.Perm (List.range n)){k x:Nat}:x∈o.take k↔i4 n o k x:=by
 have nd:=fk ho;constructor
 ·intro h
  obtain ⟨i,hi,e⟩:=List.getElem_of_mem h;rw [kr] at hi;rw [List.getElem_take] at e;subst e;exact ⟨(bF ho).mp (dj _),by rw [hV nd];lia⟩
 ·rintro ⟨h1,h2⟩
  obtain ⟨hk,e⟩:=cT ((bF ho).mpr h1);have:o.idxOf x<(o.take k).length:=by rw [kr];lia
  have:=dj this
  rwa [List.getElem_take,e] at this
def cO(o:List Nat)(k:Nat):List Nat:=(o.take k).reverse
def sT(M:aQ)(D:Nat→Int)(o:List Nat)(k i j:Nat):Int:=
 if k≤o.idxOf i∧k≤o.idxOf j then ao M (cO o k) (M i) j else if o.idxOf i≤o.idxOf j then ao M (cO o (o.idxOf i)) (M i) j else ao M (cO o (o.idxOf j)) (M i) j*D j
def sU(M:aQ)(D:Nat→Int)(o:List Nat)(k i j:Nat):Int:=
 if k≤o.idxOf i∧k≤o.idxOf j then D i*ar M (cO o k) else if o.idxOf i≤o.idxOf j then D i*ar M (cO o (o.idxOf i)) else D i*ar M (cO o (o.idxOf j+1))
section
variable {q:Int} {M:aQ} {D:Nat→Int} {o:List Nat} {n k:Nat}
theorem mZ(h:k<o.length):cO o (k+1)=o[k]::cO o k:=by unfold cO;rw [nG,b6 h];simp
theorem ck(ho:o.Perm (List.range n)){x:Nat}:x∈cO o k↔i4 n o k x:=by unfold cO;rw [List.mem_reverse];exact tO ho
theorem j8(h:aW q M (cO o k)):∀{j:Nat},j≤k→aW q M (cO o j):=by
 have go:∀d j,j+d=k→aW q M (cO o j):=fun d=>by
  induction d with
  | zero=>intro j e;rw [show j=k by lia];exact h
  | succ d ih=>
   intro j e;have:=ih (j+1) (by lia)
   by_cases hl:j<o.length
   ·rw [mZ hl] at this
    exact this.1
   ·have e:cO o j=cO o (j+1):=by unfold cO;rw [kC (by lia),kC (by lia)]
    rw [e];exact this
 exact fun{j} hj=>go (k-j) j (by lia)
theorem T6(hq:aZ q){L:bS}{ms:List Nat}{X p:Nat}(ho:o.Perm (List.range n))(hp:p<n)(ip:o.idxOf p=k)(g:aW q M (cO o k))(mY:¬q∣ao M (cO o k) (M p) p)(hD:∀i,¬q∣D i)
  (zero:∀a b,a<n→b<n→a≠b→¬aL n L a b→M a b=0) (dQ:dD n L o p ms) (bd:∀k i j,k≤n→(sT M D o k i j).natAbs≤X∧(sU M D o k i j).natAbs≤X):J3 q X n p ms (sT M D o k) (sU M D o k) (sT M D o (k+1)) (sU M D o (k+1)):=by
 have lo:=cw ho;have J6:=fk ho;have kl:k<o.length:=by rw [←ip];exact (cT ((bF ho).mpr hp)).1
 have kn:k<n:=by lia
 have pk:o[k]=p:=by have:=(cT ((bF ho).mpr hp)).2;simp only [ip] at this;exact this
 have cs:cO o (k+1)=p::cO o k:=by rw [mZ kl,pk]
 have g':aW q M (cO o (k+1)):=by rw [cs];exact ⟨g,mY⟩
 have dz:∀j,j≤k+1→¬q∣ar M (cO o j):=fun j hj=>iK hq (j8 g' hj);have mlt:∀{i},i∈ms→i<n∧k<o.idxOf i:=fun{i} h=>by have:=(dQ i).mp h;rw [ip] at this;exact ⟨this.1,this.2.1⟩
 have xY:ar M (cO o (k+1))=ao M (cO o k) (M p) p:=by rw [cs];rfl
 have step:∀i j,ao M (cO o k) (M p) p*ao M (cO o k) (M i) j-ao M (cO o k) (M i) p*ao M (cO o k) (M p) j=ar M (cO o k)*ao M (cO o (k+1)) (M i) j:=fun i j=>by rw [cs];exact j4 hq g p (M i) j
 have cf:∀{i},i<n→k<o.idxOf i→i∉ms→ao M (cO o k) (M i) p=0∧ao M (cO o k) (M p) i=0:=fun{i} hi hk nm=>by
  have nc:i∉cO o k:=fun z=>by have:=((ck ho).mp z).2;lia
  have pc:p∉cO o k:=fun z=>by have:=((ck ho).mp z).2;lia
  have ne:p≠i:=fun z=>by rw [←z] at hk;lia
  have nw:¬Wk (aL n L) (·∈cO o k) p i:=fun z=>nm ((dQ i).mpr ⟨hi,by lia,by rw [ip];exact z.mono fun x hx=>(ck ho).mp hx⟩)
  have lc:∀c∈cO o k,c<n:=fun c hc=>((ck ho).mp hc).1;exact ⟨ox hq zero g lc i p hi hp nc pc (Ne.symm ne) fun z=>nw (z.symm Al),ox hq zero g lc p i hp hi pc nc ne nw⟩
 have tp:∀j,k≤o.idxOf j→sT M D o k p j=ao M (cO o k) (M p) j∧sU M D o k p j=D p*ar M (cO o k):=fun j hj=>by
  unfold sT sU;rw [ak ⟨by lia,hj⟩,ak ⟨by lia,hj⟩]
  exact ⟨rfl,rfl⟩
 have tk:∀i j,k≤o.idxOf i→k≤o.idxOf j→sT M D o k i j=ao M (cO o k) (M i) j∧sU M D o k i j=D i*ar M (cO o k):=fun i j hi hj=>by unfold sT sU;rw [ak ⟨hi,hj⟩,ak ⟨hi,hj⟩];exact ⟨rfl,rfl⟩
 have fh:∀i j,k+1≤o.idxOf i→k+1≤o.idxOf j→sT M D o (k+1) i j=ao M (cO o (k+1)) (M i) j∧sU M D o (k+1) i j=D i*ar M (cO o (k+1)):=fun i j hi hj=>by unfold sT sU;rw [ak ⟨hi,hj⟩,ak ⟨hi,hj⟩];exact ⟨rfl,rfl⟩
 have xZ:∀i,k<o.idxOf i→sT M D o (k+1) i p=ao M (cO o k) (M i) p*D p∧sU M D o (k+1) i p=D i*ar M (cO o (k+1)):=fun i hi=>by
  unfold sT sU;rw [aj (by lia),aj (by lia),aj (by lia),aj (by lia),ip]
  exact ⟨rfl,rfl⟩
 refine ⟨?_,fun i j _ _=>?_,fun i j _ _=>bd (k+1) i j kn,fun i hi=>?_,fun i hi j hj=>?_,fun i j cC fv h=>?_⟩
 ·rw [(tp p (by lia)).1]
  exact mY
 ·unfold sU
  split
  ·exact fR hq (hD i) (dz _ (by lia))
  ·rename_i h1
   split
   ·exact fR hq (hD i) (dz _ (by lia))
   ·exact fR hq (hD i) (dz _ (by lia))
 ·have h1:=(mlt hi).2
  rw [(tk i p (by lia) (by lia)).1,(tk i p (by lia) (by lia)).2,(tp p (by lia)).1,(tp p (by lia)).2,(xZ i h1).1,(xZ i h1).2,xY]
  exact Cg.of_eq (by grind)
 ·have h1:=(mlt hi).2
  have h2:=(mlt hj).2;rw [(tk i j (by lia) (by lia)).1,(tk i j (by lia) (by lia)).2,(tp j (by lia)).1,(tp j (by lia)).2,(xZ i h1).1,(xZ i h1).2,(fh i j (by lia) (by lia)).1,(fh i j (by lia) (by lia)).2]
  have st:=step i j;rw [←xY] at st;generalize ao M (cO o k) (M i) j=x at st ⊢;generalize ao M (cO o k) (M i) p=y at st ⊢;generalize ao M (cO o k) (M p) j=w at st ⊢;generalize ao M (cO o (k+1)) (M i) j=x' at st ⊢;generalize ar M (cO o k)=d at st ⊢;generalize ar M (cO o (k+1))=d' at st ⊢;refine Cg.of_eq ?_;have e:(x*(D i*d'*(D p*d))-y*D p*w*(D i*d))*(D i*d')=D i*D p*d*(d'*x-y*w)*(D i*d'):=by grind
  rw [e,st];grind
 ·by_cases h1:k<o.idxOf i∧k<o.idxOf j
  ·rw [(tk i j (by lia) (by lia)).1,(tk i j (by lia) (by lia)).2,(fh i j (by lia) (by lia)).1,(fh i j (by lia) (by lia)).2]
   have st:=step i j;rw [←xY] at st;have z:ao M (cO o k) (M i) p*ao M (cO o k) (M p) j=0:=by
    rcases h with h | ⟨_,h⟩;·rw [(cf cC h1.1 h).1,eY]
    ·rw [(cf fv h1.2 h).2,fc]
   rw [z,kB] at st;exact Cg.of_eq (by grind)
  ·by_cases h2:k<o.idxOf i∧o.idxOf j=k
   ·have ej:j=p:=wV fun z=>tM ho fv hp z (by lia)
    subst ej;have nm:i∉ms:=by
     rcases h with h | ⟨h,_⟩;·exact h
     ·exact absurd rfl h
    rw [(tk i j (by lia) (by lia)).1,(xZ i h2.1).1,(cf cC h2.1 nm).1]
    exact Cg.of_eq (by simp)
   ·have e:sT M D o (k+1) i j=sT M D o k i j∧sU M D o (k+1) i j=sU M D o k i j:=by
     by_cases h3:o.idxOf i=k∧k≤o.idxOf j
     ·have a1:¬(k+1≤o.idxOf i∧k+1≤o.idxOf j):=by lia
      have a2:o.idxOf i≤o.idxOf j:=by lia
      have a3:k≤o.idxOf i∧k≤o.idxOf j:=by lia
      unfold sT sU;rw [aj a1,ak a2,ak a3,aj a1,ak a2,ak a3,h3.1];exact ⟨rfl,rfl⟩
     ·have a1:¬(k+1≤o.idxOf i∧k+1≤o.idxOf j):=by lia
      have a2:¬(k≤o.idxOf i∧k≤o.idxOf j):=by lia
      unfold sT sU;rw [aj a1,aj a2,aj a1,aj a2];exact ⟨rfl,rfl⟩
    rw [e.1,e.2];exact Cg.refl _
end
end My
namespace L2
open PySem PySem.Spec PyProof.Rows
def x5(K:aC)(a:Addr)(n:Nat):It:=
 ⟨fun i H=>i<n∧∃xs,bZ K H a xs∧xs.length=n,fun i H x H'=>H'=H∧∀xs,bZ K H a xs→xs[n-1-i]?=some x,fun i H=>n≤i⟩
theorem T7{P:Program}{w:World}{K:aC}{tg:Expr}(a it:Addr)(n:Nat):Turn P w K tg (x5 K a n) [it] it (fun i h=>i≤n∧h.IsRevIter it a ((n:Int)-1-i)) where
 mem:=by simp
 obj:=fun i h st b hb=>by
  have e:b=it:=by simpa using hb
  subst e;obtain ⟨_,o,e,c,d⟩:=st;exact ⟨o,e,fun v z=>by rw [d] at z;cases z⟩
 keep:=fun i h h' st k=>⟨st.1,by obtain ⟨_,o,e,c,d⟩:=st;exact ⟨o,k it (by simp) o e,c,d⟩⟩
 item:=by
  intro X hP hw hK hc i pins s σ H E I hf st hg;subst hP hw hK;obtain ⟨il,xs,hq,hx⟩:=hg;obtain ⟨ai,rv,p,hz⟩:=I.list hq;have hl:=rv.length;have hi:n-1-i<xs.length:=by lia
  obtain ⟨u,hu,ru⟩:=rv.get (b6 hi);obtain ⟨f0,f1,f2,f3,f4,f5⟩:=hf it (by simp)
  have Eo:s.heap.IsRevIter it a ((n-1-i:Nat):Int):=by
   have:=st.2
   rwa [show (n:Int)-1-(i:Int)=((n-1-i:Nat):Int) by lia] at this
  refine wpAny_pyNext_rev_item Eo p.isList (x:=u) (by simpa using hu) fun h' gM sb=>?_
  have I1:Inv X pins σ H {s with heap:=h'}:=I.turned (t':=s.toks) (fun b o hb e=>(sb.2 b hb).trans e) f0 f1 f3 f4 f5;obtain ⟨o,e,c,d⟩:=id gM;have e8:i+1≤n∧h'.IsRevIter it a ((n:Int)-1-((i+1:Nat):Int)):=⟨by lia,by rwa [show (n:Int)-1-((i+1:Nat):Int)=((n-1-i:Nat):Int)-1 by lia]⟩
  exact ⟨u,rfl,sC (s:={s with heap:=h'}) e c d (by decide) ⟨xs[n-1-i],H,I1,ru,⟨rfl,fun ys hy=>by rw [I.C7 hy hq];exact b6 hi⟩,e8,fun b hb=>(hf b hb).1⟩⟩
 done:=by
  intro X hP hw hK hc i pins s σ H E I hf st hg;subst hP hw hK;have hg:n≤i:=hg;obtain ⟨f0,f1,f2,f3,f4,f5⟩:=hf it (by simp)
  have Eo:s.heap.IsRevIter it a (-1):=by
   have:=st.2
   rwa [show (n:Int)-1-(i:Int)=-1 by have:=st.1;lia] at this
  exact wpAny_pyNext_rev_end (I.ok.hd hc) Eo fun h' eb=>⟨rfl,I.turned (t':=s.toks) (fun b o hb e=>eb b o hb e) f0 f1 f3 f4 f5⟩
 self:=fun _ _ _ _ _ st h=>wpAny_pyIter_revIter st.2 h
section
variable {X:Cx} {tg:Expr}
def T8(K:aC)(ta:TA):TI:=fun σ H R=>ta σ H fun vs H1=>∃(l:Addr) (xs:List V),vs=[.ref l]∧bZ K H1 l xs∧R (x5 K l xs.length) H1
theorem T9{a:Expr}{ta:TA}{p pos:Pos}(hg:Gl X "reversed")(hm:X.mg "reversed"=none)(ha:PA X [a] ta)(hs:starEach [a] X.env=[(false,eval a X.env)]:=by rfl):PI X tg (.Call (.Name "reversed" p) [a] [] pos) (T8 X.K ta):=by
 intro pins s σ H R I h;refine Call_ (nN I hg hm boot_reversed (rZ (aR (ha pos pins s σ H _ I h) fun us s1 ⟨vs,H1,I1,r1,q1⟩=>?_) hs rfl));obtain ⟨l,xs,e,hq,q⟩:=q1;subst e;cases r1 with
 | cons r rr=>
  cases rr;cases r;obtain ⟨ai,rv,pl,hz⟩:=I1.list hq;have hl:=rv.length;refine call_reversed_list pl.isList ?_;refine wpAny_pyIter_revIter (i:=(ai.toArray.size:Int)-1) ⟨_,eX _ rfl,rfl,rfl⟩ ?_;refine ⟨s1.heap.objs.size,[s1.heap.objs.size],_,_,H1,rfl,I1.kept (t':=s1.toks) fun b o e=>cF _ e,T7 l _ xs.length,⟨b_ _,_,eX _ rfl,rfl,?_⟩,fun b hb=>?_,q⟩
  ·rw [hl,cI,show ((ai.length:Int)-1-((0:Nat):Int))=(ai.length:Int)-1 by lia]
   rfl
  ·have e:b=s1.heap.objs.size:=by simpa using hb
   subst e;exact I1.pB (aG _) (I1.aD.fresh (aG _))
theorem T_{K:aC}{a:Addr}{xs:List V}{g:TG}{tb:TS}{D:Ends}{σ:St}{H:Hp}(Pv:Nat→St→Hp→Prop)(h0:Pv 0 σ H)(hl:∀i σ H,i≤xs.length→Pv i σ H→bZ K H a xs)
  (hs:∀i x σ H,i<xs.length→xs[xs.length-1-i]?=some x→Pv i σ H→g x σ H fun σ2 H2=>tb {D with nx:=Pv (i+1),ct:=Pv (i+1),bk:=D.nx} σ2 H2) (hd:∀σ H,Pv xs.length σ H→D.nx σ H) :
  ∃W:Nat→Nat→St→Hp→Prop,(∃m,W 0 m σ H)∧∀i m σ H,W i m σ H→
   ((x5 K a xs.length).stop i H∧D.nx σ H)∨((x5 K a xs.length).go i H∧∃N:St→Hp→Prop,(∀σ' H',N σ' H'→∃m',m'<m∧W (i+1) m' σ' H')∧∀x H',(x5 K a xs.length).f_ i H x H'→g x σ H' fun σ2 H2=>tb {D with nx:=N,ct:=N,bk:=D.nx} σ2 H2):=by
 refine ⟨fun i m σ H=>m=xs.length-i∧i≤xs.length∧Pv i σ H,⟨xs.length,by simp,b_ _,h0⟩,?_⟩
 rintro i m σ H ⟨rfl,hi,p⟩;have q1:=hl i σ H hi p;by_cases bV:i<xs.length
 ·refine .inr ⟨⟨bV,xs,q1,rfl⟩,Pv (i+1),fun σ' H' p'=>⟨xs.length-(i+1),by lia,rfl,bV,p'⟩,fun v H' hy=>?_⟩
  obtain ⟨rfl,hy⟩:=hy;exact hs i v σ H' bV (hy xs q1) p
 ·have e:i=xs.length:=by lia
  subst e;exact .inl ⟨aG _,hd σ H p⟩
end
end L2
namespace My
open PySem L2
structure Ar (q:Int) (n X:Nat) (au:g7) (o:List Nat) (M:aQ) (D:Nat→Int):Prop where
 oz:∀i j,i<n→j<n→q∣(atT au i j).1*D i-M i j*(atT au i j).2
 dn:∀i,¬q∣D i
 zero:∀i j,i<n→j<n→(atT au i j).1=0→M i j=0
 bd:∀k i j,k≤n→(sT M D o k i j).natAbs≤X∧(sU M D o k i j).natAbs≤X
 X1:1000≤X
 gG:X≤10 ^ 100
structure Ep (H0 H:Hp) (q:Int) (n X:Nat) (L:bS) (o:List Nat) (M:aQ) (D:Nat→Int) (k:Nat) (wk ot:Addr) (rs:Nat→Addr) (vf:Nat→Nat→V) (ls:Nat→Addr) (g:Nat→List Nat):Prop where
 tab:WTab H wk n rs vf
 new:H0 wk=none∧∀i,i<n→H0 (rs i)=none
 oz:fo X H q n vf (sT M D o k) (sU M D o k)
 dQ:tL H ot n ls g
 ok:∀p,p<n→dO n o p (g p)∧dD n L o p (g p)
 sep:(∀i,i<n→ot≠rs i∧∀j,j<n→ls j≠rs i)
def Ua(C N:Addr):Sp:=fun vs H Q _=>∃(z a d:Addr) (q:Int) (B X n:Nat) (au:g7) (o:List Nat) (M:aQ) (D:Nat→Int),vs=[.ref z,.ref a,.ref d]∧fJ C H z q∧aZ q∧kZ B H q a au∧B≤10 ^ 100∧au.length=n∧1≤n∧n≤40∧(∀ps∈au,ps.length=n)∧H d=some (.lst (az o))∧o.Perm (List.range n)∧Ar q n X au o M D ∧
 (∀(k:Nat) (hk:k<o.length),aW q M (cO o k)→q∣ao M (cO o k) (M o[k]) o[k]→∀(tp wk ot:Addr) (H':Hp) (rs ls:Nat→Addr) (vf:Nat→Nat→V) (g:Nat→List Nat),af H H'→H' tp=some (.tup [.ref wk,.ref ot,.int ((k:Int)+1)])→Ep H H' q n X (b7 n (bf au) n) o M D k wk ot rs vf ls g→Q (.ref tp) H') ∧
 (aW q M (cO o n)→∀(tp wk ot:Addr) (H':Hp) (rs ls:Nat→Addr) (vf:Nat→Nat→V) (g:Nat→List Nat),af H H'→H' tp=some (.tup [.ref wk,.ref ot,.aV])→Ep H H' q n X (b7 n (bf au) n) o M D n wk ot rs vf ls g→Q (.ref tp) H')
section
variable {H:Hp} {q:Int} {a:Addr} {B n:Nat} {au:g7}
theorem Ub(h:kZ B H q a au)(l:au.length=n)(w:∀ps∈au,ps.length=n):∃(ra:Nat→Addr) (vf:Nat→Nat→V),H a=some (.lst ((List.range n).map fun i=>V.ref (ra i)))∧(∀i,i<n→H (ra i)=some (.lst ((List.range n).map (vf i))))∧∀i j,i<n→j<n→bj B H q (vf i j) (atT au i j).1 (atT au i j).2:=by
 obtain ⟨vs,ea,lv,f⟩:=h;have row:∀i,i<n→∃(r:Addr) (us:List V),vs[i]?=some (.ref r)∧H r=some (.lst us)∧us.length=n∧∀j,j<n→bj B H q (us.getD j .aV) (atT au i j).1 (atT au i j).2:=fun i hi=>by
  have hv:i<vs.length:=by lia
  have hp:i<au.length:=by lia
  obtain ⟨r,er,us,eu,lu,fu⟩:=f i vs[i] au[i] (b6 hv) (b6 hp);have lw:=w _ (dj hp);refine ⟨r,us,by rw [b6 hv,er],eu,by lia,fun j hj=>?_⟩
  have hu:j<us.length:=by lia
  have hr:j<(au[i]).length:=by lia
  have:=fu j us[j] au[i][j] (b6 hu) (b6 hr);unfold atT;rw [getD_at hp,getD_at hr,getD_at hu];exact this
 refine ⟨fun i=>if h:i<n then (row i h).choose else 0,fun i j=>if h:i<n then (row i h).choose_spec.choose.getD j .aV else .aV,?_,fun i hi=>?_,fun i j hi hj=>?_⟩
 ·rw [ea]
  congr 2
  refine fB (by simp;lia) fun i h1 h2=>?_
  have hi:i<n:=by simpa using h2
  have e:some vs[i]=some (V.ref (row i hi).choose):=(b6 h1).symm.trans (row i hi).choose_spec.choose_spec.1;rw [Option.some.inj e];simp [hi]
 ·simp only [dif_pos hi]
  have e:=(row i hi).choose_spec.choose_spec;refine e.2.1.trans ?_
  congr 2
  refine fB (by rw [aJ,dc];exact e.2.2.1) fun j h1 h2=>?_
  rw [d8,ig,getD_at h1]
 ·simp only [dif_pos hi]
  exact (row i hi).choose_spec.choose_spec.2.2.2 j hj
theorem Er{X:Nat}{v:V}{x m t u:Int}(h:bj B H q v x m)(d:q∣x*u-t*m)(nu:¬q∣u)(bt:t.natAbs≤X)(bu:u.natAbs≤X):aO X H q v t u:=aO.bd (B:=B) ⟨x,m,h,d,nu⟩ bt bu
end
variable {n:Nat}
theorem Uc{f:Nat→Nat→Bool}:∀z∈b7 n f n,0≤z.1∧z.1<z.2∧z.2<(n:Int):=fun z hz=>by obtain ⟨i,j,_,h2,h3,h4,rfl⟩:=mem_of hz;dsimp only;lia
variable {a b:Nat}
theorem J7{au:g7}(ha:a<n)(hb:b<n)(ab:a≠b)(h:¬aL n (b7 n (bf au) n) a b):(atT au a b).1=0:=wV fun z=>h ⟨ha,hb,by
 have t1:jy au a b=true:=by unfold jy;unfold atT at z;simpa using z
 rcases Nat.lt_or_gt_of_ne ab with l | l;·exact .inl (xV l hb (by unfold bf;rw [t1];rfl) (by lia))
 ·exact .inr (xV l ha (by unfold bf;rw [t1,Bool.or_true]) (by lia))⟩
variable {B:Nat} {H:Hp} {q x m:Int} {v:V}
theorem J8{B':Nat}{x' m':Int}(h:bj B H q v x m)(g:bj B' H q v x' m'):x=x'∧m=m':=by
 cases h with
 | bU e l=>
  cases g with
  | bU e' l'=>rw [e] at e';cases e';exact ⟨rfl,rfl⟩
 | rem=>cases g;exact ⟨rfl,rfl⟩
def sL(M:aQ)(o:List Nat)(n k i:Nat):Int:=ao M (cO o (min k (o.idxOf i))) (M i) n
def sW(M:aQ)(D:Nat→Int)(o:List Nat)(k i:Nat):Int:=D i*ar M (cO o (min k (o.idxOf i)))
def dy(H:Hp)(e:Addr)(n:Nat)(av:Nat→V):Prop:=H e=some (.lst ((List.range n).map av))
def Ud(C:Addr):Sp:=fun vs H Q _=>∃(z wk ot d e:Addr) (q:Int) (X n:Nat) (L:bS) (o:List Nat) (M:aQ) (D:Nat→Int) (rs ls:Nat→Addr) (vf:Nat→Nat→V) (g:Nat→List Nat) (av:Nat→V),vs=[.ref z,.ref wk,.ref ot,.ref d,.ref e]∧fJ C H z q∧aZ q∧1≤n∧n≤40∧WTab H wk n rs vf∧fo X H q n vf (sT M D o n) (sU M D o n)∧tL H ot n ls g∧(∀p,p<n→dO n o p (g p)∧dD n L o p (g p))∧H d=some (.lst (az o))∧o.Perm (List.range n)∧dy H e n av∧(∀i,i<n→aO X H q (av i) (M i n) (D i)) ∧
 aW q M (cO o n)∧(∀i,¬q∣D i)∧(∀a b,a<n→b<n→a≠b→¬aL n L a b→M a b=0)∧1000≤X∧X≤10 ^ 100∧(∀k i j,k≤n→(sT M D o k i j).natAbs≤X∧(sU M D o k i j).natAbs≤X)∧(∀k i,k≤n→(sL M o n k i).natAbs≤X∧(sW M D o k i).natAbs≤X) ∧
 ∀(r:Addr) (lv:Nat→V) (H':Hp),af H H'→H r=none→dy H' r n lv→(∀i,i<n→aO X H' q (lv i) (sL M o n n i) (sW M D o n i))→Q (.ref r) H'
variable {L:bS}
theorem Ue{M:aQ}{D:Nat→Int}{o:List Nat}{k p:Nat}{ms:List Nat}(hq:aZ q)(ho:o.Perm (List.range n))(hp:p<n)(ip:o.idxOf p=k)(gn:aW q M (cO o n))
  (zero:∀a b,a<n→b<n→a≠b→¬aL n L a b→M a b=0) (dQ:dD n L o p ms) :
  (∀i∈ms,Cg q ((sL M o n k i*(sU M D o n i p*sW M D o k p)-sT M D o n i p*sL M o n k p*sW M D o k i)*sW M D o (k+1) i) (sL M o n (k+1) i*(sW M D o k i*(sU M D o n i p*sW M D o k p)))) ∧
  ∀i,i<n→i∉ms→Cg q (sL M o n k i*sW M D o (k+1) i) (sL M o n (k+1) i*sW M D o k i):=by
 have lo:=cw ho;have kl:k<o.length:=by rw [←ip];exact (cT ((bF ho).mpr hp)).1
 have pk:o[k]=p:=by have:=(cT ((bF ho).mpr hp)).2;simp only [ip] at this;exact this
 have cs:cO o (k+1)=p::cO o k:=by rw [mZ kl,pk]
 have g:=j8 gn (show k≤n by lia)
 have xY:ar M (cO o (k+1))=ao M (cO o k) (M p) p:=by rw [cs];rfl
 have step:∀i j,ar M (cO o (k+1))*ao M (cO o k) (M i) j-ao M (cO o k) (M i) p*ao M (cO o k) (M p) j=ar M (cO o k)*ao M (cO o (k+1)) (M i) j:=fun i j=>by rw [xY,cs];exact j4 hq g p (M i) j
 have lp:sL M o n k p=ao M (cO o k) (M p) n∧sW M D o k p=D p*ar M (cO o k):=by unfold sL sW;rw [ip,Nat.min_self];exact ⟨rfl,rfl⟩
 have lk:∀i,k<o.idxOf i→sL M o n k i=ao M (cO o k) (M i) n∧sW M D o k i=D i*ar M (cO o k)∧sL M o n (k+1) i=ao M (cO o (k+1)) (M i) n∧sW M D o (k+1) i=D i*ar M (cO o (k+1)):=fun i h=>by
  unfold sL sW;rw [Nat.min_eq_left (by lia),Nat.min_eq_left (by lia)]
  exact ⟨rfl,rfl,rfl,rfl⟩
 have tl:∀i,i<n→k<o.idxOf i→sT M D o n i p=ao M (cO o k) (M i) p*D p∧sU M D o n i p=D i*ar M (cO o (k+1)):=fun i hi h=>by
  have h1:¬(n≤o.idxOf i∧n≤o.idxOf p):=by lia
  have h2:¬o.idxOf i≤o.idxOf p:=by lia
  unfold sT sU;rw [aj h1,aj h2,aj h1,aj h2,ip];exact ⟨rfl,rfl⟩
 refine ⟨fun i hi=>?_,fun i hi nm=>?_⟩
 ·have hl:=(dQ i).mp hi
  rw [ip] at hl;obtain ⟨a1,a2,a3,a4⟩:=lk i hl.2.1;rw [a1,a2,a3,a4,(tl i hl.1 hl.2.1).1,(tl i hl.1 hl.2.1).2,lp.1,lp.2];have st:=step i n;generalize ao M (cO o k) (M i) n=x at st ⊢;generalize ao M (cO o k) (M i) p=y at st ⊢;generalize ao M (cO o k) (M p) n=w at st ⊢;generalize ao M (cO o (k+1)) (M i) n=x' at st ⊢;generalize ar M (cO o k)=d at st ⊢;generalize ar M (cO o (k+1))=d' at st ⊢;refine Cg.of_eq ?_;have e:(x*(D i*d'*(D p*d))-y*D p*w*(D i*d))*(D i*d')=D i*D p*d*(d'*x-y*w)*(D i*d'):=by grind
  rw [e,st];grind
 ·by_cases h:k<o.idxOf i
  ·obtain ⟨a1,a2,a3,a4⟩:=lk i h
   rw [a1,a2,a3,a4];have nc:i∉cO o k:=fun z=>by have:=((ck ho).mp z).2;lia
   have pc:p∉cO o k:=fun z=>by have:=((ck ho).mp z).2;lia
   have ne:i≠p:=fun z=>by rw [z] at h;lia
   have z:ao M (cO o k) (M i) p=0:=ox hq zero g (fun c hc=>((ck ho).mp hc).1) i p hi hp nc pc ne fun w=>nm ((dQ i).mpr ⟨hi,by lia,by rw [ip];exact (w.symm Al).mono fun x hx=>(ck ho).mp hx⟩)
   have st:=step i n;rw [z,eY,kB] at st;exact Cg.of_eq (by grind)
  ·have e:sL M o n (k+1) i=sL M o n k i∧sW M D o (k+1) i=sW M D o k i:=by
    unfold sL sW;rw [Nat.min_eq_right (by lia),Nat.min_eq_right (by lia)]
    exact ⟨rfl,rfl⟩
   rw [e.1,e.2];exact Cg.refl _
structure Es (q:Int) (X n:Nat) (T U:aQ) (g:Nat→List Nat) (ps:List Nat) (A B x y:Nat→Int) (S R:aQ):Prop where
 s0:∀p∈ps,Cg q (A p*R p 0) (S p 0*B p)
 x8:∀p∈ps,∀l j,(g p)[l]?=some j→Cg q ((S p l*(U p j*y j)-T p j*x j*R p l)*R p (l+1)) (S p (l+1)*(R p l*(U p j*y j)))
 fin:∀p∈ps,Cg q (S p (g p).length*U p p*y p) (x p*(R p (g p).length*T p p))
 Et:∀p∈ps,∀l,¬q∣R p l
 Eu:∀p,¬q∣y p
 mY:∀p∈ps,¬q∣T p p
 bd:(∀p∈ps,∀l,l≤(g p).length→(S p l).natAbs≤X∧(R p l).natAbs≤X)∧∀p,(x p).natAbs≤X∧(y p).natAbs≤X
 xX:∀p,p<n→p∉ps→A p=x p∧B p=y p
def Ug(C:Addr):Sp:=fun vs H Q _=>∃(z wk ot d e:Addr) (q:Int) (X n:Nat) (ps:List Nat) (T U:aQ) (rs ls:Nat→Addr) (vf:Nat→Nat→V) (g:Nat→List Nat) (av:Nat→V) (A B x y:Nat→Int) (S R:aQ),vs=[.ref z,.ref wk,.ref ot,.ref d,.ref e]∧fJ C H z q∧aZ q∧n≤40∧WTab H wk n rs vf∧fo X H q n vf T U∧(∀i j,i<n→j<n→(T i j).natAbs≤X∧(U i j).natAbs≤X)∧tL H ot n ls g∧H d=some (.lst (az ps))∧ps.Nodup∧(∀p∈ps,p<n∧(∀j∈g p,j<n∧j≠p))∧(∀k p,ps[k]?=some p→∀j∈g p,j∉ps.take (k+1))∧dy H e n av∧(∀i,i<n→aO X H q (av i) (A i) (B i))∧1000≤X∧X≤10 ^ 100∧Es q X n T U g ps A B x y S R ∧
 ∀(r:Addr) (lv:Nat→V) (H':Hp),af H H'→H r=none→dy H' r n lv→(∀i,i<n→aO X H' q (lv i) (x i) (y i))→Q (.ref r) H'
theorem As{l l':List Int}(p:l.Perm l'):l.sum=l'.sum:=by
 induction p with
 | nil=>rfl
 | cons x _ ih=>rw [cK,cK,ih]
 | swap x y l=>rw [cK,cK,cK,cK];lia
 | trans _ _ a b=>exact a.trans b
theorem p4{F:Nat→Int}{p:Nat}:∀{C l:List Nat},C.Nodup→l.Nodup→(∀c∈l,c∈C)→(∀c∈C,c∉l→F c=0)→(C.map F).sum=(l.map F).sum
 | [],l,_,_,sub,_=>by
  cases l with
  | nil=>rfl
  | cons x r=>exact absurd (sub x (hZ ..)) (by simp)
 | c::C,l,nd,nl,sub,z=>by
  rw [jG] at nd;by_cases h:c∈l
  ·have pm:=List.perm_cons_erase h
   have e:(l.map F).sum=F c+((l.erase c).map F).sum:=by rw [As (pm.map F),cG,cK]
   rw [cG,cK,e,p4 (p:=p) (l:=l.erase c) nd.2 (nl.erase c) (fun x hx=>?_) fun x hx nx=>?_]
   ·have:=sub x (List.mem_of_mem_erase hx)
    rcases c_.mp this with rfl | h2;·exact absurd hx (List.Nodup.not_mem_erase nl)
    ·exact h2
   ·refine z x (fA _ hx) fun hl=>nx ?_
    exact (List.mem_erase_of_ne (fun e:x=c=>nd.1 (e▸hx))).mpr hl
  ·rw [cG,cK,z c (hZ ..) h,iS]
   exact p4 (p:=p) nd.2 nl (fun x hx=>(c_.mp (sub x hx)).resolve_left fun e=>h (e▸hx)) fun x hx nx=>z x (fA _ hx) nx
section
variable {q:Int} {M:aQ} {D:Nat→Int} {o:List Nat} {n:Nat} {L:bS} {g:Nat→List Nat}
def rS(M:aQ)(o:List Nat)(g:Nat→List Nat)(C:List Nat)(m:Nat)(a:Nat→Int)(p l:Nat):Int:=ao M (cO o (o.idxOf p)) (M p) m*a p-(((g p).take l).map fun j=>ao M (cO o (o.idxOf p)) (M p) j*cg M C m j).sum
theorem Uh(hq:aZ q)(ho:o.Perm (List.range n))(gd:aW q M (cO o n))(zero:∀a b,a<n→b<n→a≠b→¬aL n L a b→M a b=0){p:Nat}(hp:p<n)(dA:dO n o p (g p)∧dD n L o p (g p)){m:Nat}(hm:m∉cO o n) :
  ao M (cO o (o.idxOf p)) (M p) p*cg M (cO o n) m p+((g p).map fun j=>ao M (cO o (o.idxOf p)) (M p) j*cg M (cO o n) m j).sum=ar M (cO o n)*ao M (cO o (o.idxOf p)) (M p) m:=by
 have lo:=cw ho;have kl:=(cT ((bF ho).mpr hp)).1;have nd:(cO o n).Nodup:=by
  unfold cO;rw [kC (by lia)]
  exact (zm _).nodup_iff.mpr (fk ho)
 have mem:∀c,c∈cO o n↔c<n:=fun c=>by rw [ck ho];exact ⟨fun h=>h.1,fun h=>⟨h,by have:=(cT ((bF ho).mpr h)).1;lia⟩⟩
 have sub:∀r∈cO o (o.idxOf p),r∈cO o n:=fun r hr=>(mem r).mpr ((ck ho).mp hr).1;have Ew:(g p).Nodup:=dA.1.up.imp (fun h=>dC h);have pg:p∉g p:=fun zz=>by have:=dA.1.la p zz;lia
 rw [←JZ hq gd nd hm sub ((mem p).mpr hp),p4 (p:=p) (l:=p::g p) nd (jG.mpr ⟨pg,Ew⟩) (fun c hc=>?_) fun c hc nc=>?_,cG,cK]
 ·rcases c_.mp hc with rfl | hc
  ·exact (mem _).mpr hp
  ·exact (mem _).mpr (dA.1.lt c hc)
 ·rw [c_,not_or] at nc
  have cn:=(mem c).mp hc;by_cases h:c∈cO o (o.idxOf p);·rw [Am h,eY]
  ·have ci:o.idxOf p<o.idxOf c:=by have h1:¬o.idxOf c<o.idxOf p:=fun z=>h ((ck ho).mpr ⟨cn,z⟩);have h2:=tM ho cn hp nc.1;lia
   have pc:p∉cO o (o.idxOf p):=fun z=>by have:=((ck ho).mp z).2;lia
   rw [ox hq zero (j8 gd (by lia)) (fun c hc=>((ck ho).mp hc).1) p c hp cn pc h (Ne.symm nc.1) fun w=>nc.2 ((dA.2 c).mpr ⟨cn,ci,w.mono fun x hx=>(ck ho).mp hx⟩),eY]
theorem Ui{X:Nat}(hq:aZ q)(ho:o.Perm (List.range n))(gd:aW q M (cO o n))(hD:∀i,¬q∣D i)(zero:∀a b,a<n→b<n→a≠b→¬aL n L a b→M a b=0)(dA:∀p,p<n→dO n o p (g p)∧dD n L o p (g p))
  (b1:∀p l,p<n→l≤(g p).length→(rS M o g (cO o n) n (fun _=>ar M (cO o n)) p l).natAbs≤X∧(D p*ar M (cO o (o.idxOf p))*ar M (cO o n)).natAbs≤X) (b2:∀p,(cg M (cO o n) n p).natAbs≤X∧(ar M (cO o n)).natAbs≤X) :
  Es q X n (sT M D o n) (sU M D o n) g o (sL M o n n) (sW M D o n) (cg M (cO o n) n) (fun _=>ar M (cO o n)) (rS M o g (cO o n) n fun _=>ar M (cO o n)) (fun p _=>D p*ar M (cO o (o.idxOf p))*ar M (cO o n)):=by
 have lo:=cw ho;have lt:∀{p},p∈o→p<n∧o.idxOf p<n:=fun{p} hp=>⟨(bF ho).mp hp,by have:=(cT hp).1;lia⟩
 have up:∀{p},p∈o→∀j,o.idxOf p≤o.idxOf j→sT M D o n p j=ao M (cO o (o.idxOf p)) (M p) j∧sU M D o n p j=D p*ar M (cO o (o.idxOf p)):=fun{p} hp j h=>by
  have h1:¬(n≤o.idxOf p∧n≤o.idxOf j):=by have:=(lt hp).2;lia
  unfold sT sU;rw [aj h1,ak h,aj h1,ak h];exact ⟨rfl,rfl⟩
 have dz:∀j,j≤n→¬q∣ar M (cO o j):=fun j hj=>iK hq (j8 gd hj);have lw:∀{p},p∈o→sL M o n n p=ao M (cO o (o.idxOf p)) (M p) n∧sW M D o n p=D p*ar M (cO o (o.idxOf p)):=fun{p} hp=>by
  have:=(lt hp).2;unfold sL sW;rw [Nat.min_eq_right (by lia)]
  exact ⟨rfl,rfl⟩
 have Uj:n∉cO o n:=fun z=>by have:=((ck ho).mp z).1;lia
 refine ⟨fun p hp=>?_,fun p hp l j hj=>?_,fun p hp=>?_,fun p hp l=>?_,fun p=>dz n (aG _),fun p hp=>?_,⟨fun p hp l hl=>b1 p l (lt hp).1 hl,b2⟩,fun p hp h=>absurd ((bF ho).mpr hp) h⟩
 ·rw [(lw hp).1,(lw hp).2]
  refine Cg.of_eq ?_;unfold rS;simp;grind
 ·have jm:=fZ hj
  have jl:=(dA p (lt hp).1).1.la j jm;rw [(up hp j (by lia)).1,(up hp j (by lia)).2]
  unfold rS;rw [take_snoc hj,ie,wU,List.map_singleton,List.sum_singleton];exact Cg.of_eq (by grind)
 ·rw [(up hp p (aG _)).1,(up hp p (aG _)).2]
  have Uk:=Uh hq ho gd zero (lt hp).1 (dA p (lt hp).1) Uj;unfold rS;rw [kA];exact Cg.of_eq (by grind)
 ·exact fR hq (fR hq (hD p) (dz _ (by have:=(lt hp).2;lia))) (dz n (aG _))
 ·rw [(up hp p (aG _)).1]
  have:=dz (o.idxOf p+1) (by have:=(lt hp).2;lia)
  have kl:=(cT hp).1
  rwa [mZ kl,(cT hp).2] at this
end
section
variable {q:Int} {M:aQ} {D:Nat→Int} {o:List Nat} {n:Nat} {L:bS} {g:Nat→List Nat}
def bN(M:aQ)(o:List Nat)(k t c:Nat):Int:=if c=t then ar M (cO o k) else if o.idxOf c<k then -cg M (cO o k) t c else 0
def mS(M:aQ)(o:List Nat)(g:Nat→List Nat)(k t p l:Nat):Int:=-(((g p).take l).map fun j=>ao M (cO o (o.idxOf p)) (M p) j*bN M o k t j).sum
variable {k t:Nat}
theorem Ul(hq:aZ q)(ho:o.Perm (List.range n))(ht:t<n)(it:o.idxOf t=k)(gd:aW q M (cO o k))(zero:∀a b,a<n→b<n→a≠b→¬aL n L a b→M a b=0){p:Nat}(hp:p<n)(pk:o.idxOf p<k)(dA:dO n o p (g p)∧dD n L o p (g p)) :
  ao M (cO o (o.idxOf p)) (M p) p*bN M o k t p+((g p).map fun j=>ao M (cO o (o.idxOf p)) (M p) j*bN M o k t j).sum=0:=by
 have lo:=cw ho;have all:∀c,c∈List.range n↔c<n:=fun c=>cA;have J9:(cO o k).Nodup:=by unfold cO;exact (zm _).nodup_iff.mpr ((wI k o).nodup (fk ho))
 have tC:t∉cO o k:=fun z=>by have:=((ck ho).mp z).2;lia
 have Ew:(g p).Nodup:=dA.1.up.imp (fun h=>dC h);have pg:p∉g p:=fun zz=>by have:=dA.1.la p zz;lia
 have e1:((List.range n).map fun c=>ao M (cO o (o.idxOf p)) (M p) c*bN M o k t c).sum=((p::g p).map fun c=>ao M (cO o (o.idxOf p)) (M p) c*bN M o k t c).sum:=p4 (p:=p) wX (jG.mpr ⟨pg,Ew⟩) (fun c hc=>(all c).mpr (by
   rcases c_.mp hc with rfl | hc;·exact hp
   ·exact dA.1.lt c hc)) fun c hc nc=>by
  rw [c_,not_or] at nc;have cn:=(all c).mp hc;by_cases h:c∈cO o (o.idxOf p);·rw [Am h,eY]
  ·have ci:o.idxOf p<o.idxOf c:=by have h1:¬o.idxOf c<o.idxOf p:=fun z=>h ((ck ho).mpr ⟨cn,z⟩);have h2:=tM ho cn hp nc.1;lia
   have pc:p∉cO o (o.idxOf p):=fun z=>by have:=((ck ho).mp z).2;lia
   rw [ox hq zero (j8 gd (by lia)) (fun c hc=>((ck ho).mp hc).1) p c hp cn pc h (Ne.symm nc.1) fun w=>nc.2 ((dA.2 c).mpr ⟨cn,ci,w.mono fun x hx=>(ck ho).mp hx⟩),eY]
 have e2:((List.range n).map fun c=>ao M (cO o (o.idxOf p)) (M p) c*bN M o k t c).sum=((t::cO o k).map fun c=>ao M (cO o (o.idxOf p)) (M p) c*bN M o k t c).sum:=p4 (p:=p) wX (jG.mpr ⟨tC,J9⟩) (fun c hc=>(all c).mpr (by
   rcases c_.mp hc with rfl | hc;·exact ht
   ·exact ((ck ho).mp hc).1)) fun c hc nc=>by
  rw [c_,not_or] at nc;have cn:=(all c).mp hc;have:¬o.idxOf c<k:=fun z=>nc.2 ((ck ho).mpr ⟨cn,z⟩);unfold bN;rw [aj nc.1,aj this,fc]
 rw [←cK,←cG (f:=fun j=>ao M (cO o (o.idxOf p)) (M p) j*bN M o k t j),←e1,e2,cG,cK];have e3:((cO o k).map fun c=>ao M (cO o (o.idxOf p)) (M p) c*bN M o k t c).sum=-((cO o k).map fun c=>ao M (cO o (o.idxOf p)) (M p) c*cg M (cO o k) t c).sum:=by
  have:((cO o k).map fun c=>ao M (cO o (o.idxOf p)) (M p) c*bN M o k t c)=(cO o k).map fun c=>-1*(ao M (cO o (o.idxOf p)) (M p) c*cg M (cO o k) t c):=de fun c hc=>by have h1:c≠t:=fun z=>tC (z▸hc);unfold bN;rw [aj h1,ak ((ck ho).mp hc).2];grind
  rw [this,lZ];lia
 rw [e3,JZ hq gd J9 tC (fun r hr=>(ck ho).mpr ⟨((ck ho).mp hr).1,by have:=((ck ho).mp hr).2;lia⟩) ((ck ho).mpr ⟨hp,pk⟩)]
 unfold bN;rw [ak rfl];grind
theorem Um{X:Nat}(hq:aZ q)(ho:o.Perm (List.range n))(ht:t<n)(it:o.idxOf t=k)(gd:aW q M (cO o k))(hD:∀i,¬q∣D i)(zero:∀a b,a<n→b<n→a≠b→¬aL n L a b→M a b=0)(dA:∀p,p<n→dO n o p (g p)∧dD n L o p (g p))
  (b1:∀p l,p<n→l≤(g p).length→(mS M o g k t p l).natAbs≤X∧(D p*ar M (cO o (o.idxOf p))*ar M (cO o k)).natAbs≤X) (b2:∀p,(bN M o k t p).natAbs≤X∧(ar M (cO o k)).natAbs≤X) :
  Es q X n (sT M D o k) (sU M D o k) g (o.take k) (fun i=>if i=t then ar M (cO o k) else 0) (fun _=>ar M (cO o k)) (bN M o k t) (fun _=>ar M (cO o k)) (mS M o g k t) (fun p _=>D p*ar M (cO o (o.idxOf p))*ar M (cO o k)):=by
 have lo:=cw ho;have lt:∀{p},p∈o.take k→p<n∧o.idxOf p<k:=fun{p} hp=>(tO ho).mp hp;have up:∀{p},p∈o.take k→∀j,o.idxOf p≤o.idxOf j→sT M D o k p j=ao M (cO o (o.idxOf p)) (M p) j∧sU M D o k p j=D p*ar M (cO o (o.idxOf p)):=fun{p} hp j h=>by
  have h1:¬(k≤o.idxOf p∧k≤o.idxOf j):=by have:=(lt hp).2;lia
  unfold sT sU;rw [aj h1,ak h,aj h1,ak h];exact ⟨rfl,rfl⟩
 have dz:∀j,j≤k→¬q∣ar M (cO o j):=fun j hj=>iK hq (j8 gd hj);refine ⟨fun p hp=>?_,fun p hp l j hj=>?_,fun p hp=>?_,fun p hp l=>?_,fun p=>dz k (aG _),fun p hp=>?_,⟨fun p hp l hl=>b1 p l (lt hp).1 hl,b2⟩,fun p hp h=>⟨?_,rfl⟩⟩
 ·have:p≠t:=fun z=>by have:=(lt hp).2;rw [z] at this;lia
  unfold mS;simp [this];exact Cg.refl _
 ·have jm:=fZ hj
  have jl:=(dA p (lt hp).1).1.la j jm;rw [(up hp j (by lia)).1,(up hp j (by lia)).2]
  unfold mS;rw [take_snoc hj,ie,wU,List.map_singleton,List.sum_singleton];exact Cg.of_eq (by grind)
 ·rw [(up hp p (aG _)).1,(up hp p (aG _)).2]
  have Uk:=Ul (M:=M) hq ho ht it gd zero (lt hp).1 (lt hp).2 (dA p (lt hp).1);unfold mS;rw [kA];exact Cg.of_eq (by grind)
 ·exact fR hq (fR hq (hD p) (dz _ (by have:=(lt hp).2;lia))) (dz k (aG _))
 ·rw [(up hp p (aG _)).1]
  have:=dz (o.idxOf p+1) (by have:=(lt hp).2;lia)
  have pm:p∈o:=List.mem_of_mem_take hp;have kl:=(cT pm).1
  rwa [mZ kl,(cT pm).2] at this
 ·have:¬o.idxOf p<k:=fun z=>h ((tO ho).mpr ⟨hp,z⟩)
  unfold bN;by_cases e:p=t;·rw [ak e,ak e]
  ·rw [aj e,aj e,aj this]
end
def Uo(C:Addr):Sp:=fun vs H Q _=>∃(z wk ot d:Addr) (q:Int) (X n k t:Nat) (L:bS) (o:List Nat) (M:aQ) (D:Nat→Int) (rs ls:Nat→Addr) (vf:Nat→Nat→V) (g:Nat→List Nat),vs=[.ref z,.ref wk,.ref ot,.ref d,.int ((k:Int)+1)]∧fJ C H z q∧aZ q∧n≤40∧WTab H wk n rs vf∧fo X H q n vf (sT M D o k) (sU M D o k)∧tL H ot n ls g∧(∀p,p<n→dO n o p (g p)∧dD n L o p (g p))∧H d=some (.lst (az o))∧o.Perm (List.range n)∧t<n∧o.idxOf t=k∧aW q M (cO o k)∧(∀i,¬q∣D i)∧(∀a b,a<n→b<n→a≠b→¬aL n L a b→M a b=0)∧1000≤X∧X≤10 ^ 100∧(∀k i j,k≤n→(sT M D o k i j).natAbs≤X∧(sU M D o k i j).natAbs≤X) ∧
 (∀p l,p<n→l≤(g p).length→(mS M o g k t p l).natAbs≤X∧(D p*ar M (cO o (o.idxOf p))*ar M (cO o k)).natAbs≤X)∧(∀p,(bN M o k t p).natAbs≤X∧(ar M (cO o k)).natAbs≤X) ∧
 ∀(r:Addr) (lv:Nat→V) (H':Hp),af H H'→H r=none→dy H' r n lv→(∀i,i<n→aO X H' q (lv i) (bN M o k t i) (ar M (cO o k)))→Q (.ref r) H'
structure J_ (q:Int) (n X:Nat) (H:Hp) (e:Addr) (av:Nat→V) (o:List Nat) (M:aQ) (D:Nat→Int):Prop where
 row:dy H e n av
 oz:∀i,i<n→aO X H q (av i) (M i n) (D i)
 bl:∀k i,k≤n→(sL M o n k i).natAbs≤X∧(sW M D o k i).natAbs≤X
 bo:∀(g:Nat→List Nat),(∀p,p<n→(g p).length≤n)→∀p l,p<n→l≤(g p).length→(rS M o g (cO o n) n (fun _=>ar M (cO o n)) p l).natAbs≤X∧(D p*ar M (cO o (o.idxOf p))*ar M (cO o n)).natAbs≤X
 bc:∀p,(cg M (cO o n) n p).natAbs≤X∧(ar M (cO o n)).natAbs≤X
 bt:∀(g:Nat→List Nat),(∀p,p<n→(g p).length≤n)→∀k t p l,k<n→p<n→l≤(g p).length→(mS M o g k t p l).natAbs≤X∧(D p*ar M (cO o (o.idxOf p))*ar M (cO o k)).natAbs≤X
 bm:∀k t p,k<n→(bN M o k t p).natAbs≤X∧(ar M (cO o k)).natAbs≤X
def Ka(C:Addr):Sp:=fun vs H Q _=>∃(z a d e:Addr) (q:Int) (B X n:Nat) (au:g7) (o:List Nat) (M:aQ) (D:Nat→Int) (av:Nat→V),vs=[.ref z,.ref a,.ref d,.ref e]∧fJ C H z q∧aZ q∧kZ B H q a au∧B≤10 ^ 100∧au.length=n∧1≤n∧n≤40∧(∀ps∈au,ps.length=n)∧H d=some (.lst (az o))∧o.Perm (List.range n)∧Ar q n X au o M D∧J_ q n X H e av o M D ∧
 (∀(k:Nat) (hk:k<o.length),aW q M (cO o k)→q∣ao M (cO o k) (M o[k]) o[k]→∀(tp r:Addr) (lv:Nat→V) (H':Hp),af H H'→H r=none→H tp=none→H' tp=some (.tup [.str (Str.ofString "stops"),.int ((k:Int)+1),.ref r])→dy H' r n lv→(∀i,i<n→aO X H' q (lv i) (bN M o k o[k] i) (ar M (cO o k)))→Q (.ref tp) H') ∧
 (aW q M (cO o n)→∀(tp r:Addr) (lv:Nat→V) (g:Nat→List Nat) (H':Hp),af H H'→H r=none→H tp=none→(∀p,p<n→dO n o p (g p)∧dD n (b7 n (bf au) n) o p (g p))→H' tp=some (.tup [.str (Str.ofString "one"),.ref r,.int (gF n g:Int)])→dy H' r n lv→(∀i,i<n→aO X H' q (lv i) (cg M (cO o n) n i) (ar M (cO o n)))→Q (.ref tp) H')
variable {te:TE} {σ:St}
theorem Up{r:List V→Hp→VK→Prop}{tr:TA}{Q:List V→Hp→Prop}(h:te σ H fun x H1=>r [x] H1 fun y H2=>tr σ H2 fun ys H3=>Q (y::ys) H3):iX (zP r (iX te gg)) tr σ H Q:=h
theorem Ex:∀n,1≤hU n
 | 0=>aG _
 | n+1=>by have:=Ex n;show 1≤(n+1)*hU n;exact bE this (kD _ (by lia))
theorem Uq(h:a≤b):hU a≤hU b:=by
 induction b with
 | zero=>rw [show a=0 by lia];exact aG _
 | succ b ih=>
  by_cases e:a=b+1;·rw [e];exact aG _
  ·refine bE (ih (by lia)) ?_
   show hU b≤(b+1)*hU b;exact kD _ (by lia)
def eE(n B:Nat):Nat:=hU (n+2)*B ^ (n+2)
def dh(n B:Nat):Nat:=(n+1)*(B*(eE n B*eE n B))
section
variable {q:Int} {M:aQ} {D:Nat→Int} {o:List Nat} {n B:Nat}
theorem Au(b1:1≤B){m:Nat}(h:m≤n+2):hU m*B ^ m≤eE n B:=gZ (Uq h) (Nat.pow_le_pow_right b1 h)
theorem Kb(b1:1≤B):1≤eE n B:=Nat.mul_pos (Ex _) (Nat.pow_pos b1)
theorem Ey(lo:o.length=n)(k:Nat):(cO o k).length≤n:=by unfold cO;rw [List.length_reverse,kr];lia
theorem p5(b1:1≤B)(hM:∀i k,(M i k).natAbs≤B)(lo:o.length=n)(k i j:Nat):(ao M (cO o k) (M i) j).natAbs≤eE n B:=bE (TF hM (hM i)) (Au b1 (by have:=Ey lo k;lia))
theorem j9(b1:1≤B)(hM:∀i k,(M i k).natAbs≤B)(lo:o.length=n)(k:Nat):(ar M (cO o k)).natAbs≤eE n B:=bE (TH hM) (Au b1 (by have:=Ey lo k;lia))
theorem Av(b1:1≤B)(hM:∀i k,(M i k).natAbs≤B)(lo:o.length=n)(k m c:Nat):(cg M (cO o k) m c).natAbs≤eE n B:=bE (TJ b1 hM) (Au b1 (by have:=Ey lo k;lia))
theorem m4(b1:1≤B):eE n B≤dh n B:=by unfold dh;refine bE (kD (eE n B) (Kb (n:=n) b1)) ?_;refine bE (kD _ b1) (kD _ (by lia))
theorem Aw(b1:1≤B){a b:Int}(ha:a.natAbs≤eE n B)(hb:b.natAbs≤B):(a*b).natAbs≤dh n B∧(b*a).natAbs≤dh n B:=by
 have h:(a*b).natAbs≤dh n B:=by rw [gv];unfold dh;refine bE (gZ ha hb) ?_;rw [Nat.mul_comm];refine bE (Nat.mul_le_mul_left B (kD (eE n B) (Kb (n:=n) b1))) (kD _ (by lia))
 exact ⟨h,by rw [dM];exact h⟩
theorem Ke(b1:1≤B){a b c:Int}(ha:a.natAbs≤B)(hb:b.natAbs≤eE n B)(hc:c.natAbs≤eE n B):(a*b*c).natAbs≤dh n B:=by rw [gv,gv,Nat.mul_assoc];unfold dh;exact bE (gZ ha (gZ hb hc)) (kD _ (by lia))
theorem Ki{F:Nat→Int}{Z:Nat}(h:∀j,(F j).natAbs≤Z):∀l:List Nat,((l.map F).sum).natAbs≤l.length*Z
 | []=>by simp
 | x::l=>by rw [cG,cK,fY,Nat.succ_mul];have:=Ki h l;have:=h x;lia
theorem Kj(b1:1≤B){F:Nat→Int}{l:List Nat}(hl:l.length≤n)(h:∀j,(F j).natAbs≤eE n B*eE n B){a:Int}(ha:a.natAbs≤eE n B*eE n B):(a-(l.map F).sum).natAbs≤dh n B:=by have h1:=Ki h l;have h2:l.length*(eE n B*eE n B)≤n*(eE n B*eE n B):=Nat.mul_le_mul_right _ hl;have h3:(n+1)*(eE n B*eE n B)≤dh n B:=Nat.mul_le_mul_left _ (kD _ b1);rw [Nat.succ_mul] at h3;lia
theorem Ez{a b:Int}{F:Nat}(ha:a.natAbs≤F)(hb:b.natAbs≤F):(a*b).natAbs≤F*F:=by rw [gv];exact gZ ha hb
theorem Ur(b1:1≤B)(hM:∀i k,(M i k).natAbs≤B)(hD:∀i,(D i).natAbs≤B)(lo:o.length=n)(k i j:Nat):(sT M D o k i j).natAbs≤dh n B∧(sU M D o k i j).natAbs≤dh n B:=by
 constructor
 ·unfold sT
  split
  ·exact bE (p5 b1 hM lo _ _ _) (m4 b1)
  ·split
   ·exact bE (p5 b1 hM lo _ _ _) (m4 b1)
   ·exact (Aw b1 (p5 b1 hM lo _ _ _) (hD j)).1
 ·unfold sU
  split
  ·exact (Aw b1 (j9 b1 hM lo _) (hD i)).2
  ·split <;> exact (Aw b1 (j9 b1 hM lo _) (hD i)).2
theorem Us{e:Addr}{av:Nat→V}{Y:Nat}(b1:1≤B)(hM:∀i k,(M i k).natAbs≤B)(hD:∀i,(D i).natAbs≤B)(lo:o.length=n)(row:dy H e n av)(w:∀i,i<n→aO Y H q (av i) (M i n) (D i)):J_ q n (dh n B) H e av o M D:=by
 have bB:B≤eE n B:=by
  have:=Au (n:=n) b1 (show 1≤n+2 by lia)
  rw [Nat.pow_one] at this;exact bE (by show B≤hU 1*B;exact kD _ (Ex 1)) this
 have bX:=bE bB (m4 (n:=n) b1);refine ⟨row,fun i hi=>(w i hi).bd (bE (hM i n) bX) (bE (hD i) bX),fun k i _=>⟨?_,?_⟩,fun g hg p l hp hl=>⟨?_,?_⟩,fun p=>⟨?_,?_⟩,fun g hg k t p l _ hp hl=>⟨?_,?_⟩,fun k t p _=>⟨?_,?_⟩⟩;·exact bE (p5 b1 hM lo _ _ _) (m4 b1)
 ·exact (Aw b1 (j9 b1 hM lo _) (hD i)).2
 ·unfold rS
  exact Kj b1 (by rw [kr];have:=hg p hp;lia) (fun j=>Ez (p5 b1 hM lo _ _ _) (Av b1 hM lo _ _ _)) (Ez (p5 b1 hM lo _ _ _) (j9 b1 hM lo _))
 ·exact Ke b1 (hD p) (j9 b1 hM lo _) (j9 b1 hM lo _)
 ·exact bE (Av b1 hM lo _ _ _) (m4 b1)
 ·exact bE (j9 b1 hM lo _) (m4 b1)
 ·have mv:∀j,(bN M o k t j).natAbs≤eE n B:=fun j=>by
   unfold bN
   split
   ·exact j9 b1 hM lo _
   ·split
    ·rw [nE];exact Av b1 hM lo _ _ _
    ·exact b_ _
  unfold mS;have:=Kj (n:=n) b1 (l:=(g p).take l) (a:=0) (by rw [kr];have:=hg p hp;lia) (fun j=>Ez (p5 b1 hM lo (o.idxOf p) p j) (mv j)) (b_ _)
  rwa [oT] at this
 ·exact Ke b1 (hD p) (j9 b1 hM lo _) (j9 b1 hM lo _)
 ·unfold bN
  split
  ·exact bE (j9 b1 hM lo _) (m4 b1)
  ·split
   ·rw [nE];exact bE (Av b1 hM lo _ _ _) (m4 b1)
   ·exact b_ _
 ·exact bE (j9 b1 hM lo _) (m4 b1)
theorem Ut{au:g7}(b1:1≤B)(hM:∀i k,(M i k).natAbs≤B)(hD:∀i,(D i).natAbs≤B)(lo:o.length=n)(w:∀i j,i<n→j<n→q∣(atT au i j).1*D i-M i j*(atT au i j).2)(dn:∀i,¬q∣D i)(zero:∀i j,i<n→j<n→(atT au i j).1=0→M i j=0)(x1:1000≤dh n B)(Uu:dh n B≤10 ^ 100):Ar q n (dh n B) au o M D:=
 ⟨w,dn,zero,fun k i j _=>Ur b1 hM hD lo k i j,x1,Uu⟩
end
theorem Uv(x y:Int):x=x.fmod y+y*x.fdiv y:=by have:=Int.mul_fdiv_add_fmod x y;lia
theorem Kk(x y:Int):Int.gcd y (x.fmod y)=Int.gcd x y:=by
 have e:=Uv x y;have e2:x.fmod y=x-y*x.fdiv y:=by lia
 refine Nat.dvd_antisymm (Int.ofNat_dvd.mp (Int.dvd_coe_gcd ?_ (kx ..))) (Int.ofNat_dvd.mp (Int.dvd_coe_gcd (jI ..) ?_))
 ·have:=si (jI y (x.fmod y)) (zl (c:=x.fdiv y) (kx y (x.fmod y)))
  rwa [←e] at this
 ·have:=Int.dvd_sub (kx x y) (zl (c:=x.fdiv y) (jI x y))
  rwa [←e2] at this
theorem Uw{y:Int}(h:y≠0):(x.fmod y).natAbs<y.natAbs:=by
 have h1:=gY x h;have h2:x % y<(y.natAbs:Int):=Int.emod_lt x h;rw [Int.fmod_eq_emod]
 split
 ·lia
 ·rename_i hn
  rw [not_or] at hn;have:x % y≠0:=fun z=>hn.2 (CS z);lia
def Ux:Sp:=fun vs H Q _=>∃a b:Int,vs=[.int a,.int b]∧Q (.int (Int.gcd a b:Int)) H
def Uy:Sp:=fun vs H Q _=>∃c p:Int,vs=[.int c,.int p]∧2≤p∧p≤997∧hJ p=true∧¬p∣c∧∀(r:Int) (H':Hp),af H H'→0≤r→r<p→p∣r*c-1→Q (.int r) H'
def gH(H:Hp)(td:Addr)(q:Int):Prop:=(q=0∧H td=some (.tup [sV "fractions"]))∨(q≠0∧H td=some (.tup [sV "wheel",.int q]))
variable {H':Hp} {td:Addr}
theorem gH.mono(h:gH H td q)(s:af H H'):gH H' td q:=h.imp (fun h=>⟨h.1,s _ _ h.2⟩) fun h=>⟨h.1,s _ _ h.2⟩
def Uz:Sp:=fun vs H Q _=>∃(td:Addr) (q a b:Int) (Y:Nat),vs=[.ref td,.int a,.int b]∧gH H td q∧aZ q∧¬q∣b∧a.natAbs≤Y∧b.natAbs≤Y∧Y≤10 ^ 300∧∀(v:V) (H':Hp),af H H'→aO Y H' q v a b→Q v H'
theorem UA{a b:Int}(hb:b≠0)(s:Int)(hs:s=if b<0 then -1 else 1):cp ((s*a).fdiv (Int.gcd a b:Int)) ((s*b).fdiv (Int.gcd a b:Int))∧(s*a).fdiv (Int.gcd a b:Int)*b=a*(s*b).fdiv (Int.gcd a b:Int):=by
 have gp:0<Int.gcd a b:=Int.gcd_pos_of_ne_zero_right a hb;obtain ⟨x,hx⟩:=kx a b;obtain ⟨y,hy⟩:=jI a b;generalize hg:Int.gcd a b=g at gp hx hy ⊢;have g0:(g:Int)≠0:=by lia
 have e1:(s*a).fdiv (g:Int)=s*x:=by
  rw [hx,show s*((g:Int)*x)=(g:Int)*(s*x) by grind]
  exact Int.mul_fdiv_cancel_left _ g0
 have e2:(s*b).fdiv (g:Int)=s*y:=by
  rw [hy,show s*((g:Int)*y)=(g:Int)*(s*y) by grind]
  exact Int.mul_fdiv_cancel_left _ g0
 rw [e1,e2];have gD:Int.gcd x y=1:=by have:=Int.gcd_mul_left (g:Int) x y;rw [←hx,←hy,hg,wN] at this;exact Nat.eq_of_mul_eq_mul_left gp (by lia)
 have ss:s=1∨s=-1:=by rw [hs];split <;> simp
 refine ⟨⟨?_,?_⟩,by rw [hx,hy];grind⟩
 ·have hy':(g:Int)*y<0∨0<(g:Int)*y:=by lia
  have ys:(b<0→y<0)∧(¬b<0→0<y):=by
   constructor
   ·intro h
    refine wV fun z=>?_;have:0≤(g:Int)*y:=Int.mul_nonneg (by lia) (by lia)
    lia
   ·intro h
    refine wV fun z=>?_;have:(g:Int)*y≤0:=Int.mul_nonpos_of_nonneg_of_nonpos (by lia) (by lia)
    lia
  rw [hs]
  split
  ·rename_i h
   have:=ys.1 h;lia
  ·rename_i h
   have:=ys.2 h;lia
 ·rcases ss with h | h
  ·rw [h,nF,nF]
   exact gD
  ·rw [h,show (-1:Int)*x=-x by lia,show (-1:Int)*y=-y by lia,Int.gcd_neg,Int.neg_gcd]
   exact gD
def Kl:Sp:=fun vs H Q _=>∃(td:Addr) (q:Int),vs=[.ref td]∧gH H td q∧aZ q∧∀(v:V) (H':Hp),af H H'→bj 1000 H' q v 0 1→Q v H'
variable {Y:Nat}
theorem UB(hq:aZ q)(h:aO Y H q v 0 1)(y:1≤Y):bj 1000 H q v 0 1:=by
 obtain ⟨x,m,h1,h2⟩:=(Ao hq h).mp (wY q);subst h2;have hb:aO 1000 H q v 0 1:=h.bd (by decide) (by decide)
 obtain ⟨x',m',g1,g2,g3⟩:=hb;obtain ⟨e1,e2⟩:=J8 h1 g1;subst e1;cases g1 with
 | bU e l bx bm=>
  have:=l.gD;rw [Int.gcd_zero_left] at this;have:=l.pos;have:m'=1:=by lia
  subst this;exact .bU e l bx bm
 | rem a b c=>exact .rem a b c
def UC:Sp:=fun vs H Q _=>∃(td T:Addr) (q:Int),vs=[.ref td,.ref T]∧gH H td q∧aZ q∧bW H T∧∀(v:V) (x m:Int) (H':Hp),aX T H H'→bW H' T→bj 1000 H' q v x m→(q=0→x.natAbs≤3∧m∣6)→Q v H'
variable {T:Addr}
theorem gH.off(h:gH H td q)(o:aX T H H')(t:bW H T):gH H' td q:=by
 obtain ⟨x,ex⟩:=t;have ne:∀{xs},H td=some (.tup xs)→td≠T:=fun{xs} e z=>by rw [z,ex] at e;cases e
 exact h.imp (fun h=>⟨h.1,o _ _ (ne h.2) h.2⟩) fun h=>⟨h.1,o _ _ (ne h.2) h.2⟩
theorem Km{a b:Int}(h:aO Y H q v a b)(ha:a.natAbs≤1000)(hb:b.natAbs≤1000)(q0:q=0):∃x m,bj 1000 H q v x m∧x.natAbs≤a.natAbs∧m∣b:=by
 have h2:aO a.natAbs H q v a b∨True:=.inr trivial;obtain ⟨x,m,g1,g2,g3⟩:=h.bd (Y:=1000) ha hb;subst q0;refine ⟨x,m,g1,?_,?_⟩
 ·cases g1 with
  | bU e l bx bm=>
   have e0:=jc.mp g2;have U0:b≠0:=fun z=>g3 (by rw [z];exact jb 0)
   by_cases up:0<b;·exact (tE l up (show x*b=a*m by lia)).2
   ·have:=tE l (show 0 < -b by lia) (show x * -b=-a*m by rw [lC,sj];lia)
    rw [nE] at this;exact this.2
  | rem _ _ _=>lia
 ·cases g1 with
  | bU e l bx bm=>have e0:=jc.mp g2;exact Sl l (show x*b=a*m by lia)
  | rem _ _ _=>lia
def UD:Sp:=fun vs H Q _=>∃T:Addr,vs=[.ref T]∧bW H T∧∀(td:Addr) (q:Int) (H':Hp),aX T H H'→bW H' T→gH H' td q→aZ q→Q (.ref td) H'
def EA(w:Int):Bool:=[0,2,3,5,7,997,97,13,11].contains w
theorem UE{w:Int}(h:EA w=true):aZ w:=by unfold EA at h;simp at h;rcases h with h | h | h | h | h | h | h | h | h <;> subst h <;> (unfold aZ;decide +kernel)
theorem UG{wi:TI}{ρ:St→St}{Q:VK}(hn:n<sizeLine)(hT:bW H T)(kY:∀R:It→Hp→Prop,R (mE 0 n) H→wi σ H R)(Pr:Addr→Nat→V→Hp→Prop)
  (mono:∀D i y Ha Hb ys,Pr D i y Ha→bW Ha T→Ha D=some (.lst ys)→(∀b o,b≠T→b≠D→Ha b=some o→Hb b=some o)→Pr D i y Hb)
  (step:∀(D:Addr) (i:Nat),i<n→∀(Hc:Hp) (R:VK),aX T H Hc→bW Hc T→(∃ys,Hc D=some (.lst ys))→D≠T→H D=none→(∀y H3,aX T Hc H3→bW H3 T→Pr D i y H3→R y H3)→te (some (.int (0+(i:Int)))::ρ σ) Hc R)
  (fin:∀(D:Addr) (ys:List V) (Hc:Hp),D≠T→H D=none→aX T H Hc→bW Hc T→ys.length=n→(∀(i:Nat) (y:V),ys[i]?=some y→Pr D i y Hc)→Hc D=some (.lst ys)→Q (.ref D) Hc):iD wi ρ (fun _ H Q=>Q true H) te σ H Q:=by
 refine kY _ ?_;intro D nD;have nP:=hT.ne nD;have up:∀{Hc:Hp} {o:HO},bW Hc T→bW (L2.upd Hc D o) T:=fun⟨x,e⟩=>⟨x,(aK (Ne.symm nP)).trans e⟩;have off:∀{Hc:Hp} {o:HO},aX T H Hc→aX T H (L2.upd Hc D o):=fun h b u ne e=>(aK (fun z=>by rw [z,nD] at e;cases e)).trans (h b u ne e)
 refine ⟨fun i m ys Hc=>m=n-i∧i≤n∧Hc D=some (.lst ys)∧aX T H Hc∧bW Hc T∧ys.length=i∧∀j y,ys[j]?=some y→Pr D j y Hc,⟨_,rfl,b_ _,aA,off (aX.refl T H),up hT,rfl,fun j y e=>by simp at e⟩,?_⟩
 rintro i m ys Hc ⟨rfl,hi,eD,sH,pc,el,hP⟩;refine ⟨eD,?_⟩;by_cases bV:i<n
 ·refine .inr ⟨bV,fun x H' hy=>?_⟩
  obtain ⟨rfl,rfl⟩:=hy;rw [ak rfl];refine step D i bV _ _ sH pc ⟨_,eD⟩ nP nD fun y H3 s3 p3 hp=>?_;have e3:=s3 _ _ nP eD;refine ⟨e3,by lia,n-(i+1),by lia,rfl,bV,aA,off (sH.trans s3),up p3,by simp [el],fun j y' e=>?_⟩
  by_cases hj:j<i;·exact mono D j y' _ _ _ (mono D j y' _ _ _ (hP j y' (by rw [nC (by lia)] at e;exact e)) pc eD fun b o n1 n2 e=>s3 b o n1 e) p3 e3 fun b o n1 n2 e=>(aK n2).trans e
  ·have hj:j=i:=by have:=(bQ.mp e).1;simp at this;lia
   subst hj;have e':y'=y:=by rw [lB (by lia),el,wQ] at e;simpa using e.symm
   subst e';exact mono D j y' _ _ _ hp p3 e3 fun b o n1 n2 e=>(aK n2).trans e
 ·have e:i=n:=by lia
  subst e;exact .inl ⟨aG _,fin D ys Hc nP nD sH pc el hP eD⟩
theorem bj.off{D:Addr}{ys:List V}(h:bj B H q v x m)(t:bW H T)(e:H D=some (.lst ys))(k:∀b o,b≠T→b≠D→H b=some o→H' b=some o):bj B H' q v x m:=by
 obtain ⟨z,ez⟩:=t;cases h with
 | bU ep l bx bm=>exact .bU (k _ _ (fun zz=>by rw [zz,ez] at ep;cases ep) (fun zz=>by rw [zz,e] at ep;cases ep) ep) l bx bm
 | rem a b c=>exact .rem a b c
def j_(q x m:Int):Prop:=q=0→x.natAbs≤3∧m∣6
def UH:Sp:=fun vs H Q _=>∃(td T:Addr) (q:Int) (n:Nat),vs=[.ref td,.ref T,.int (n:Int)]∧gH H td q∧aZ q∧bW H T∧n≤60∧∀(D:Addr) (ps:bS) (H':Hp),aX T H H'→bW H' T→H D=none→lS 1000 H' q D ps→ps.length=n→(∀p∈ps,j_ q p.1 p.2)→Q (.ref D) H'
def UI:Sp:=fun vs H Q _=>∃(T:Addr) (n:Nat),vs=[.ref T,.int (n:Int)]∧bW H T∧n≤20∧∀(D:Addr) (us:List V) (L:bS) (H':Hp),aX T H H'→bW H' T→H D=none→H' D=some (.lst us)→eB H' us L→(∀z∈L,0≤z.1∧z.1<z.2∧z.2<(n:Int))→L.length≤400→Q (.ref D) H'
theorem eB.iL{us:List V}(h:eB H us L)(t:bW H T)(o:aX T H H'):eB H' us L:=by obtain ⟨z,ez⟩:=t;refine ⟨h.1,fun k v p h1 h2=>?_⟩;obtain ⟨b,e1,e2⟩:=h.2 k v p h1 h2;exact ⟨b,e1,o b _ (fun zz=>by rw [zz,ez] at e2;cases e2) e2⟩
theorem l5{F:Nat→Int}:∀{l:List Nat},(∀c∈l,F c=0)→(l.map F).sum=0
 | [],_=>rfl
 | x::l,h=>by rw [cG,cK,h x (hZ ..),l5 fun c hc=>h c (fA _ hc),iS]
theorem Kn{q:Int}:∀{m:Nat} {F:Nat→Int},(∀i,i<m→q∣F i)→q∣a7 m F
 | 0,_,_=>wY q
 | m+1,F,h=>by show q∣F 0+a7 m fun i=>F (i+1);exact si (h 0 (by lia)) (Kn fun i hi=>h (i+1) (by lia))
section
variable {q:Int} {M N N':aQ} {D:Nat→Int}
theorem UJ(hq:aZ q){u:Int}(nu:¬q∣u)(h:q∣u*x):q∣x:=by
 have:=xU hq nu (show Cg q (u*x) 0 by unfold Cg;rwa [kB])
 unfold Cg at this
 rwa [kB] at this
theorem EB(hq:aZ q):∀{C:List Nat},aW q M C→C.Nodup→∀y:Nat→Int,(∀r∈C,q∣(C.map fun c=>M r c*y c).sum)→∀c∈C,q∣y c
 | [],_,_,_,_,_,hc=>nomatch hc
 | p::C,g,nd,y,h,c,hc=>by
  rw [jG] at nd;have e:q∣((p::C).map fun c=>ao M C (M p) c*y c).sum:=by
   obtain ⟨z,hz⟩:=JV M C (M p);have e1:(fun c=>ao M C (M p) c*y c)=fun c=>ar M C*(M p c*y c)+a7 C.length fun i=>z i*(M (C.getD i 0) c*y c):=by
    funext c
    rw [hz c,Int.add_mul,ja,dM (a7 _ _),jw]
    congr 1
    exact gE fun i _=>by grind
   rw [e1,xW,lZ,Eh];refine si (zo (h p (hZ ..))) (Kn fun i hi=>?_);rw [lZ];refine zo (h _ (fA _ ?_));rw [gX,b6 hi];exact dj hi
  rw [cG,cK,l5 (fun c hc=>by rw [Am hc,eY]),Int.add_zero] at e
  have yp:q∣y p:=UJ hq g.2 e;have hC:∀r∈C,q∣(C.map fun c=>M r c*y c).sum:=fun r hr=>by
   have:=h r (fA _ hr);rw [cG,cK] at this;have e2:=Int.dvd_sub this (zo (b:=M r p) yp)
   rwa [show ∀x y:Int,x+y-x=y from fun x y=>by lia] at e2
  rcases c_.mp hc with rfl | hc;·exact yp
  ·exact EB hq g.1 nd.2 y hC c hc
end
structure Ko (H:Hp) (a:Addr) (n m:Nat) (ra:Nat→Addr) (vf:Nat→Nat→V):Prop where
 lst:H a=some (.lst ((List.range n).map fun i=>V.ref (ra i)))
 at':∀i,i<n→H (ra i)=some (.lst ((List.range m).map (vf i)))
section
variable {q:Int} {M:aQ} {o:List Nat} {n k:Nat}
theorem x9(ho:o.Perm (List.range n))(k:Nat):(cO o k).Nodup:=by unfold cO;exact (zm _).nodup_iff.mpr ((wI k o).nodup (fk ho))
end
def ke(H:Hp)(q:Int)(n:Nat)(vf:Nat→Nat→V):Prop:=∀i j,i<n→j<n→∃x m,bj 1000 H q (vf i j) x m∧j_ q x m
theorem bj.iL(h:bj B H q v x m)(t:bW H T)(o:aX T H H'):bj B H' q v x m:=by
 obtain ⟨z,ez⟩:=t;cases h with
 | bU ep l bx bm=>exact .bU (o _ _ (fun zz=>by rw [zz,ez] at ep;cases ep) ep) l bx bm
 | rem a b c=>exact .rem a b c
theorem UK(hq:aZ q)(h:aO Y H q v 1 1):∃x m,bj 1000 H q v x m∧j_ q x m:=by
 by_cases q0:q=0
 ·obtain ⟨x,m,g1,g2,g3⟩:=Km h (by decide) (by decide) q0
  exact ⟨x,m,g1,fun _=>⟨bE g2 (by decide),kz g3 (by decide)⟩⟩
 ·obtain ⟨x,m,g1,_⟩:=h.bd (Y:=1000) (by decide) (by decide)
  exact ⟨x,m,g1,fun z=>absurd z q0⟩
def UL:Sp:=fun vs H Q _=>∃(td T lk:Addr) (q:Int) (n:Nat) (us:List V) (L:bS),vs=[.ref td,.ref T,.int (n:Int),.ref lk]∧gH H td q∧aZ q∧bW H T∧n≤60∧lk≠T∧H lk=some (.lst us)∧eB H us L∧(∀z∈L,0≤z.1∧z.1<z.2∧z.2<(n:Int)) ∧
 ∀(D:Addr) (rs:Nat→Addr) (vf:Nat→Nat→V) (H':Hp),aX T H H'→bW H' T→H D=none→(∀i,i<n→H (rs i)=none)→WTab H' D n rs vf→ke H' q n vf→Q (.ref D) H'
section
variable {q:Int} {B X n m k b:Nat} {N N0:aQ} {E:Nat→Int} {H H':Hp} {vf:Nat→Nat→V}
end
end My
namespace L2
open PySem PySem.Spec PyProof.Rows
section
variable {X:Cx} {tg:Expr}
def tP(c lo:Int)(n:Nat):It:=⟨fun i _=>i<n,fun i H x H'=>H'=H∧x=.int (lo+i*c),fun i _=>n≤i⟩
theorem UM{P:Program}{w:World}{K:aC}(it:Addr)(c lo:Int)(n:Nat):Turn P w K tg (tP c lo n) [it] it (fun i h=>IsRangeIter h it (lo+(i:Nat)*c) ((n:Int)-(i:Nat)) c) where
 mem:=by simp
 obj:=fun i h st b hb=>by
  have e:b=it:=by simpa using hb
  subst e;exact ⟨_,st,fun v z=>by have z':Data.fields _=Data.cell v:=z;cases z'⟩
 keep:=fun i h h' st k=>k it (by simp) _ st
 item:=by
  intro X hP hw hK hc i pins s σ H E I hf st hg;subst hP hw hK;obtain ⟨f0,f1,f2,f3,f4,f5⟩:=hf it (by simp)
  have W:=Walks.range (prog:=X.prog) (w:=X.w) (I.ok.hd hc) it lo c n;refine W.item i s _ _ hg st fun v h' tk hv gM kk=>?_;obtain ⟨t,rfl⟩:=hv;have I1:Inv X pins σ H {s with heap:=h',toks:=tk}:=I.turned (fun b o hb e=>kk b o (by simpa using hb) e) f0 f1 f3 f4 f5
  refine ⟨_,rfl,sC (s:={s with heap:=h',toks:=tk}) (n:="range_iterator") gM rfl rfl (by decide) ⟨.int (lo+i*c),H,I1,⟨t,rfl⟩,⟨rfl,rfl⟩,gM,fun b hb=>(hf b hb).1⟩⟩
 done:=by
  intro X hP hw hK hc i pins s σ H E I hf st hg;subst hP hw hK;obtain ⟨f0,f1,f2,f3,f4,f5⟩:=hf it (by simp)
  exact wpAny_pyNext_range_end (I.ok.hd hc) st (by have:n≤i:=hg;lia) fun h' eb=>⟨rfl,I.turned (t':=s.toks) (fun b o hb e=>eb b o hb e) f0 f1 f3 f4 f5⟩
 self:=fun _ _ _ _ _ st h=>wpAny_pyIter_rangeiter st h
variable {σ:St} {H:Hp} {c lo:Int}
theorem UN{pins:a9}{s:Shared}{R:It→Hp→Prop}{E:aN}{hi:Int}(c0:0<c){t u v:Tok}{tk:Nat}(I:Inv X pins σ H s)(UO:Builtin.Range.small lo hi c=true)
  (q:R (tP c lo (Builtin.Range.rangeSize lo hi c).toNat) H):wpAny (model X.prog X.w) X.A (pyIter (.ref s.heap.objs.size)) (zF X pins σ tg R) E {s with heap:=s.heap.push {cls:=.type "range",data:=.fields #[.int lo t,.int hi u,.int c v]},toks:=tk}:=by
 refine wpAny_pyIter_range (IsRange.new ..) UO ?_;have I1:Inv X pins σ H {s with heap:=s.heap.push {cls:=.type "range",data:=.fields #[.int lo t,.int hi u,.int c v]},toks:=tk}:=I.kept fun b o e=>cF _ e
 refine ⟨(s.heap.push {cls:=.type "range",data:=.fields #[.int lo t,.int hi u,.int c v]}).objs.size,[(s.heap.push {cls:=.type "range",data:=.fields #[.int lo t,.int hi u,.int c v]}).objs.size],_,_,H,rfl,
  I1.kept (t':=tk) fun b o e=>cF _ e,UM _ c lo (Builtin.Range.rangeSize lo hi c).toNat,?_,fun b hb=>?_,q⟩
 ·have e1:lo+((0:Nat):Int)*c=lo:=by simp
  have e2:(((Builtin.Range.rangeSize lo hi c).toNat:Nat):Int)-((0:Nat):Int)=Builtin.Range.rangeSize lo hi c:=by
   have:0≤Builtin.Range.rangeSize lo hi c:=by
    unfold Builtin.Range.rangeSize;rw [ak c0]
    split
    ·have:=zp (show 0≤hi-lo-1 by lia) (Int.le_of_lt c0)
     lia
    ·lia
   lia
  show IsRangeIter _ _ (lo+((0:Nat):Int)*c) ((((Builtin.Range.rangeSize lo hi c).toNat:Nat):Int)-((0:Nat):Int)) c;rw [e1,e2];exact eX _ rfl
 ·have e:b=(s.heap.push {cls:=.type "range",data:=.fields #[.int lo t,.int hi u,.int c v]}).objs.size:=by simpa using hb
  subst e;exact I1.pB (aG _) (I1.aD.fresh (aG _))
theorem UP{a b:Int}(c0:0<c)(c1:c≤1000)(h1:-(2 ^ 61)≤a)(h2:a<2 ^ 61)(h3:-(2 ^ 61)≤b)(h4:b<2 ^ 61):Builtin.Range.small a b c=true:=by
 have f:∀{x:Int},-(2 ^ 63)≤x→x<2 ^ 63→Builtin.Range.rangeFitsLong x=true:=fun{x} h1 h2=>by unfold Builtin.Range.rangeFitsLong;simp;lia
 have e:0≤Builtin.Range.rangeSize a b c∧Builtin.Range.rangeSize a b c<2 ^ 63:=by
  unfold Builtin.Range.rangeSize;rw [ak c0]
  split
  ·have g1:=zp (show 0≤b-a-1 by lia) (Int.le_of_lt c0)
   have g2:=Int.ediv_le_self c (show 0≤b-a-1 by lia)
   lia
  ·lia
 unfold Builtin.Range.small;rw [f (x:=a) (by lia) (by lia),f (x:=b) (by lia) (by lia),f (x:=c) (by lia) (by lia),f (x:=Builtin.Range.rangeSize a b c) (by lia) (by lia),ak c0,f (x:=b+(c-1)) (by lia) (by lia)]
 simp
def UQ(ta:TA):TI:=fun σ H R=>ta σ H fun vs H1=>∃i j c:Int,vs=[.int i,.int j,.int c]∧(0<c∧c≤1000∧-(2 ^ 61)≤i∧i<2 ^ 61∧-(2 ^ 61)≤j∧j<2 ^ 61)∧R (tP c i (Builtin.Range.rangeSize i j c).toNat) H1
theorem UR{a b c:Expr}{ta:TA}{p pos:Pos}(hg:Gl X "range")(hm:X.mg "range"=none)(ha:PA X [a,b,c] ta)(hs:starEach [a,b,c] X.env=[(false,eval a X.env),(false,eval b X.env),(false,eval c X.env)]:=by rfl)(lJ:starEach [b,c] X.env=[(false,eval b X.env),(false,eval c X.env)]:=by rfl) :
  PI X tg (.Call (.Name "range" p) [a,b,c] [] pos) (UQ ta):=by
 intro pins s σ H R I h;refine Call_ (nN I hg hm boot_range (rZ (aR (ha pos pins s σ H _ I h) fun us s1 ⟨vs,H1,I1,r1,q1⟩=>?_) (by rw [hs,lJ]) (by rw [lJ];rfl)))
 obtain ⟨i,j,c,e,⟨c0,c1,q1,q2,q3,q4⟩,q⟩:=q1;subst e;cases r1 with
 | cons r rr=>
  cases rr with
  | cons r' rr=>
   cases rr with
   | cons r3 rr=>
    cases rr;obtain ⟨t,rfl⟩:=r;obtain ⟨t',rfl⟩:=r';obtain ⟨t3,rfl⟩:=r3;refine call_range_3 (by lia) (UN c0 I1 (UP c0 c1 q1 q2 q3 q4) q) (.inl ?_)
    have z:decide ((if (c == 0)=true then 0 else c.natAbs.log2 / 30+1)>300)=false:=by
     refine cJ ?_
     split
     ·lia
     ·have:=Nat.log2_le_self c.natAbs
      have h:c.natAbs.log2≤1000:=by lia
      lia
    unfold Builtin.divisionGoesByPylong;dsimp only;rw [z];rfl
theorem US{n:Nat}{g:TG}{tb:TS}{D:Ends}(Pv:Nat→St→Hp→Prop)(h0:Pv 0 σ H)
  (hs:∀i σ H,i<n→Pv i σ H→g (.int (lo+i*c)) σ H fun σ2 H2=>tb {D with nx:=Pv (i+1),ct:=Pv (i+1),bk:=D.nx} σ2 H2) (hd:∀σ H,Pv n σ H→D.nx σ H) :
  ∃W:Nat→Nat→St→Hp→Prop,(∃m,W 0 m σ H)∧∀i m σ H,W i m σ H→
   ((tP c lo n).stop i H∧D.nx σ H)∨((tP c lo n).go i H∧∃N:St→Hp→Prop,(∀σ' H',N σ' H'→∃m',m'<m∧W (i+1) m' σ' H')∧∀x H',(tP c lo n).f_ i H x H'→g x σ H' fun σ2 H2=>tb {D with nx:=N,ct:=N,bk:=D.nx} σ2 H2):=by
 refine ⟨fun i m σ H=>m=n-i∧i≤n∧Pv i σ H,⟨n,by simp,b_ _,h0⟩,?_⟩
 rintro i m σ H ⟨rfl,hi,p⟩;by_cases bV:i<n
 ·refine .inr ⟨bV,Pv (i+1),fun σ' H' p'=>⟨n-(i+1),by lia,rfl,bV,p'⟩,fun x H' y=>?_⟩
  obtain ⟨e,y⟩:=y;subst e y;exact hs i σ _ bV p
 ·have e:i=n:=by lia
  subst e;exact .inl ⟨aG _,hd σ H p⟩
end
end L2
namespace My
open PySem L2
def l6(q x m:Int):Prop:=(q=0→x.natAbs≤3∧m∣6∧0<m)∧(q≠0→0≤x∧x<q∧q≤997∧m=1)
variable {H:Hp} {q x m:Int} {v:V}
theorem Kp{B:Nat}(h:bj B H q v x m)(s:j_ q x m):l6 q x m:=by
 cases h with
 | bU e l bx bm=>exact ⟨fun z=>⟨(s z).1,(s z).2,l.pos⟩,fun z=>absurd rfl z⟩
 | rem a b c=>exact ⟨fun z=>by lia,fun _=>⟨a,b,c,rfl⟩⟩
def ag(q:Int)(n:Nat)(f:Nat→Nat→Int×Int):Nat→Nat→Int:=fun i j=>if i<n∧j≤n then (if q=0 then (f i j).1*(6 / (f i j).2) else (f i j).1) else 0
def l7(q:Int):Nat→Int:=fun _=>if q=0 then 6 else 1
section
variable {q:Int} {n:Nat} {f:Nat→Nat→Int×Int} {H:Hp}
theorem Ax(h:∀i j,i<n→j≤n→l6 q (f i j).1 (f i j).2)(i j:Nat):(ag q n f i j).natAbs≤997:=by
 unfold ag
 split
 ·rename_i sv
  have hs:=h i j sv.1 sv.2
  split
  ·rename_i z
   obtain ⟨h1,⟨c,hc⟩,h3⟩:=hs.1 z;have e:6 / (f i j).2=c:=by rw [hc];exact i_ _ (by lia)
   have c6:c.natAbs≤6:=by
    have:(6:Int).natAbs=(f i j).2.natAbs*c.natAbs:=by rw [←gv,←hc]
    have m1:1≤(f i j).2.natAbs:=by lia
    have:=kD c.natAbs m1;have e6:(6:Int).natAbs=6:=rfl;lia
   rw [e,gv];exact bE (gZ h1 c6) (by decide)
  ·rename_i z
   have:=hs.2 z;lia
 ·decide
theorem Ay(i:Nat):(l7 q i).natAbs≤997:=by unfold l7;split <;> decide
theorem EC(hq:aZ q)(i:Nat):¬q∣l7 q i:=by
 unfold l7
 split
 ·rename_i z
  rw [z];intro d;have:=jc.mp d;lia
 ·exact xT hq
variable {i j:Nat}
theorem ED(h:∀i j,i<n→j≤n→l6 q (f i j).1 (f i j).2)(hi:i<n)(hj:j≤n):q∣(f i j).1*l7 q i-ag q n f i j*(f i j).2:=by
 have hs:=h i j hi hj;have e1:ag q n f i j=if q=0 then (f i j).1*(6 / (f i j).2) else (f i j).1:=by unfold ag;rw [ak ⟨hi,hj⟩]
 rw [e1];unfold l7
 split
 ·rename_i z
  obtain ⟨h1,⟨c,hc⟩,h3⟩:=hs.1 z;have e:6 / (f i j).2=c:=by rw [hc];exact i_ _ (by lia)
  rw [e];exact ⟨0,by rw [hc];grind⟩
 ·rename_i z
  rw [(hs.2 z).2.2.2];exact ⟨0,by grind⟩
theorem EE(z:(f i j).1=0):ag q n f i j=0:=by
 unfold ag
 split
 ·split
  ·rw [z,eY]
  ·exact z
 ·rfl
theorem Kq:∀n,n≤9→1000≤dh n 997∧dh n 997≤10 ^ 100:=fun n hn=>(show ∀n∈List.range 10,1000≤dh n 997∧dh n 997≤10 ^ 100 by decide +kernel) n (cA.mpr (by lia))
def b9(n m:Nat)(f:Nat→Nat→Int×Int):List (List (Int×Int)):=(List.range n).map fun i=>(List.range m).map (f i)
theorem x_{m:Nat}(hi:i<n)(hj:j<m):atT (b9 n m f) i j=f i j:=by
 unfold atT b9;have h1:i<((List.range n).map fun i=>(List.range m).map (f i)).length:=by simpa using hi
 have h2:j<((List.range m).map (f i)).length:=by simpa using hj
 rw [getD_at h1,d8,ig,getD_at h2,d8,ig]
theorem UT{m:Nat}:(b9 n m f).length=n:=by unfold b9;simp
theorem UU{m:Nat}:∀ps∈b9 n m f,ps.length=m:=fun ps h=>by unfold b9 at h;obtain ⟨i,_,rfl⟩:=iT.mp h;simp
variable {B:Nat} {a:Addr}
theorem UW{m:Nat}{lv:Nat→V}{f:Nat→Int×Int}(h:dy H a m lv)(k:∀j,j<m→bj B H q (lv j) (f j).1 (f j).2):lS B H q a ((List.range m).map f):=by
 refine ⟨_,h,by simp,fun i v p h1 h2=>?_⟩
 have hi:i<m:=by have:=(bQ.mp h1).1;simpa using this
 rw [cx,ku hi] at h1 h2;cases h1;cases h2;exact k i hi
variable {vf:Nat→Nat→V}
theorem UX{m:Nat}{ra:Nat→Addr}(h:Ko H a n m ra vf)(k:∀i j,i<n→j<m→bj B H q (vf i j) (f i j).1 (f i j).2):kZ B H q a (b9 n m f):=by
 refine ⟨_,h.lst,by unfold b9;simp,fun i v ps h1 h2=>?_⟩
 have hi:i<n:=by have:=(bQ.mp h1).1;simpa using this
 unfold b9 at h2;rw [cx,ku hi] at h1 h2;cases h1;cases h2;exact ⟨ra i,rfl,UW (h.at' i hi) fun j hj=>k i j hi hj⟩
theorem WTab.r{rs:Nat→Addr}(h:WTab H a n rs vf):Ko H a n n rs vf:=⟨h.lst,h.at'⟩
end
inductive gT (H:Hp) (f:Addr) (q:Int) (X n:Nat) (o:List Nat) (M:aQ) (L:bS) (r:Addr) (lv:Nat→V) (at':Nat):Prop where
 | one (g:Nat→List Nat):aW q M (cO o n)→(∀p,p<n→dO n o p (g p)∧dD n L o p (g p))→H f=some (.tup [.str (Str.ofString "one"),.ref r,.int (gF n g:Int)])→dy H r n lv→(∀i,i<n→aO X H q (lv i) (cg M (cO o n) n i) (ar M (cO o n)))→at'=1→gT H f q X n o M L r lv at'
 | fU (k:Nat) (hk:k<o.length):aW q M (cO o k)→q∣ao M (cO o k) (M o[k]) o[k]→H f=some (.tup [.str (Str.ofString "stops"),.int ((k:Int)+1),.ref r])→dy H r n lv→(∀i,i<n→aO X H q (lv i) (bN M o k o[k] i) (ar M (cO o k)))→at'=2→gT H f q X n o M L r lv at'
variable {H':Hp} {X n:Nat} {o:List Nat}
theorem gT.mono{f:Addr}{M:aQ}{L:bS}{r:Addr}{lv:Nat→V}{at':Nat}(h:gT H f q X n o M L r lv at')(s:af H H'):gT H' f q X n o M L r lv at':=by
 cases h with
 | one g a b c d e z=>exact .one g a b (s _ _ c) (s _ _ d) (fun i hi=>(e i hi).mono s) z
 | fU k hk a b c d e z=>exact .fU k hk a b (s _ _ c) (s _ _ d) (fun i hi=>(e i hi).mono s) z
section
variable {q:Int} {M:aQ} {o:List Nat} {n k k':Nat}
theorem Kr(ho:o.length=n)(hk:k<o.length)(dR:k'<o.length)(g:aW q M (cO o k))(d:q∣ao M (cO o k) (M o[k]) o[k])(g':aW q M (cO o k'))(d':q∣ao M (cO o k') (M o[k']) o[k']):k=k':=by
 rcases Nat.lt_trichotomy k k' with h | h | h
 ·have:=j8 g' (show k+1≤k' by lia)
  rw [mZ hk] at this;exact absurd d this.2
 ·exact h
 ·have:=j8 g (show k'+1≤k by lia)
  rw [mZ dR] at this;exact absurd d' this.2
theorem tQ(ho:o.length=n)(hk:k<o.length)(d:q∣ao M (cO o k) (M o[k]) o[k])(g:aW q M (cO o n)):False:=by
 have:=j8 g (show k+1≤n by lia)
 rw [mZ hk] at this;exact this.2 d
end
variable {Y:Nat} {v':V}
theorem Ks(hq:aZ q){T U T' U':Int}(h:aO X H q v T U)(h':aO Y H q v' T' U')(e:Cg q (T*U') (T'*U)):∃x m,bj X H q v x m∧bj Y H q v' x m:=by
 have h2:=h.eq hq e h'.choose_spec.choose_spec.2.2;obtain ⟨x,m,a1,a2,a3⟩:=h2;obtain ⟨x',m',b1,b2,b3⟩:=h';have c:Cg q (x*m') (x'*m):=by
  have c1:Cg q (U'*(x*m')) (U'*(x'*m)):=by have d1:Cg q (m'*(x*U')) (m'*(T'*m)):=Cg.mulL m' a2;have d2:Cg q (m*(x'*U')) (m*(T'*m')):=Cg.mulL m b2;exact (Cg.of_eq (by grind)).trans (d1.trans ((Cg.of_eq (by grind)).trans (d2.symm.trans (Cg.of_eq (by grind)))))
  have c2:Cg q (U'*(x*m'-x'*m)) 0:=(Cg.of_eq (by grind)).trans ((c1.sub (Cg.refl _)).trans (Cg.of_eq (mr _)))
  have:=xU hq a3 c2;unfold Cg at this ⊢
  rwa [kB] at this
 cases a1 with
 | bU ea la _ _=>
  cases b1 with
  | bU eb lb bx bm=>
   have e:x*m'=x'*m:=by unfold Cg at c;have:=jc.mp c;lia
   obtain ⟨e1,e2⟩:x=x'∧m=m':=by have u1:=Jn la lb.pos e;have u2:=Jn lb lb.pos rfl;exact ⟨u1.1.trans u2.1.symm,u1.2.trans u2.2.symm⟩
   subst e1 e2;exact ⟨x,m,.bU ea la (by assumption) (by assumption),.bU eb lb bx bm⟩
  | rem=>lia
 | rem a b d=>
  cases b1 with
  | bU=>lia
  | rem a' b' d'=>
   have:x=x':=by
    rw [fW,fW] at c;obtain ⟨k,hk⟩:=c;have:k=0:=by
     rcases Int.lt_trichotomy k 0 with z | z | z
     ·have:q*k≤q*(-1):=se (by lia) (by lia)
      lia
     ·exact z
     ·have:q*1≤q*k:=se (by lia) (by lia)
      lia
    rw [this,fc] at hk;lia
   subst this;exact ⟨x,1,.rem a b d,.rem a' b' d'⟩
theorem EF{K:aC}(h:bj X H q v x m)(h':bj Y H q v' x m):mT K H 1 v v':=by
 cases h with
 | bU e l _ _=>
  cases h' with
  | bU e' l' _ _=>exact .inr ⟨_,_,_,_,rfl,rfl,.inr ⟨.of e,.of e'⟩,rfl,fun j x y hx hy=>by
    rw [hx] at hy;cases hy
    match j,hx with
    | 0,hx=>cases hx;exact ⟨rfl,rfl⟩
    | 1,hx=>cases hx;exact ⟨rfl,rfl⟩
    | j+2,hx=>simp at hx⟩
  | rem a b d=>lia
 | rem a b d=>
  cases h' with
  | bU=>lia
  | rem=>exact .inl ⟨rfl,rfl⟩
structure fz (H:Hp) (q:Int) (tab od am:Addr) (n:Nat) (o:List Nat) (rs:Nat→Addr) (vf:Nat→Nat→V) (av:Nat→V) (f:Nat→Nat→Int×Int):Prop where
 tab:WTab H tab n rs vf
 ord:H od=some (.lst (az o))
 cE:o.Perm (List.range n)
 tR:dy H am n av
 num:∀i j,i<n→j<n→bj 1000 H q (vf i j) (f i j).1 (f i j).2
 tS:∀i,i<n→bj 1000 H q (av i) (f i n).1 (f i n).2
 sm:∀i j,i<n→j≤n→l6 q (f i j).1 (f i j).2
variable {vf:Nat→Nat→V} {av:Nat→V}
theorem fz.mono{tab od am:Addr}{rs:Nat→Addr}{f:Nat→Nat→Int×Int}(h:fz H q tab od am n o rs vf av f)(s:af H H'):fz H' q tab od am n o rs vf av f:=
 ⟨h.tab.mono s,s _ _ h.ord,h.cE,s _ _ h.tR,fun i j hi hj=>(h.num i j hi hj).mono s,fun i hi=>(h.tS i hi).mono s,h.sm⟩
def UY(K:aC):Sp:=fun vs H Q _=>∃(sc:Addr) (ns:List Int) (k:Nat),vs=[.ref sc,.int (k:Int)]∧bZ K H sc (ns.map V.int)∧k≤900 ∧
 ∀(tp td tab od am:Addr) (q:Int) (n:Nat) (o:List Nat) (rs:Nat→Addr) (vf:Nat→Nat→V) (av:Nat→V) (f:Nat→Nat→Int×Int) (H':Hp),af H H'→H' tp=some (.tup [.ref td,.ref tab,.ref od,.ref am])→gH H' td q→aZ q→1≤n→n≤6→fz H' q tab od am n o rs vf av f→H tab=none→H od=none→H am=none→(∀i,i<n→H (rs i)=none)→Q (.ref tp) H'
theorem Kt(h1:ke H q n vf)(h2:∀i,i<n→∃x m,bj 1000 H q (av i) x m∧j_ q x m):∃f:Nat→Nat→Int×Int,(∀i j,i<n→j<n→bj 1000 H q (vf i j) (f i j).1 (f i j).2)∧(∀i,i<n→bj 1000 H q (av i) (f i n).1 (f i n).2)∧∀i j,i<n→j≤n→l6 q (f i j).1 (f i j).2:=by
 have g1:∀i j,i<n→j<n→∃p:Int×Int,bj 1000 H q (vf i j) p.1 p.2∧l6 q p.1 p.2:=fun i j hi hj=>let ⟨x,m,a,b⟩:=h1 i j hi hj;⟨(x,m),a,Kp a b⟩
 have g2:∀i,i<n→∃p:Int×Int,bj 1000 H q (av i) p.1 p.2∧l6 q p.1 p.2:=fun i hi=>let ⟨x,m,a,b⟩:=h2 i hi;⟨(x,m),a,Kp a b⟩
 refine ⟨fun i j=>if h:i<n then (if h':j<n then (g1 i j h h').choose else (g2 i h).choose) else (0,1),fun i j hi hj=>?_,fun i hi=>?_,fun i j hi hj=>?_⟩
 ·dsimp only
  rw [dif_pos hi,dif_pos hj];exact (g1 i j hi hj).choose_spec.1
 ·dsimp only
  rw [dif_pos hi,dif_neg (by lia)]
  exact (g2 i hi).choose_spec.1
 ·dsimp only
  rw [dif_pos hi];by_cases h:j<n
  ·rw [dif_pos h]
   exact (g1 i j hi h).choose_spec.2
  ·rw [dif_neg h]
   exact (g2 i hi).choose_spec.2
section
variable {H:Hp} {q:Int} {tab od am:Addr} {n:Nat} {o:List Nat} {rs:Nat→Addr} {vf:Nat→Nat→V} {av:Nat→V} {f:Nat→Nat→Int×Int}
variable {i:Nat}
theorem fz.oz(hq:aZ q)(h:fz H q tab od am n o rs vf av f){j:Nat}(hi:i<n)(hj:j<n):aO 997 H q (vf i j) (ag q n f i j) (l7 q i):=Er (h.num i j hi hj) (ED h.sm hi (by lia)) (EC hq i) (Ax h.sm i j) (Ay i)
theorem fz.UZ(hq:aZ q)(h:fz H q tab od am n o rs vf av f)(hi:i<n):aO 997 H q (av i) (ag q n f i n) (l7 q i):=Er (h.tS i hi) (ED h.sm hi (aG _)) (EC hq i) (Ax h.sm i n) (Ay i)
theorem fz.dY(hq:aZ q)(h:fz H q tab od am n o rs vf av f)(n9:n≤9):Ar q n (dh n 997) (b9 n n f) o (ag q n f) (l7 q):=
 Ut (by decide) (Ax h.sm) Ay (cw h.cE) (fun i j hi hj=>by rw [x_ hi hj];exact ED h.sm hi (by lia)) (EC hq) (fun i j hi hj z=>EE (by rw [x_ hi hj] at z;exact z)) (Kq n n9).1 (Kq n n9).2
end
section
variable {q:Int} {M:aQ} {o:List Nat} {n k:Nat}
theorem tT(ho:o.Perm (List.range n))(hk:k<o.length)(r:Nat):((List.range n).map fun c=>M r c*bN M o k o[k] c).sum=ao M (cO o k) (M r) o[k]:=by
 have lo:=cw ho;have ht:o[k]<n:=(bF ho).mp (dj hk);have it:o.idxOf o[k]=k:=hV (fk ho) hk;have nd:=x9 ho k;have tC:o[k]∉cO o k:=fun z=>by have:=((ck ho).mp z).2;lia
 rw [JY nd tC,p4 (p:=0) (l:=o[k]::cO o k) wX (jG.mpr ⟨tC,nd⟩) (fun c hc=>cA.mpr (by
  rcases c_.mp hc with rfl | hc;·exact ht
  ·exact ((ck ho).mp hc).1)) fun c hc nc=>?_,cG,cK]
 ·have e:((cO o k).map fun c=>M r c*bN M o k o[k] c)=(cO o k).map fun c=>-1*(M r c*cg M (cO o k) o[k] c):=de fun c hc=>by have h1:c≠o[k]:=fun z=>tC (z▸hc);unfold bN;rw [aj h1,ak ((ck ho).mp hc).2];grind
  rw [e,lZ];unfold bN;rw [ak rfl];grind
 ·rw [c_,not_or] at nc
  have cn:=cA.mp hc;have:¬o.idxOf c<k:=fun z=>nc.2 ((ck ho).mpr ⟨cn,z⟩);unfold bN;rw [aj nc.1,aj this,fc]
theorem Ku(ho:o.Perm (List.range n)):(cO o n).Perm (List.range n):=by
 unfold cO;rw [kC (by rw [cw ho];exact aG _)]
 exact (zm _).trans ho
theorem ya(hq:aZ q)(ho:o.Perm (List.range n))(g:aW q M (cO o n)){r:Nat}(hr:r<n):((List.range n).map fun c=>M r c*cg M (cO o n) n c).sum=ar M (cO o n)*M r n:=by
 have pm:=Ku ho;rw [←Eg hq g (x9 ho n) (fun z=>by have:=((ck ho).mp z).1;lia) (pm.mem_iff.mpr (cA.mpr hr))]
 exact (As (pm.map _)).symm
end
theorem gH.at{td:Addr}(h:gH H td q):Jm H td q:=by
 unfold Jm lU;rcases h with ⟨h1,h2⟩ | ⟨h1,h2⟩;·rw [ak h1];exact h2
 ·rw [aj h1];exact h2
def EG(Cl:Addr→Prop)(H H':Hp):Prop:=∀b o,¬Cl b→H b=some o→H' b=some o
def yb(Cl:Addr→Prop)(H:Hp):Prop:=∀l,Cl l→∃ys,H l=some (.lst ys)
section
variable {Cl:Addr→Prop} {H H':Hp} {q:Int}
theorem yb.tup(h:yb Cl H){b:Addr}{xs:List V}(e:H b=some (.tup xs)):¬Cl b:=fun z=>by obtain ⟨ys,ey⟩:=h b z;rw [ey] at e;cases e
variable {B:Nat}
theorem bj.tU(h:bj B H q v x m)(l:yb Cl H)(o:EG Cl H H'):bj B H' q v x m:=by
 cases h with
 | bU e a b c=>exact .bU (o _ _ (l.tup e) e) a b c
 | rem a b c=>exact .rem a b c
theorem aO.tU{t u:Int}(h:aO B H q v t u)(l:yb Cl H)(o:EG Cl H H'):aO B H' q v t u:=let ⟨x,m,a,b⟩:=h;⟨x,m,a.tU l o,b⟩
theorem gT.tU{f r:Addr}{od:List Nat}{M:aQ}{L:bS}{lv:Nat→V}{at':Nat}(h:gT H f q X n od M L r lv at')(l:yb Cl H)(o:EG Cl H H')(nr:¬Cl r):gT H' f q X n od M L r lv at':=by
 cases h with
 | one g a b c d e z=>exact .one g a b (o _ _ (l.tup c) c) (o _ _ nr d) (fun i hi=>(e i hi).tU l o) z
 | fU k hk a b c d e z=>exact .fU k hk a b (o _ _ (l.tup c) c) (o _ _ nr d) (fun i hi=>(e i hi).tU l o) z
variable {f f2 r r2:Addr} {X n:Nat} {o:List Nat} {M:aQ} {L:bS} {lv eU:Nat→V} {at' at2:Nat}
theorem iM{α:Type}{j:Nat}{lv:Nat→α}{x:α}(h:((List.range n).map lv)[j]?=some x):j<n∧x=lv j:=by
 have hj:j<n:=by have:=(bQ.mp h).1;simpa using this
 rw [cx,ku hj] at h;exact ⟨hj,(Option.some.inj h).symm⟩
end
section
variable {q:Int} {M:aQ} {D:Nat→Int} {o:List Nat} {n:Nat}
end
theorem EH(ho:o.Perm (List.range n)){p:Nat}(hp:p<n):(o.map iN)[o.idxOf p]?=some (p:Int)∧∀m,m<o.idxOf p→(o.map iN)[m]?≠some (p:Int):=by
 obtain ⟨h1,h2⟩:=cT ((bF ho).mpr hp);refine ⟨?_,fun m hm e=>?_⟩
 ·rw [cx,b6 h1,h2]
  rfl
 ·have Kv:m<o.length:=by lia
  rw [cx,b6 Kv] at e;have e':((o[m]:Nat):Int)=(p:Int):=Option.some.inj e;have e2:o[m]=p:=by lia
  have:=hV (fk ho) Kv;rw [e2] at this;lia
end My
namespace L2
open PySem PySem.Spec PyProof.Rows
theorem U3{X:Cx}{K:aC}{o e:Expr}{es:List Expr}{to:TE}{t:TA}{name:Str}{apos fH:Pos}{T id:String}{r:V→List V→Hp→VK→Prop}(pa:PlainAttrs T)(slot:Slot T name id)(xu:typeOf (.builtin id)=pure (.type "method_descriptor"))(hm:zQ X id r)(ho:PE X o to)(ha:PA X (e::es) t)(hk:X.K=K:=by rfl)
  (xv:attributeBase o name X.env (eval o X.env)=eval o X.env:=by rfl)
  (Dv:((backTo fH (starEach (e::es) X.env)).all (fun x=>!x.1) && (backToKw fH (keywordEach [] X.env)).all (fun x=>x.1.isSome)
   && decide ((e::es).length+([]:List Keyword).length+(if ([]:List Keyword).isEmpty then 0 else 1)<30))=true:=by rfl)
  (xw:(apos.endLine == fH.line)=true:=by rfl) (hs:starEach (e::es) X.env=(false,eval e X.env)::starEach es X.env:=by rfl) (Dw:(backTo fH (starEach es X.env)).any (·.1)=false:=by rfl) :
  PE X (.Call (.Attribute o name apos) (e::es) [] fH) (sP K T r to t):=by
 subst hk;exact jR pa slot xu hm ho ha xv Dv xw hs Dw
end L2
namespace My
open PySem L2
section
variable {Cl:Addr→Prop} {H0 H H':Hp} {q:Int} {X n:Nat} {o:List Nat} {M:aQ} {D:Nat→Int} {fd lo up:Addr} {rl ru:Nat→Addr} {lf uf:Nat→Nat→V}
end
theorem Kw{q:Int}(hq:aZ q){M M':aQ}{n:Nat}{ν:Nat→Nat}(h:∀i j,i<n→j<n→M' (ν i) (ν j)=M i j)(ha:∀i,i<n→M' (ν i) n=M i n):∀{C:List Nat},(∀c∈C,c<n)→aW q M C→aW q M' (C.map ν)∧ar M' (C.map ν)=ar M C∧(∀i j,i<n→j<n→ao M' (C.map ν) (M' (ν i)) (ν j)=ao M C (M i) j)∧∀i,i<n→ao M' (C.map ν) (M' (ν i)) n=ao M C (M i) n
 | [],_,_=>⟨trivial,rfl,fun i j hi hj=>by rw [wJ,gR,gR];exact h i j hi hj,fun i hi=>by rw [wJ,gR,gR];exact ha i hi⟩
 | p::C,hC,g=>by
  have hp:=hC p (hZ ..);obtain ⟨g1,d1,e1,a1⟩:=Kw hq h ha (fun c hc=>hC c (fA _ hc)) g.1;have gJ:=e1 p p hp hp;have d0:=mX (iK hq g.1);rw [cG];refine ⟨⟨g1,by rw [gJ];exact g.2⟩,gJ,fun i j hi hj=>?_,fun i hi=>?_⟩
  ·have s1:=j4 hq g1 (ν p) (M' (ν i)) (ν j)
   have s2:=j4 hq g.1 p (M i) j;rw [gJ,e1 i j hi hj,e1 i p hi hp,e1 p j hp hj,d1] at s1;exact iU d0 (s1.symm.trans s2)
  ·have s1:=j4 hq g1 (ν p) (M' (ν i)) n
   have s2:=j4 hq g.1 p (M i) n;rw [gJ,a1 i hi,e1 i p hi hp,a1 p hp,d1] at s1;exact iU d0 (s1.symm.trans s2)
variable {q:Int} {M:aQ} {n:Nat} {o:List Nat} {x y:Nat→Int}
theorem Kx(hq:aZ q)(ho:o.Perm (List.range n))(g:aW q M (cO o n))(h:∀r,r<n→((List.range n).map fun c=>M r c*x c).sum=((List.range n).map fun c=>M r c*y c).sum):∀c,c<n→Cg q (x c) (y c):=fun c hc=>by
 have pm:=Ku ho;refine EB hq g (x9 ho n) (fun c=>x c-y c) (fun r hr=>?_) c (pm.mem_iff.mpr (cA.mpr hc));rw [As (pm.map _)];have e:((List.range n).map fun c=>M r c*(x c-y c))=(List.range n).map fun c=>M r c*x c + -1*(M r c*y c):=de fun c _=>by grind
 rw [e,xW,lZ,h r (cA.mp (pm.mem_iff.mp hr))];exact ⟨0,by lia⟩
variable {k:Nat}
theorem EI(hq:aZ q)(ho:o.Perm (List.range n))(g:aW q M (cO o k))(out:∀c,c<n→c∉cO o k→x c=y c)(h:∀r∈cO o k,((List.range n).map fun c=>M r c*x c).sum=((List.range n).map fun c=>M r c*y c).sum):∀c,c<n→Cg q (x c) (y c):=fun c hc=>by
 by_cases hC:c∈cO o k
 ·refine EB hq g (x9 ho k) (fun c=>x c-y c) (fun r hr=>?_) c hC
  have e:((List.range n).map fun c=>M r c*(x c-y c)).sum=((cO o k).map fun c=>M r c*(x c-y c)).sum:=p4 (p:=0) wX (x9 ho k) (fun c hc=>cA.mpr ((ck ho).mp hc).1) fun c hc nc=>by rw [out c (cA.mp hc) nc,mr,fc]
  have e2:((List.range n).map fun c=>M r c*(x c-y c))=(List.range n).map fun c=>M r c*x c + -1*(M r c*y c):=de fun c _=>by grind
  rw [←e,e2,xW,lZ,h r hr];exact ⟨0,by lia⟩
 ·rw [out c hc hC]
  exact Cg.refl _
section
variable {q:Int} {n:Nat} {o νl:List Nat}
def a8(νl:List Nat)(k:Nat):Nat:=νl.getD k 0
theorem fV(hν:νl.Perm (List.range n))(hk:k<n):νl.idxOf (a8 νl k)=k∧a8 νl k<n:=by
 have hl:k<νl.length:=by rw [cw hν];exact hk
 unfold a8;rw [getD_at hl];exact ⟨hV (fk hν) hl,(bF hν).mp (dj hl)⟩
theorem m5(hν:νl.Perm (List.range n))(hk:k<n):a8 νl (νl.idxOf k)=k∧νl.idxOf k<n:=by
 have:=cT ((bF hν).mpr hk);refine ⟨?_,by rw [←cw hν];exact this.1⟩
 unfold a8;rw [getD_at this.1];exact this.2
theorem EJ(hν:νl.Perm (List.range n)):((List.range n).map (a8 νl)).Perm (List.range n):=by
 have e:(List.range n).map (a8 νl)=νl:=by
  refine fB (by simp [cw hν]) fun i h1 h2=>?_
  rw [d8,ig];unfold a8;exact getD_at h2
 rw [e];exact hν
theorem Az(hν:νl.Perm (List.range n))(ho:o.Perm (List.range n)):(o.map (a8 νl)).Perm (List.range n):=(ho.map _).trans (EJ hν)
theorem Ky(hν:νl.Perm (List.range n))(F:Nat→Int):((List.range n).map fun c=>F (a8 νl c)).sum=((List.range n).map F).sum:=by
 have:=As ((EJ hν).map F)
 rwa [d5] at this
theorem U4(k:Nat):cO (o.map (a8 νl)) k=(cO o k).map (a8 νl):=by unfold cO;rw [←wZ,List.map_reverse]
theorem U5(hν:νl.Perm (List.range n))(ho:o.Perm (List.range n)){c:Nat}(hc:c<n):(o.map (a8 νl)).idxOf (a8 νl c)=o.idxOf c:=by
 obtain ⟨h1,h2⟩:=cT ((bF ho).mpr hc);have h3:o.idxOf c<(o.map (a8 νl)).length:=by rw [aJ];exact h1
 have:=hV (fk (Az hν ho)) h3
 rwa [d8,h2] at this
def cY(n:Nat)(νl:List Nat)(f:Nat→Nat→Int×Int):Nat→Nat→Int×Int:=fun i j=>f (νl.idxOf i) (if j<n then νl.idxOf j else j)
variable {f:Nat→Nat→Int×Int}
theorem EK(hν:νl.Perm (List.range n))(i j:Nat)(hi:i<n)(hj:j<n):ag q n (cY n νl f) (a8 νl i) (a8 νl j)=ag q n f i j:=by
 obtain ⟨a1,a2⟩:=fV hν hi;obtain ⟨b1,b2⟩:=fV hν hj;have h1:a8 νl i<n∧a8 νl j≤n:=⟨a2,by lia⟩
 have h2:i<n∧j≤n:=⟨hi,by lia⟩
 unfold ag cY;simp only [h1,h2,b2,a1,b1,and_self,dJ]
theorem Kz(hν:νl.Perm (List.range n))(i:Nat)(hi:i<n):ag q n (cY n νl f) (a8 νl i) n=ag q n f i n:=by obtain ⟨a1,a2⟩:=fV hν hi;have h1:a8 νl i<n∧n≤n:=⟨a2,aG _⟩;have h2:i<n∧n≤n:=⟨hi,aG _⟩;unfold ag cY;simp only [h1,h2,a1,dS,and_self,dJ,fb]
theorem U6(hν:νl.Perm (List.range n))(h:∀i j,i<n→j≤n→l6 q (f i j).1 (f i j).2):∀i j,i<n→j≤n→l6 q (cY n νl f i j).1 (cY n νl f i j).2:=fun i j hi hj=>by
 unfold cY
 split
 ·rename_i fq
  exact h _ _ (m5 hν hi).2 (jF (m5 hν fq).2)
 ·exact h _ _ (m5 hν hi).2 hj
end
variable {b:Nat}
theorem oA{au:g7}{a:Nat}:aL n (b7 n (bf au) n) a b↔a<n∧b<n∧a≠b∧bf au a b=true:=by
 have sy:bf au a b=bf au b a:=by unfold bf;exact Bool.or_comm _ _
 constructor
 ·rintro ⟨ha,hb,h | h⟩
  ·obtain ⟨i,j,_,h2,h3,h4,e⟩:=mem_of h
   have e1:=(Prod.mk.inj e).1;have e2:=(Prod.mk.inj e).2;have e1:a=i:=by lia
   have e2:b=j:=by lia
   subst e1 e2;exact ⟨ha,hb,by lia,h4⟩
  ·obtain ⟨i,j,_,h2,h3,h4,e⟩:=mem_of h
   have e1:=(Prod.mk.inj e).1;have e2:=(Prod.mk.inj e).2;have e1:b=i:=by lia
   have e2:a=j:=by lia
   subst e1 e2;exact ⟨ha,hb,by lia,by rw [sy];exact h4⟩
 ·rintro ⟨ha,hb,ne,h⟩
  rcases Nat.lt_or_gt_of_ne ne with l | l;·exact ⟨ha,hb,.inl (xV l hb h ha)⟩
  ·exact ⟨ha,hb,.inr (xV l ha (by rw [←sy];exact h) hb)⟩
variable {f:Nat→Nat}
theorem Wk.mapA{cj KA:Nat→Nat→Prop}{dP lY:Nat→Prop}(ha:∀x y,cj x y→KA (f x) (f y))(ht:∀x,dP x→lY (f x)){s:Nat}(h:Wk cj dP s b):Wk KA lY (f s) (f b):=by
 induction h with
 | one h=>exact .one (ha _ _ h)
 | more _ t a ih=>exact .more ih (ht _ t) (ha _ _ a)
variable {L L':bS}
theorem j7.KC(r:j7 n L L' f){x y:Nat}(h:aL n L x y):aL n L' (f x) (f y):=(r.cj x y h.1 h.2.1).mpr h
theorem KD{f:Nat→Nat}{x:Nat}:∀{o:List Nat},(∀y∈o,f y=f x→y=x)→(o.map f).idxOf (f x)=o.idxOf x
 | [],_=>rfl
 | y::o,h=>by
  rw [cG,List.idxOf_cons,List.idxOf_cons];by_cases e:y=x
  ·subst e
   rw [r_,r_];rfl
  ·have e':¬f y=f x:=fun z=>e (h y hZ z)
   rw [KD fun z hz=>h z (fA _ hz)];rw [km.mpr e,km.mpr e']
theorem j7.p6(r:j7 n L L' f)(ho:o.Perm (List.range n)){x:Nat}(hx:x<n):(o.map f).idxOf (f x)=o.idxOf x:=
 KD fun y hy e=>r.inj y x (cA.mp (ho.mem_iff.mp hy)) hx e
theorem j7.U7(r:j7 n L L' f):∃g,j7 n L' L g∧(∀x,x<n→g (f x)=x)∧∀x,x<n→f (g x)=x:=by
 let g:Nat→Nat:=fun x=>if h:x<n then Classical.choose (r.tN x h) else 0
 have gs:∀x,x<n→g x<n∧f (g x)=x:=fun x hx=>by
  show (if h:x<n then Classical.choose (r.tN x h) else 0)<n∧f (if h:x<n then Classical.choose (r.tN x h) else 0)=x
  rw [dif_pos hx];exact Classical.choose_spec (r.tN x hx)
 have gf:∀x,x<n→g (f x)=x:=fun x hx=>r.inj _ _ (gs _ (r.lt x hx)).1 hx (gs _ (r.lt x hx)).2;refine ⟨g,⟨fun k hk=>(gs k hk).1,fun j k hj hk e=>?_,fun x hx=>⟨f x,r.lt x hx,gf x hx⟩,fun j k hj hk=>?_⟩,gf,fun x hx=>(gs x hx).2⟩;·rw [←(gs j hj).2,e,(gs k hk).2]
 ·rw [←r.cj (g j) (g k) (gs j hj).1 (gs k hk).1,(gs j hj).2,(gs k hk).2]
theorem j7.KG(r:j7 n L L' f)(ho:o.Perm (List.range n)){x y:Nat}(hx:x<n)(hy:y<n):Wk (aL n L') (i4 n (o.map f) ((o.map f).idxOf (f x))) (f x) (f y)↔Wk (aL n L) (i4 n o (o.idxOf x)) x y:=by
 rw [r.p6 ho hx];constructor
 ·intro h
  obtain ⟨g,rg,gf,fg⟩:=r.U7;have:=Wk.mapA (f:=g) (lY:=i4 n o (o.idxOf x)) (fun a b z=>rg.KC z) (fun a ⟨z1,z2⟩=>⟨rg.lt a z1,by have e:=r.p6 ho (rg.lt a z1);rw [fg a z1] at e;rw [←e];exact z2⟩) h
  rw [gf x hx,gf y hy] at this;exact this
 ·intro h
  exact Wk.mapA (f:=f) (fun a b z=>r.KC z) (fun a ⟨z1,z2⟩=>⟨r.lt a z1,by rw [r.p6 ho z1];exact z2⟩) h
theorem KH(inj:∀j k,j<n→k<n→f j=f k→j=k){l:List Nat}(nd:l.Nodup)(lt:∀d∈l,d<n):(l.map f).Nodup:=by rw [CU,zk];exact (CU.mp nd).imp_of_mem fun{a b} ha hb ne e=>ne (inj a b (lt a ha) (lt b hb) e)
variable {p:Nat}
theorem j7.U8(r:j7 n L L' f)(ho:o.Perm (List.range n))(hp:p<n){g g':List Nat}(h:dO n o p g∧dD n L o p g)(h':dO n (o.map f) (f p) g'∧dD n L' (o.map f) (f p) g'):g'.Perm (g.map f):=by
 have nd:∀{l:List Nat},l.Pairwise (· < ·)→l.Nodup:=fun h=>h.imp fun z e=>by lia
 refine (List.perm_ext_iff_of_nodup (nd h'.1.up) (KH r.inj (nd h.1.up) h.1.lt)).mpr fun q=>?_;constructor
 ·intro hq
  have h1:=(h'.2 q).mp hq;obtain ⟨y,hy,rfl⟩:=r.tN q h1.1;rw [r.KG ho hp hy,r.p6 ho hp,r.p6 ho hy] at h1;exact iT.mpr ⟨y,(h.2 y).mpr ⟨hy,h1.2⟩,rfl⟩
 ·intro hq
  obtain ⟨y,hy,rfl⟩:=iT.mp hq;have h1:=(h.2 y).mp hy;refine (h'.2 (f y)).mpr ⟨r.lt y h1.1,?_,(r.KG ho hp h1.1).mpr h1.2.2⟩;rw [r.p6 ho hp,r.p6 ho h1.1];exact h1.2.1
section
variable {q:Int} {n:Nat} {o νl:List Nat} {f:Nat→Nat→Int×Int}
theorem U9(hν:νl.Perm (List.range n)){i j:Nat}(hi:i<n)(hj:j<n):bf (b9 n n (cY n νl f)) (a8 νl i) (a8 νl j)=bf (b9 n n f) i j:=by
 have e:∀a b,a<n→b<n→jy (b9 n n (cY n νl f)) (a8 νl a) (a8 νl b)=jy (b9 n n f) a b:=fun a b ha hb=>by obtain ⟨a1,a2⟩:=fV hν ha;obtain ⟨b1,b2⟩:=fV hν hb;have h1:=x_ (f:=cY n νl f) (m:=n) a2 b2;have h2:=x_ (f:=f) (m:=n) ha hb;unfold atT at h1 h2;unfold jy;rw [h1,h2];unfold cY;rw [ak b2,a1,b1]
 unfold bf;rw [e i j hi hj,e j i hj hi]
theorem U_(hν:νl.Perm (List.range n)):j7 n (b7 n (bf (b9 n n f)) n) (b7 n (bf (b9 n n (cY n νl f))) n) (a8 νl) where
 lt:=fun k hk=>(fV hν hk).2
 inj:=fun j k hj hk e=>by rw [←(fV hν hj).1,←(fV hν hk).1,e]
 tN:=fun x hx=>⟨νl.idxOf x,(m5 hν hx).2,(m5 hν hx).1⟩
 cj:=fun j k hj hk=>by
  rw [oA,oA,U9 hν hj hk];have e:a8 νl j≠a8 νl k↔j≠k:=⟨fun h z=>h (by rw [z]),fun h z=>h (by rw [←(fV hν hj).1,←(fV hν hk).1,z])⟩
  rw [e];exact ⟨fun h=>⟨hj,hk,h.2.2⟩,fun h=>⟨(fV hν hj).2,(fV hν hk).2,h.2.2⟩⟩
theorem Va{l l':List Nat}(p:l.Perm l'):l.sum=l'.sum:=by
 induction p with
 | nil=>rfl
 | cons x _ ih=>rw [cK,cK,ih]
 | swap x y l=>rw [cK,cK,cK,cK];lia
 | trans _ _ a b=>exact a.trans b
theorem Vb(hν:νl.Perm (List.range n))(ho:o.Perm (List.range n)){g g':Nat→List Nat}(h:∀p,p<n→dO n o p (g p)∧dD n (b7 n (bf (b9 n n f)) n) o p (g p))(h':∀p,p<n→dO n (o.map (a8 νl)) p (g' p)∧dD n (b7 n (bf (b9 n n (cY n νl f))) n) (o.map (a8 νl)) p (g' p)):gF n g'=gF n g:=by
 have len:∀p,p<n→(g' (a8 νl p)).length=(g p).length:=fun p hp=>by
  have:=((U_ (f:=f) hν).U8 ho hp (h p hp) (h' _ (fV hν hp).2)).length_eq
  rwa [aJ] at this
 unfold gF;rw [←Va ((EJ hν).map _),d5]
 congr 1
 refine de fun p hp=>?_;show oy _=oy _;rw [len p (cA.mp hp)]
theorem AB(hq:aZ q)(hν:νl.Perm (List.range n))(ho:o.Perm (List.range n))(g:aW q (ag q n f) (cO o k)):aW q (ag q n (cY n νl f)) (cO (o.map (a8 νl)) k)∧ar (ag q n (cY n νl f)) (cO (o.map (a8 νl)) k)=ar (ag q n f) (cO o k)∧(∀i j,i<n→j<n→ao (ag q n (cY n νl f)) (cO (o.map (a8 νl)) k) (ag q n (cY n νl f) (a8 νl i)) (a8 νl j)=ao (ag q n f) (cO o k) (ag q n f i) j)∧∀i,i<n→ao (ag q n (cY n νl f)) (cO (o.map (a8 νl)) k) (ag q n (cY n νl f) (a8 νl i)) n=ao (ag q n f) (cO o k) (ag q n f i) n:=by rw [U4];exact Kw hq (EK hν) (Kz hν) (fun c hc=>((ck ho).mp hc).1) g
theorem Vc(hq:aZ q)(hν:νl.Perm (List.range n))(ho:o.Perm (List.range n))(g:aW q (ag q n f) (cO o n)):∀c,c<n→Cg q (cg (ag q n (cY n νl f)) (cO (o.map (a8 νl)) n) n (a8 νl c)) (cg (ag q n f) (cO o n) n c):=by
 obtain ⟨g',d',_⟩:=AB hq hν ho g;refine Kx hq ho g fun r hr=>?_;rw [ya hq ho g hr,←Kz (q:=q) (f:=f) hν r hr,←d',←ya hq (Az hν ho) g' (fV hν hr).2,←Ky hν fun c'=>ag q n (cY n νl f) (a8 νl r) c'*cg (ag q n (cY n νl f)) (cO (o.map (a8 νl)) n) n c']
 congr 1
 exact de fun c hc=>by rw [EK hν r c hr (cA.mp hc)]
theorem Vd(hq:aZ q)(hν:νl.Perm (List.range n))(ho:o.Perm (List.range n))(hk:k<o.length)(dR:k<(o.map (a8 νl)).length)(g:aW q (ag q n f) (cO o k)):∀c,c<n→Cg q (bN (ag q n (cY n νl f)) (o.map (a8 νl)) k (o.map (a8 νl))[k] (a8 νl c)) (bN (ag q n f) o k o[k] c):=by
 obtain ⟨g',d',e',_⟩:=AB hq hν ho g;have ht:o[k]<n:=(bF ho).mp (dj hk);have ek:(o.map (a8 νl))[k]=a8 νl o[k]:=d8 ..;have inj:∀{a b},a<n→b<n→a8 νl a=a8 νl b→a=b:=fun{a b} ha hb e=>by rw [←(fV hν ha).1,←(fV hν hb).1,e]
 refine EI hq ho g (fun c hc nc=>?_) fun r hr=>?_
 ·have ic:¬o.idxOf c<k:=fun z=>nc ((ck ho).mpr ⟨hc,z⟩)
  unfold bN;rw [ek];by_cases e:c=o[k];·rw [ak e,ak (by rw [e]),d']
  ·rw [aj e,aj (fun z=>e (inj hc ht z)),U5 hν ho hc,aj ic,aj ic]
 ·have KI:=((ck ho).mp hr).1
  rw [tT ho hk,←e' r o[k] KI ht,←ek,←tT (Az hν ho) dR,←Ky hν fun c'=>ag q n (cY n νl f) (a8 νl r) c'*bN (ag q n (cY n νl f)) (o.map (a8 νl)) k (o.map (a8 νl))[k] c']
  congr 1
  exact de fun c hc=>by rw [EK hν r c KI (cA.mp hc)]
end
def Ve:Sp:=fun vs H Q _=>∃(tab od am nm:Addr) (q:Int) (n:Nat) (o νl:List Nat) (rt:Nat→Addr) (vf:Nat→Nat→V) (av:Nat→V) (f:Nat→Nat→Int×Int),vs=[.ref tab,.ref od,.ref am,.ref nm]∧fz H q tab od am n o rt vf av f∧H nm=some (.lst (az νl))∧νl.Perm (List.range n)∧n≤40 ∧
 ∀(tp t2 o2 a2:Addr) (r2:Nat→Addr) (H':Hp),af H H'→H' tp=some (.tup [.ref t2,.ref o2,.ref a2])→fz H' q t2 o2 a2 n (o.map (a8 νl)) r2 (fun i j=>vf (νl.idxOf i) (νl.idxOf j)) (fun i=>av (νl.idxOf i)) (cY n νl f)→Q (.ref tp) H'
variable {H:Hp} {vf:Nat→Nat→V}
theorem fz.Vf{tab od am t2 o2 a2:Addr}{νl:List Nat}{rs r2:Nat→Addr}{av:Nat→V}{f:Nat→Nat→Int×Int}(h:fz H q tab od am n o rs vf av f)(hν:νl.Perm (List.range n))(w:WTab H t2 n r2 (fun i j=>vf (νl.idxOf i) (νl.idxOf j)))(eo:H o2=some (.lst (az (o.map (a8 νl)))))(ea:dy H a2 n (fun i=>av (νl.idxOf i))):fz H q t2 o2 a2 n (o.map (a8 νl)) r2 (fun i j=>vf (νl.idxOf i) (νl.idxOf j)) (fun i=>av (νl.idxOf i)) (cY n νl f):=
 ⟨w,eo,Az hν h.cE,ea,fun i j hi hj=>by unfold cY;rw [ak hj];exact h.num _ _ (m5 hν hi).2 (m5 hν hj).2,fun i hi=>by unfold cY;rw [aj (dS n)];exact h.tS _ (m5 hν hi).2,U6 hν h.sm⟩
def Vg:Sp:=fun vs H Q _=>∃(fd dZ nm r r2:Addr) (q:Int) (n at' at2:Nat) (o νl:List Nat) (lv eU:Nat→V) (f:Nat→Nat→Int×Int),vs=[.ref fd,.ref dZ,.ref nm]∧aZ q∧n≤9∧o.Perm (List.range n)∧νl.Perm (List.range n)∧H nm=some (.lst (az νl))∧gT H fd q (dh n 997) n o (ag q n f) (b7 n (bf (b9 n n f)) n) r lv at'∧gT H dZ q (dh n 997) n (o.map (a8 νl)) (ag q n (cY n νl f)) (b7 n (bf (b9 n n (cY n νl f))) n) r2 eU at2∧∀H',af H H'→Q (.bl true) H'
theorem KJ{te:TE}{tr:TA}{σ:St}{Q:List V→Hp→Prop}(h:te σ H fun x H1=>tr σ H1 fun ys H2=>Q (x::ys) H2):iX te tr σ H Q:=h
def bw(n:Nat)(C:List Nat):List Nat:=C.filter fun c=>decide (c<n)
def bg(n:Nat)(C:List Nat):List Nat:=(C.filter fun c=>decide (n≤c)).map (· - n)
variable {C:List Nat}
theorem Vh(h:p<n):bw n (p::C)=p::bw n C∧bg n (p::C)=bg n C:=by
 unfold bw bg;rw [List.filter_cons_of_pos (by simpa using h),List.filter_cons_of_neg (by simp;lia)]
 exact ⟨rfl,rfl⟩
theorem Vi(h:n≤p):bw n (p::C)=bw n C∧bg n (p::C)=(p-n)::bg n C:=by
 unfold bw bg;rw [List.filter_cons_of_neg (by simp;lia),List.filter_cons_of_pos (by simpa using h),cG]
 exact ⟨rfl,rfl⟩
structure KN (q:Int) (W M1 M2:aQ) (n m:Nat) (C:List Nat):Prop where
 good:aW q W C
 dt:ar W C=ar M1 (bw n C)*ar M2 (bg n C)
 l8:∀i j,i<n→j<n→ao W C (W i) j=ao M1 (bw n C) (M1 i) j*ar M2 (bg n C)
 EL:∀i,i<n→ao W C (W i) (n+m)=ao M1 (bw n C) (M1 i) n*ar M2 (bg n C)
 kg:∀i j,i<n→j<m→ao W C (W i) (n+j)=0∧ao W C (W (n+j)) i=0
 l9:∀i j,i<m→j<m→ao W C (W (n+i)) (n+j)=ar M1 (bw n C)*ao M2 (bg n C) (M2 i) j
 EM:∀i,i<m→ao W C (W (n+i)) (n+m)=ar M1 (bw n C)*ao M2 (bg n C) (M2 i) m
structure sX (W M1 M2:aQ) (n m:Nat):Prop where
 AD:∀i j,i<n→j<n→W i j=M1 i j
 EN:∀i,i<n→W i (n+m)=M1 i n
 tV:∀i j,i<n→j<m→W i (n+j)=0∧W (n+j) i=0
 AE:∀i j,i<m→j<m→W (n+i) (n+j)=M2 i j
 EO:∀i,i<m→W (n+i) (n+m)=M2 i m
theorem ER{q:Int}(hq:aZ q){W M1 M2:aQ}{n m:Nat}(h:sX W M1 M2 n m):∀{C:List Nat},(∀c∈C,c<n+m)→aW q M1 (bw n C)→aW q M2 (bg n C)→KN q W M1 M2 n m C
 | [],_,_,_=>⟨trivial,rfl,fun i j hi hj=>by
   show ao W [] (W i) j=ao M1 [] (M1 i) j*1;rw [gR,gR,fW];exact h.AD i j hi hj,fun i hi=>by
   show ao W [] (W i) (n+m)=ao M1 [] (M1 i) n*1;rw [gR,gR,fW];exact h.EN i hi,fun i j hi hj=>by rw [gR,gR];exact h.tV i j hi hj,fun i j hi hj=>by
   show ao W [] (W (n+i)) (n+j)=1*ao M2 [] (M2 i) j;rw [gR,gR,nF];exact h.AE i j hi hj,fun i hi=>by
   show ao W [] (W (n+i)) (n+m)=1*ao M2 [] (M2 i) m;rw [gR,gR,nF];exact h.EO i hi⟩
 | p::C,hC,g1,g2=>by
  have hp:=hC p (hZ ..);have KO:∀c∈C,c<n+m:=fun c hc=>hC c (fA _ hc);by_cases pn:p<n
  ·obtain ⟨e1,e2⟩:=Vh (C:=C) pn
   rw [e1] at g1;rw [e2] at g2;have B:=ER hq h KO g1.1 g2;have d1:=mX (iK hq g1.1);have d2:=mX (iK hq g2);have jA:ar W C≠0:=mX (iK hq B.good);have gJ:=B.l8 p p pn pn;have st:=fun f k=>j4 hq B.good p f k;have s1:=fun f k=>j4 hq g1.1 p f k;refine ⟨⟨B.good,by rw [gJ];exact fR hq g1.2 (iK hq g2)⟩,?_,fun i j hi hj=>?_,fun i hi=>?_,fun i j hi hj=>⟨?_,?_⟩,fun i j hi hj=>?_,fun i hi=>?_⟩
   ·rw [e1,e2];exact gJ
   ·rw [e1,e2]
    refine iU jA ?_;rw [←st (W i) j,gJ,B.l8 i j hi hj,B.l8 i p hi pn,B.l8 p j pn hj,B.dt];have:=s1 (M1 i) j;generalize ao M1 (bw n C) (M1 p) p=a at this ⊢;generalize ao M1 (bw n C) (M1 i) j=b at this ⊢;generalize ao M1 (bw n C) (M1 i) p=c at this ⊢;generalize ao M1 (bw n C) (M1 p) j=d at this ⊢;generalize ao M1 (p::bw n C) (M1 i) j=e at this ⊢;generalize ar M1 (bw n C)=x at this ⊢;generalize ar M2 (bg n C)=y;have t:a*y*(b*y)-c*y*(d*y)=y*y*(a*b-c*d):=by grind
    rw [t,this];grind
   ·rw [e1,e2]
    refine iU jA ?_;rw [←st (W i) (n+m),gJ,B.EL i hi,B.l8 i p hi pn,B.EL p pn,B.dt];have:=s1 (M1 i) n;generalize ao M1 (bw n C) (M1 p) p=a at this ⊢;generalize ao M1 (bw n C) (M1 i) n=b at this ⊢;generalize ao M1 (bw n C) (M1 i) p=c at this ⊢;generalize ao M1 (bw n C) (M1 p) n=d at this ⊢;generalize ao M1 (p::bw n C) (M1 i) n=e at this ⊢;generalize ar M1 (bw n C)=x at this ⊢;generalize ar M2 (bg n C)=y;have t:a*y*(b*y)-c*y*(d*y)=y*y*(a*b-c*d):=by grind
    rw [t,this];grind
   ·refine iU jA ?_
    rw [←st (W i) (n+j),(B.kg i j hi hj).1,(B.kg p j pn hj).1];grind
   ·refine iU jA ?_
    rw [←st (W (n+j)) i,(B.kg i j hi hj).2,(B.kg p j pn hj).2];grind
   ·rw [e1,e2]
    refine iU jA ?_;rw [←st (W (n+i)) (n+j),gJ,B.l9 i j hi hj,(B.kg p i pn hi).2,B.dt];show _=_*(ao M1 (bw n C) (M1 p) p*_);grind
   ·rw [e1,e2]
    refine iU jA ?_;rw [←st (W (n+i)) (n+m),gJ,B.EM i hi,(B.kg p i pn hi).2,B.dt];show _=_*(ao M1 (bw n C) (M1 p) p*_);grind
  ·obtain ⟨e1,e2⟩:=Vi (C:=C) (Nat.le_of_not_lt pn)
   obtain ⟨r,er⟩:∃r,p=n+r:=⟨p-n,by lia⟩
   have hr:r<m:=by lia
   have KP:p-n=r:=by lia
   rw [e1] at g1;rw [e2,KP] at g2;rw [KP] at e2;subst er;have B:=ER hq h KO g1 g2.1;have jA:ar W C≠0:=mX (iK hq B.good);have gJ:=B.l9 r r hr hr;have st:=fun f k=>j4 hq B.good (n+r) f k;have s2:=fun f k=>j4 hq g2.1 r f k;refine ⟨⟨B.good,by rw [gJ];exact fR hq (iK hq g1) g2.2⟩,?_,fun i j hi hj=>?_,fun i hi=>?_,fun i j hi hj=>⟨?_,?_⟩,fun i j hi hj=>?_,fun i hi=>?_⟩
   ·rw [e1,e2];exact gJ
   ·rw [e1,e2]
    refine iU jA ?_;rw [←st (W i) j,gJ,B.l8 i j hi hj,(B.kg i r hi hr).1,B.dt];show _=_*(_*ao M2 (bg n C) (M2 r) r);grind
   ·rw [e1,e2]
    refine iU jA ?_;rw [←st (W i) (n+m),gJ,B.EL i hi,(B.kg i r hi hr).1,B.dt];show _=_*(_*ao M2 (bg n C) (M2 r) r);grind
   ·refine iU jA ?_
    rw [←st (W i) (n+j),(B.kg i j hi hj).1,(B.kg i r hi hr).1];grind
   ·refine iU jA ?_
    rw [←st (W (n+j)) i,(B.kg i j hi hj).2,(B.kg i r hi hr).2];grind
   ·rw [e1,e2]
    refine iU jA ?_;rw [←st (W (n+i)) (n+j),gJ,B.l9 i j hi hj,B.l9 i r hi hr,B.l9 r j hr hj,B.dt];have:=s2 (M2 i) j;generalize ao M2 (bg n C) (M2 r) r=a at this ⊢;generalize ao M2 (bg n C) (M2 i) j=b at this ⊢;generalize ao M2 (bg n C) (M2 i) r=c at this ⊢;generalize ao M2 (bg n C) (M2 r) j=d at this ⊢;generalize ao M2 (r::bg n C) (M2 i) j=e at this ⊢;generalize ar M2 (bg n C)=x at this ⊢;generalize ar M1 (bw n C)=y;have t:y*a*(y*b)-y*c*(y*d)=y*y*(a*b-c*d):=by grind
    rw [t,this];grind
   ·rw [e1,e2]
    refine iU jA ?_;rw [←st (W (n+i)) (n+m),gJ,B.EM i hi,B.l9 i r hi hr,B.EM r hr,B.dt];have:=s2 (M2 i) m;generalize ao M2 (bg n C) (M2 r) r=a at this ⊢;generalize ao M2 (bg n C) (M2 i) m=b at this ⊢;generalize ao M2 (bg n C) (M2 i) r=c at this ⊢;generalize ao M2 (bg n C) (M2 r) m=d at this ⊢;generalize ao M2 (r::bg n C) (M2 i) m=e at this ⊢;generalize ar M2 (bg n C)=x at this ⊢;generalize ar M1 (bw n C)=y;have t:y*a*(y*b)-y*c*(y*d)=y*y*(a*b-c*d):=by grind
    rw [t,this];grind
structure cU (n m:Nat) (o o2 line:List Nat):Prop where
 cE:line.Perm (List.range (n+m))
 one:bw n line=o
 two:bg n line=o2
 po:o.Perm (List.range n)
 p2:o2.Perm (List.range m)
section
variable {n m:Nat} {o o2 line:List Nat}
theorem AF{α:Type}{p:α→Bool}{l:List α}(k:Nat):(l.take k).filter p=(l.filter p).take ((l.take k).filter p).length:=by have h:(l.take k).filter p <+: l.filter p:=(List.take_prefix k l).filter p;exact List.prefix_iff_eq_take.mp h
theorem ES(h:cU n m o o2 line)(k:Nat):bw n (cO line k)=cO o (bw n (line.take k)).length:=by have ft:=AF (p:=fun c=>decide (c<n)) (l:=line) k;have e:line.filter (fun c=>decide (c<n))=o:=h.one;rw [e] at ft;unfold cO bw;rw [List.filter_reverse];exact gL List.reverse ft
theorem ET(h:cU n m o o2 line)(k:Nat):bg n (cO line k)=cO o2 (bg n (line.take k)).length:=by have ft:=AF (p:=fun c=>decide (n≤c)) (l:=line) k;have e:(line.filter (fun c=>decide (n≤c))).map (· - n)=o2:=h.two;unfold cO bg;rw [List.filter_reverse,List.map_reverse,aJ,←e,←wZ];exact gL (fun l=>(l.map (· - n)).reverse) ft
variable {K k1:Nat}
theorem EU(h:cU n m o o2 line)(hK:K<line.length)(hk:k1<o.length)(e:line[K]=o[k1]):(bw n (line.take K)).length=k1:=by
 have lt:o[k1]<n:=(bF h.po).mp (dj hk);have t:bw n (line.take (K+1))=bw n (line.take K)++[o[k1]]:=by unfold bw;rw [nG,b6 hK,e,oW];simp [lt]
 have u:bw n (line.take (K+1))=o.take (bw n (line.take (K+1))).length:=by have:=AF (p:=fun c=>decide (c<n)) (l:=line) (K+1);have e2:line.filter (fun c=>decide (c<n))=o:=h.one;rw [e2] at this;exact this
 have len:(bw n (line.take (K+1))).length=(bw n (line.take K)).length+1:=by rw [t,gu];rfl
 generalize hj:(bw n (line.take K)).length=j at len;have lj:(o.take (j+1)).length=j+1:=by rw [←len,←u]
 have jl:j<o.length:=by rw [kr] at lj;lia
 have g:(bw n (line.take (K+1)))[j]?=some o[k1]:=by rw [t,lB (by lia),hj,wQ];rfl
 rw [u,len,List.getElem?_take,ak (by lia),b6 jl] at g
 have g:=Option.some.inj g;have a:=hV (fk h.po) jl;have b:=hV (fk h.po) hk;rw [g] at a;lia
variable {k2:Nat}
theorem EV(h:cU n m o o2 line)(hK:K<line.length)(hk:k2<o2.length)(e:line[K]=n+o2[k2]):(bg n (line.take K)).length=k2:=by
 have t:bg n (line.take (K+1))=bg n (line.take K)++[o2[k2]]:=by unfold bg;rw [nG,b6 hK,e,oW,ie];simp
 have u:bg n (line.take (K+1))=o2.take (bg n (line.take (K+1))).length:=by have:=AF (p:=fun c=>decide (n≤c)) (l:=line) (K+1);have e2:(line.filter (fun c=>decide (n≤c))).map (· - n)=o2:=h.two;unfold bg;rw [←e2,aJ,←wZ,←this]
 have len:(bg n (line.take (K+1))).length=(bg n (line.take K)).length+1:=by rw [t,gu];rfl
 generalize hj:(bg n (line.take K)).length=j at len;have lj:(o2.take (j+1)).length=j+1:=by rw [←len,←u]
 have jl:j<o2.length:=by rw [kr] at lj;lia
 have g:(bg n (line.take (K+1)))[j]?=some o2[k2]:=by rw [t,lB (by lia),hj,wQ];rfl
 rw [u,len,List.getElem?_take,ak (by lia),b6 jl] at g
 have g:=Option.some.inj g;have a:=hV (fk h.p2) jl;have b:=hV (fk h.p2) hk;rw [g] at a;lia
theorem one_le(h:cU n m o o2 line)(hk:k1<o.length)(e:K≤line.idxOf o[k1]):(bw n (line.take K)).length≤k1:=by
 have mem:o[k1]∈line:=(bF h.cE).mpr (by have:=(bF h.po).mp (dj hk);lia)
 obtain ⟨hL,eL⟩:=cT mem;have:=EU h hL hk eL;rw [←this];exact ((CV (l:=line) e).filter _).length_le
theorem KQ(h:cU n m o o2 line)(hk:k2<o2.length)(e:K≤line.idxOf (n+o2[k2])):(bg n (line.take K)).length≤k2:=by
 have mem:n+o2[k2]∈line:=(bF h.cE).mpr (by have:=(bF h.p2).mp (dj hk);lia)
 obtain ⟨hL,eL⟩:=cT mem;have:=EV h hL hk eL;rw [←this];unfold bg;rw [aJ,aJ];exact ((CV (l:=line) e).filter _).length_le
end
def bG(n m:Nat)(f f2:Nat→Nat→Int×Int):Nat→Nat→Int×Int:=fun i j=>if i<n then (if j<n then f i j else if j<n+m then (0,1) else f i n) else (if j<n then (0,1) else if j<n+m then f2 (i-n) (j-n) else f2 (i-n) m)
section
variable {q:Int} {n m:Nat} {f f2:Nat→Nat→Int×Int} {o o2 line:List Nat}
theorem oB{N:Nat}{g:Nat→Nat→Int×Int}{i j:Nat}(hi:i<N)(hj:j≤N):ag q N g i j=if q=0 then (g i j).1*(6 / (g i j).2) else (g i j).1:=by unfold ag;rw [ak ⟨hi,hj⟩]
theorem AG:sX (ag q (n+m) (bG n m f f2)) (ag q n f) (ag q m f2) n m where
 AD:=fun i j hi hj=>by
  rw [oB (by lia) (by lia),oB hi (by lia)]
  unfold bG;simp only [hi,hj,dJ]
 EN:=fun i hi=>by
  rw [oB (by lia) (by lia),oB hi (by lia)]
  unfold bG;simp only [hi,dJ,show ¬(n+m<n) by lia,dS,fb]
 tV:=fun i j hi hj=>by
  refine ⟨EE ?_,EE ?_⟩
  ·unfold bG
   simp only [hi,dJ,show ¬(n+j<n) by lia,fb,show n+j<n+m by lia]
  ·unfold bG
   simp only [hi,dJ,show ¬(n+j<n) by lia,fb]
 AE:=fun i j hi hj=>by
  rw [oB (by lia) (by lia),oB hi (by lia)]
  unfold bG;simp only [show ¬(n+i<n) by lia,show ¬(n+j<n) by lia,show n+j<n+m by lia,dJ,fb,jJ]
 EO:=fun i hi=>by
  rw [oB (by lia) (by lia),oB hi (by lia)]
  unfold bG;simp only [show ¬(n+i<n) by lia,show ¬(n+m<n) by lia,dS,fb,jJ]
theorem EW(F:Nat→Int):((List.range (n+m)).map F).sum=((List.range n).map F).sum+((List.range m).map fun c=>F (n+c)).sum:=by rw [oX,ie,wU,d5];rfl
theorem AH(a:Int)(F:Nat→Int)(l:List Nat):(l.map fun c=>F c*a).sum=(l.map F).sum*a:=by
 rw [dM,←lZ]
 congr 1
 exact de fun c _=>dM _ _
theorem EX(h:cU n m o o2 line):line.length=n+m:=by rw [h.cE.length_eq,dc]
theorem KR(h:cU n m o o2 line):bw n (cO line (n+m))=cO o n:=by rw [ES h,kC (by rw [EX h];exact aG _),h.one,cw h.po]
theorem KS(h:cU n m o o2 line):bg n (cO line (n+m))=cO o2 m:=by rw [ET h,kC (by rw [EX h];exact aG _),h.two,cw h.p2]
theorem EY(hq:aZ q)(h:cU n m o o2 line)(g1:aW q (ag q n f) (bw n (cO line k)))(g2:aW q (ag q m f2) (bg n (cO line k))):KN q (ag q (n+m) (bG n m f f2)) (ag q n f) (ag q m f2) n m (cO line k):=ER hq AG (fun c hc=>((ck h.cE).mp hc).1) g1 g2
theorem Vj(hq:aZ q)(h:cU n m o o2 line)(g1:aW q (ag q n f) (cO o n))(g2:aW q (ag q m f2) (cO o2 m)):aW q (ag q (n+m) (bG n m f f2)) (cO line (n+m))∧ar (ag q (n+m) (bG n m f f2)) (cO line (n+m))=ar (ag q n f) (cO o n)*ar (ag q m f2) (cO o2 m) ∧
  ∀c,c<n+m→Cg q (cg (ag q (n+m) (bG n m f f2)) (cO line (n+m)) (n+m) c) (if c<n then cg (ag q n f) (cO o n) n c*ar (ag q m f2) (cO o2 m) else cg (ag q m f2) (cO o2 m) m (c-n)*ar (ag q n f) (cO o n)):=by
 have B:=EY (f:=f) (f2:=f2) hq h (k:=n+m) (by rw [KR h];exact g1) (by rw [KS h];exact g2)
 have I:=AG (q:=q) (n:=n) (m:=m) (f:=f) (f2:=f2);have dt:=B.dt;rw [KR h,KS h] at dt;refine ⟨B.good,dt,Kx hq h.cE B.good fun r hr=>?_⟩;rw [ya hq h.cE B.good hr,dt,EW];by_cases rn:r<n
 ·have e1:((List.range n).map fun c=>ag q (n+m) (bG n m f f2) r c*(if c<n then cg (ag q n f) (cO o n) n c*ar (ag q m f2) (cO o2 m) else cg (ag q m f2) (cO o2 m) m (c-n)*ar (ag q n f) (cO o n)))=(List.range n).map fun c=>(ag q n f r c*cg (ag q n f) (cO o n) n c)*ar (ag q m f2) (cO o2 m):=de fun c hc=>by rw [I.AD r c rn (cA.mp hc),ak (cA.mp hc),ja]
  have e2:((List.range m).map fun c=>ag q (n+m) (bG n m f f2) r (n+c)*(if n+c<n then cg (ag q n f) (cO o n) n (n+c)*ar (ag q m f2) (cO o2 m) else cg (ag q m f2) (cO o2 m) m (n+c-n)*ar (ag q n f) (cO o n))).sum=0:=l5 fun c hc=>by rw [(I.tV r c rn (cA.mp hc)).1,eY]
  rw [e1,e2,AH,ya hq h.po g1 rn,I.EN r rn];grind
 ·obtain ⟨s,rfl⟩:∃s,r=n+s:=⟨r-n,by lia⟩
  have hs:s<m:=by lia
  have e1:((List.range n).map fun c=>ag q (n+m) (bG n m f f2) (n+s) c*(if c<n then cg (ag q n f) (cO o n) n c*ar (ag q m f2) (cO o2 m) else cg (ag q m f2) (cO o2 m) m (c-n)*ar (ag q n f) (cO o n))).sum=0:=l5 fun c hc=>by rw [(I.tV c s (cA.mp hc) hs).2,eY]
  have e2:((List.range m).map fun c=>ag q (n+m) (bG n m f f2) (n+s) (n+c)*(if n+c<n then cg (ag q n f) (cO o n) n (n+c)*ar (ag q m f2) (cO o2 m) else cg (ag q m f2) (cO o2 m) m (n+c-n)*ar (ag q n f) (cO o n)))=(List.range m).map fun c=>(ag q m f2 s c*cg (ag q m f2) (cO o2 m) m c)*ar (ag q n f) (cO o n):=de fun c hc=>by rw [I.AE s c hs (cA.mp hc),aj (by lia),jJ,ja]
  rw [e1,e2,AH,ya hq h.p2 g2 hs,I.EO s hs];grind
theorem Vk(hq:aZ q)(h:cU n m o o2 line){k1:Nat}(hk:k1<o.length)(g1:aW q (ag q n f) (cO o k1))(dv:q∣ao (ag q n f) (cO o k1) (ag q n f o[k1]) o[k1])(g2:aW q (ag q m f2) (bg n (cO line (line.idxOf o[k1])))) :
  ∃(hK:line.idxOf o[k1]<line.length),line[line.idxOf o[k1]]=o[k1]∧aW q (ag q (n+m) (bG n m f f2)) (cO line (line.idxOf o[k1]))∧q∣ao (ag q (n+m) (bG n m f f2)) (cO line (line.idxOf o[k1])) (ag q (n+m) (bG n m f f2) o[k1]) o[k1]∧ar (ag q (n+m) (bG n m f f2)) (cO line (line.idxOf o[k1]))=ar (ag q n f) (cO o k1)*ar (ag q m f2) (bg n (cO line (line.idxOf o[k1]))) ∧
  ∀c,c<n+m→Cg q (bN (ag q (n+m) (bG n m f f2)) line (line.idxOf o[k1]) o[k1] c) (if c<n then bN (ag q n f) o k1 o[k1] c*ar (ag q m f2) (bg n (cO line (line.idxOf o[k1]))) else 0):=by
 have lt:o[k1]<n:=(bF h.po).mp (dj hk);obtain ⟨hK,eK⟩:=cT ((bF h.cE).mpr (show o[k1]<n+m by lia))
 have e1:bw n (cO line (line.idxOf o[k1]))=cO o k1:=by rw [ES h,EU h hK hk eK]
 have B:=EY (f:=f) (f2:=f2) hq h (k:=line.idxOf o[k1]) (by rw [e1];exact g1) g2
 have I:=AG (q:=q) (n:=n) (m:=m) (f:=f) (f2:=f2);have dt:=B.dt;have l8:=B.l8;rw [e1] at dt l8;have yc:=fun r=>tT (M:=ag q (n+m) (bG n m f f2)) h.cE hK r;rw [eK] at yc;refine ⟨hK,eK,B.good,by rw [l8 _ _ lt lt];exact zl dv,dt,EI hq h.cE B.good (fun c hc nc=>?_) fun r hr=>?_⟩
 ·have ic:¬line.idxOf c<line.idxOf o[k1]:=fun z=>nc ((ck h.cE).mpr ⟨hc,z⟩)
  by_cases cn:c<n
  ·have EZ:¬o.idxOf c<k1:=fun z=>nc (by
    have:c∈bw n (cO line (line.idxOf o[k1])):=by rw [e1];exact (ck h.po).mpr ⟨cn,z⟩
    exact (i8.mp this).1)
   rw [ak cn];unfold bN;by_cases e:c=o[k1];·rw [ak e,ak e,dt]
   ·rw [aj e,aj e,aj ic,aj EZ,eY]
  ·rw [aj cn]
   unfold bN;rw [aj (fun z=>cn (by rw [z];exact lt)),aj ic]
 ·rw [yc r,pZ hq B.good r hr,EW]
  have rN:=((ck h.cE).mp hr).1;by_cases rn:r<n
  ·have r1:r∈cO o k1:=by rw [←e1];exact i8.mpr ⟨hr,by simpa using rn⟩
   have a1:((List.range n).map fun c=>ag q (n+m) (bG n m f f2) r c*(if c<n then bN (ag q n f) o k1 o[k1] c*ar (ag q m f2) (bg n (cO line (line.idxOf o[k1]))) else 0))=(List.range n).map fun c=>(ag q n f r c*bN (ag q n f) o k1 o[k1] c)*ar (ag q m f2) (bg n (cO line (line.idxOf o[k1]))):=de fun c hc=>by rw [I.AD r c rn (cA.mp hc),ak (cA.mp hc),ja]
   have a2:((List.range m).map fun c=>ag q (n+m) (bG n m f f2) r (n+c)*(if n+c<n then bN (ag q n f) o k1 o[k1] (n+c)*ar (ag q m f2) (bg n (cO line (line.idxOf o[k1]))) else 0)).sum=0:=l5 fun c hc=>by rw [aj (by lia),fc]
   rw [a1,a2,AH,tT h.po hk,pZ hq g1 r r1,eY];rfl
  ·obtain ⟨s,rfl⟩:∃s,r=n+s:=⟨r-n,by lia⟩
   have a1:((List.range n).map fun c=>ag q (n+m) (bG n m f f2) (n+s) c*(if c<n then bN (ag q n f) o k1 o[k1] c*ar (ag q m f2) (bg n (cO line (line.idxOf o[k1]))) else 0)).sum=0:=l5 fun c hc=>by rw [(I.tV c s (cA.mp hc) (by lia)).2,eY]
   have a2:((List.range m).map fun c=>ag q (n+m) (bG n m f f2) (n+s) (n+c)*(if n+c<n then bN (ag q n f) o k1 o[k1] (n+c)*ar (ag q m f2) (bg n (cO line (line.idxOf o[k1]))) else 0)).sum=0:=l5 fun c hc=>by rw [aj (by lia),fc]
   rw [a1,a2];rfl
theorem Vl(hq:aZ q)(h:cU n m o o2 line){k2:Nat}(hk:k2<o2.length)(g2:aW q (ag q m f2) (cO o2 k2))(dv:q∣ao (ag q m f2) (cO o2 k2) (ag q m f2 o2[k2]) o2[k2])(g1:aW q (ag q n f) (bw n (cO line (line.idxOf (n+o2[k2]))))) :
  ∃(hK:line.idxOf (n+o2[k2])<line.length),line[line.idxOf (n+o2[k2])]=n+o2[k2]∧aW q (ag q (n+m) (bG n m f f2)) (cO line (line.idxOf (n+o2[k2])))∧q∣ao (ag q (n+m) (bG n m f f2)) (cO line (line.idxOf (n+o2[k2]))) (ag q (n+m) (bG n m f f2) (n+o2[k2])) (n+o2[k2])∧ar (ag q (n+m) (bG n m f f2)) (cO line (line.idxOf (n+o2[k2])))=ar (ag q n f) (bw n (cO line (line.idxOf (n+o2[k2]))))*ar (ag q m f2) (cO o2 k2) ∧
  ∀c,c<n+m→Cg q (bN (ag q (n+m) (bG n m f f2)) line (line.idxOf (n+o2[k2])) (n+o2[k2]) c) (if c<n then 0 else ar (ag q n f) (bw n (cO line (line.idxOf (n+o2[k2]))))*bN (ag q m f2) o2 k2 o2[k2] (c-n)):=by
 have lt:o2[k2]<m:=(bF h.p2).mp (dj hk);obtain ⟨hK,eK⟩:=cT ((bF h.cE).mpr (show n+o2[k2]<n+m by lia))
 have e2:bg n (cO line (line.idxOf (n+o2[k2])))=cO o2 k2:=by rw [ET h,EV h hK hk eK]
 have B:=EY (f:=f) (f2:=f2) hq h (k:=line.idxOf (n+o2[k2])) g1 (by rw [e2];exact g2)
 have I:=AG (q:=q) (n:=n) (m:=m) (f:=f) (f2:=f2);have dt:=B.dt;have l9:=B.l9;rw [e2] at dt l9;have yc:=fun r=>tT (M:=ag q (n+m) (bG n m f f2)) h.cE hK r;rw [eK] at yc;have m2:∀{s},s<m→(n+s∈cO line (line.idxOf (n+o2[k2]))↔s∈cO o2 k2):=fun{s} hs=>by
  rw [←e2];unfold bg;rw [iT];constructor
  ·intro z
   exact ⟨n+s,i8.mpr ⟨z,by simp⟩,by lia⟩
  ·rintro ⟨x,hx,e⟩
   have:=i8.mp hx;have h2:n≤x:=by simpa using this.2
   have:x=n+s:=by lia
   rw [←this];exact (i8.mp hx).1
 refine ⟨hK,eK,B.good,by rw [l9 _ _ lt lt];exact zo dv,dt,EI hq h.cE B.good (fun c hc nc=>?_) fun r hr=>?_⟩
 ·have ic:¬line.idxOf c<line.idxOf (n+o2[k2]):=fun z=>nc ((ck h.cE).mpr ⟨hc,z⟩)
  by_cases cn:c<n
  ·rw [ak cn]
   unfold bN;rw [aj (by lia),aj ic]
  ·obtain ⟨s,rfl⟩:∃s,c=n+s:=⟨c-n,by lia⟩
   have hs:s<m:=by lia
   have EZ:¬o2.idxOf s<k2:=fun z=>nc ((m2 hs).mpr ((ck h.p2).mpr ⟨hs,z⟩));rw [aj cn,jJ];unfold bN;by_cases e:s=o2[k2];·rw [ak (by lia),ak e,dt]
   ·rw [aj (by lia),aj e,aj ic,aj EZ,fc]
 ·rw [yc r,pZ hq B.good r hr,EW]
  have rN:=((ck h.cE).mp hr).1;by_cases rn:r<n
  ·have a1:((List.range n).map fun c=>ag q (n+m) (bG n m f f2) r c*(if c<n then 0 else ar (ag q n f) (bw n (cO line (line.idxOf (n+o2[k2]))))*bN (ag q m f2) o2 k2 o2[k2] (c-n))).sum=0:=l5 fun c hc=>by rw [ak (cA.mp hc),fc]
   have a2:((List.range m).map fun c=>ag q (n+m) (bG n m f f2) r (n+c)*(if n+c<n then 0 else ar (ag q n f) (bw n (cO line (line.idxOf (n+o2[k2]))))*bN (ag q m f2) o2 k2 o2[k2] (n+c-n))).sum=0:=l5 fun c hc=>by rw [(I.tV r c rn (cA.mp hc)).1,eY]
   rw [a1,a2];rfl
  ·obtain ⟨s,rfl⟩:∃s,r=n+s:=⟨r-n,by lia⟩
   have hs:s<m:=by lia
   have a1:((List.range n).map fun c=>ag q (n+m) (bG n m f f2) (n+s) c*(if c<n then 0 else ar (ag q n f) (bw n (cO line (line.idxOf (n+o2[k2]))))*bN (ag q m f2) o2 k2 o2[k2] (c-n))).sum=0:=l5 fun c hc=>by rw [ak (cA.mp hc),fc]
   have a2:((List.range m).map fun c=>ag q (n+m) (bG n m f f2) (n+s) (n+c)*(if n+c<n then 0 else ar (ag q n f) (bw n (cO line (line.idxOf (n+o2[k2]))))*bN (ag q m f2) o2 k2 o2[k2] (n+c-n)))=(List.range m).map fun c=>(ag q m f2 s c*bN (ag q m f2) o2 k2 o2[k2] c)*ar (ag q n f) (bw n (cO line (line.idxOf (n+o2[k2])))):=de fun c hc=>by
    rw [I.AE s c hs (cA.mp hc),aj (by lia),jJ]
    grind
   rw [a1,a2,AH,tT h.p2 hk,pZ hq g2 s ((m2 hs).mp hr),eY];rfl
end
structure oC (n N:Nat) (L L':bS) (o o':List Nat) (f:Nat→Nat):Prop where
 lt:∀k,k<n→f k<N
 inj:∀j k,j<n→k<n→f j=f k→j=k
 cj:∀j k,j<n→k<n→(aL N L' (f j) (f k)↔aL n L j k)
 cl:∀j y,j<n→aL N L' (f j) y→∃k,k<n∧y=f k
 ord:∀j k,j<n→k<n→(o'.idxOf (f j)<o'.idxOf (f k)↔o.idxOf j<o.idxOf k)
section
variable {n N:Nat} {L L':bS} {o o':List Nat} {f:Nat→Nat}
theorem oC.Vm(r:oC n N L L' o o' f){x y:Nat}(hx:x<n)(h:Wk (aL n L) (i4 n o (o.idxOf x)) x y):Wk (aL N L') (i4 N o' (o'.idxOf (f x))) (f x) (f y):=
 Wk.mapA (fun a b z=>(r.cj a b z.1 z.2.1).mpr z) (fun a ⟨z1,z2⟩=>⟨r.lt a z1,(r.ord a x z1 hx).mpr z2⟩) h
theorem oC.Vn(r:oC n N L L' o o' f){x z:Nat}(hx:x<n)(h:Wk (aL N L') (i4 N o' (o'.idxOf (f x))) (f x) z):∃y,y<n∧z=f y∧Wk (aL n L) (i4 n o (o.idxOf x)) x y:=by
 induction h with
 | one h=>obtain ⟨k,hk,rfl⟩:=r.cl x _ hx h;exact ⟨k,hk,rfl,.one ((r.cj x k hx hk).mp h)⟩
 | more _ t a ih=>obtain ⟨y,hy,rfl,w⟩:=ih;obtain ⟨k,hk,rfl⟩:=r.cl y _ hy a;exact ⟨k,hk,rfl,.more w ⟨hy,(r.ord y x hy hx).mp t.2⟩ ((r.cj y k hy hk).mp a)⟩
theorem oC.KU(r:oC n N L L' o o' f)(hp:p<n){g g':List Nat}(h:dO n o p g∧dD n L o p g)(h':dO N o' (f p) g'∧dD N L' o' (f p) g'):g'.length=g.length:=by
 have nd:∀{l:List Nat},l.Pairwise (· < ·)→l.Nodup:=fun h=>h.imp fun z e=>by lia
 have:g'.Perm (g.map f):=(List.perm_ext_iff_of_nodup (nd h'.1.up) (KH r.inj (nd h.1.up) h.1.lt)).mpr fun q=>by
  constructor
  ·intro hq
   have h1:=(h'.2 q).mp hq;obtain ⟨y,hy,rfl,w⟩:=r.Vn hp h1.2.2;exact iT.mpr ⟨y,(h.2 y).mpr ⟨hy,(r.ord p y hp hy).mp h1.2.1,w⟩,rfl⟩
  ·intro hq
   obtain ⟨y,hy,rfl⟩:=iT.mp hq;have h1:=(h.2 y).mp hy;exact (h'.2 (f y)).mpr ⟨r.lt y h1.1,(r.ord p y hp h1.1).mpr h1.2.1,r.Vm hp h1.2.2⟩
 have:=this.length_eq
 rwa [aJ] at this
end
section
variable {n m:Nat} {f f2:Nat→Nat→Int×Int} {o o2 line:List Nat}
variable {j:Nat}
theorem KW(h:cU n m o o2 line)(hj:j<n)(hk:k<n)(e:o.idxOf j<o.idxOf k):line.idxOf j<line.idxOf k:=by
 obtain ⟨j1,j2⟩:=cT ((bF h.po).mpr hj);obtain ⟨k1,k2⟩:=cT ((bF h.po).mpr hk);refine w5 fun z=>?_;obtain ⟨q1,q2⟩:=cT ((bF h.cE).mpr (show k<n+m by lia))
 have a:=EU h q1 k1 (by rw [q2,k2])
 have b:=one_le h (K:=line.idxOf k) j1 (by rw [j2];exact z)
 lia
theorem KY(h:cU n m o o2 line)(hj:j<m)(hk:k<m)(e:o2.idxOf j<o2.idxOf k):line.idxOf (n+j)<line.idxOf (n+k):=by
 obtain ⟨j1,j2⟩:=cT ((bF h.p2).mpr hj);obtain ⟨k1,k2⟩:=cT ((bF h.p2).mpr hk);refine w5 fun z=>?_;obtain ⟨q1,q2⟩:=cT ((bF h.cE).mpr (show n+k<n+m by lia))
 have a:=EV h q1 k1 (by rw [q2,k2])
 have b:=KQ h (K:=line.idxOf (n+k)) j1 (by rw [j2];exact z)
 lia
theorem E1(hj:j∈o)(hk:k∈o)(e:o.idxOf j=o.idxOf k):j=k:=by
 obtain ⟨j1,j2⟩:=cT hj;obtain ⟨k1,k2⟩:=cT hk;rw [←j2,←k2]
 congr 1
theorem Vo(h:cU n m o o2 line)(hj:j<n)(hk:k<n):line.idxOf j<line.idxOf k↔o.idxOf j<o.idxOf k:=by
 refine ⟨fun z=>?_,KW h hj hk⟩;refine w5 fun y=>?_;rcases Nat.lt_or_eq_of_le y with y | y
 ·have:=KW h hk hj y
  lia
 ·have:=E1 ((bF h.po).mpr hk) ((bF h.po).mpr hj) y
  subst this;lia
theorem Vp(h:cU n m o o2 line)(hj:j<m)(hk:k<m):line.idxOf (n+j)<line.idxOf (n+k)↔o2.idxOf j<o2.idxOf k:=by
 refine ⟨fun z=>?_,KY h hj hk⟩;refine w5 fun y=>?_;rcases Nat.lt_or_eq_of_le y with y | y
 ·have:=KY h hk hj y
  lia
 ·have:=E1 ((bF h.p2).mpr hk) ((bF h.p2).mpr hj) y
  subst this;lia
variable {i:Nat}
theorem l_{N:Nat}{g:Nat→Nat→Int×Int}(hi:i<N)(hj:j<N):jy (b9 N N g) i j=(!decide ((g i j).1=0)):=by have h1:=x_ (f:=g) (m:=N) hi hj;unfold atT at h1;unfold jy;rw [h1]
theorem Vq(hi:i<n)(hj:j<n):bf (b9 (n+m) (n+m) (bG n m f f2)) i j=bf (b9 n n f) i j:=by
 unfold bf;rw [l_ (by lia) (by lia),l_ (by lia) (by lia),l_ hi hj,l_ hj hi]
 unfold bG;simp only [hi,hj,dJ]
theorem Vr(hi:i<m)(hj:j<m):bf (b9 (n+m) (n+m) (bG n m f f2)) (n+i) (n+j)=bf (b9 m m f2) i j:=by
 unfold bf;rw [l_ (by lia) (by lia),l_ (by lia) (by lia),l_ hi hj,l_ hj hi]
 unfold bG;simp only [show ¬(n+i<n) by lia,show ¬(n+j<n) by lia,show n+j<n+m by lia,show n+i<n+m by lia,dJ,fb,jJ]
theorem KZ(hi:i<n)(hj:j<m):bf (b9 (n+m) (n+m) (bG n m f f2)) i (n+j)=false∧bf (b9 (n+m) (n+m) (bG n m f f2)) (n+j) i=false:=by
 unfold bf;rw [l_ (by lia) (by lia),l_ (by lia) (by lia)]
 unfold bG;simp [hi,show ¬(n+j<n) by lia,show n+j<n+m by lia]
theorem Vs(h:cU n m o o2 line):oC n (n+m) (b7 n (bf (b9 n n f)) n) (b7 (n+m) (bf (b9 (n+m) (n+m) (bG n m f f2))) (n+m)) o line id where
 lt:=fun k hk=>by show k<n+m;lia
 inj:=fun j k _ _ e=>e
 cj:=fun j k hj hk=>by show aL _ _ j k↔_;rw [oA,oA,Vq hj hk];exact ⟨fun z=>⟨hj,hk,z.2.2⟩,fun z=>⟨by lia,by lia,z.2.2⟩⟩
 cl:=fun j y hj a=>by
  have a:=oA.mp (show aL _ _ j y from a);by_cases hy:y<n;·exact ⟨y,hy,rfl⟩
  ·obtain ⟨s,rfl⟩:∃s,y=n+s:=⟨y-n,by lia⟩
   rw [(KZ (f:=f) (f2:=f2) hj (show s<m by lia)).1] at a
   exact absurd a.2.2.2 (by decide)
 ord:=fun j k hj hk=>Vo h hj hk
theorem Vt(h:cU n m o o2 line):oC m (n+m) (b7 m (bf (b9 m m f2)) m) (b7 (n+m) (bf (b9 (n+m) (n+m) (bG n m f f2))) (n+m)) o2 line (n + ·) where
 lt:=fun k hk=>by show n+k<n+m;lia
 inj:=fun j k _ _ e=>by have:n+j=n+k:=e;lia
 cj:=fun j k hj hk=>by show aL _ _ (n+j) (n+k)↔_;rw [oA,oA,Vr hj hk];exact ⟨fun z=>⟨hj,hk,fun e=>z.2.2.1 (by rw [e]),z.2.2.2⟩,fun z=>⟨by lia,by lia,fun e=>z.2.2.1 (by lia),z.2.2.2⟩⟩
 cl:=fun j y hj a=>by
  have a:=oA.mp (show aL _ _ (n+j) y from a);by_cases hy:y<n
  ·rw [(KZ (f:=f) (f2:=f2) hy hj).2] at a
   exact absurd a.2.2.2 (by decide)
  ·exact ⟨y-n,by lia,by show y=n+(y-n);lia⟩
 ord:=fun j k hj hk=>Vp h hj hk
theorem Vu(h:cU n m o o2 line){g g2 gW:Nat→List Nat}(h1:∀p,p<n→dO n o p (g p)∧dD n (b7 n (bf (b9 n n f)) n) o p (g p))(h2:∀p,p<m→dO m o2 p (g2 p)∧dD m (b7 m (bf (b9 m m f2)) m) o2 p (g2 p))(hW:∀p,p<n+m→dO (n+m) line p (gW p)∧dD (n+m) (b7 (n+m) (bf (b9 (n+m) (n+m) (bG n m f f2))) (n+m)) line p (gW p)):gF (n+m) gW=gF n g+gF m g2:=by
 unfold gF;rw [oX,ie,wU,d5]
 congr 2
 ·refine de fun p hp=>?_
  have hp:=cA.mp hp;show oy _=oy _;rw [(Vs h).KU hp (h1 p hp) (hW p (by lia))]
 ·refine de fun p hp=>?_
  have hp:=cA.mp hp;show oy (gW (n+p)).length=oy _;rw [(Vt h).KU hp (h2 p hp) (hW (n+p) (by lia))]
end
def jB(n:Nat)(v0:V)(vf di:Nat→Nat→V):Nat→Nat→V:=fun i j=>if i<n then (if j<n then vf i j else v0) else (if j<n then v0 else di (i-n) (j-n))
def Vv:Sp:=fun vs H Q _=>∃(td a b:Addr) (q:Int) (n m:Nat) (ra rb:Nat→Addr) (vf di:Nat→Nat→V),vs=[.ref td,.ref a,.ref b]∧gH H td q∧aZ q∧WTab H a n ra vf∧WTab H b m rb di∧n≤9∧m≤9 ∧
 ∀(D:Addr) (rs:Nat→Addr) (v0:V) (H':Hp),af H H'→bj 1000 H' q v0 0 1→WTab H' D (n+m) rs (jB n v0 vf di)→Q (.ref D) H'
variable {m i:Nat} {v0:V} {di:Nat→Nat→V}
theorem Vw(hi:i<n):(List.range (n+m)).map (jB n v0 vf di i)=(List.range n).map (vf i)++(List.range m).map fun _=>v0:=by
 rw [oX,ie,d5]
 congr 1
 ·refine de fun j hj=>?_
  unfold jB;rw [ak hi,ak (cA.mp hj)]
 ·refine de fun j _=>?_
  show jB n v0 vf di i (n+j)=v0;unfold jB;rw [ak hi,aj (by lia)]
theorem Vx:(List.range (n+m)).map (jB n v0 vf di (n+i))=((List.range n).map fun _=>v0)++(List.range m).map (di i):=by
 rw [oX,ie,d5]
 congr 1
 ·refine de fun j hj=>?_
  unfold jB;rw [aj (by lia),ak (cA.mp hj)]
 ·refine de fun j _=>?_
  show jB n v0 vf di (n+i) (n+j)=_;unfold jB;rw [aj (by lia),aj (by lia),jJ,jJ]
theorem WTab.join{D:Addr}{A B:Nat→Addr}(e:H D=some (.lst (((List.range n).map fun i=>V.ref (A i))++(List.range m).map fun i=>V.ref (B i))))(iA:∀i j,i<n→j<n→A i=A j→i=j)(iB:∀i j,i<m→j<m→B i=B j→i=j)(ne:∀i j,i<n→j<m→A i≠B j)(nA:∀i,i<n→A i≠D)(nB:∀i,i<m→B i≠D)
  (hA:∀i,i<n→H (A i)=some (.lst ((List.range n).map (vf i)++(List.range m).map fun _=>v0))) (hB:∀i,i<m→H (B i)=some (.lst (((List.range n).map fun _=>v0)++(List.range m).map (di i)))):WTab H D (n+m) (fun i=>if i<n then A i else B (i-n)) (jB n v0 vf di) where
 lst:=by
  rw [e,oX,ie,d5]
  congr 3
  ·refine de fun j hj=>?_
   rw [ak (cA.mp hj)]
  ·refine de fun j _=>?_
   show _=V.ref (if n+j<n then A (n+j) else B (n+j-n))
   rw [aj (by lia),jJ]
 inj:=fun i j hi hj h=>by
  split at h <;> split at h
  ·exact iA _ _ (by lia) (by lia) h
  ·exact absurd h (ne _ _ (by lia) (by lia))
  ·exact absurd h.symm (ne _ _ (by lia) (by lia))
  ·have:=iB _ _ (by lia) (by lia) h
   lia
 ne:=fun i hi=>by
  split
  ·exact nA _ (by lia)
  ·exact nB _ (by lia)
 at':=fun i hi=>by
  by_cases c:i<n
  ·rw [ak c,Vw c]
   exact hA i c
  ·rw [aj c]
   obtain ⟨s,rfl⟩:∃s,i=n+s:=⟨i-n,by lia⟩
   rw [Vx,jJ];exact hB s (by lia)
theorem AI{F:List Nat}:bw n (F++[p])=(if p<n then bw n F++[p] else bw n F)∧bg n (F++[p])=(if p<n then bg n F else bg n F++[p-n]):=by
 unfold bw bg;rw [oW,oW,ie];by_cases h:p<n
 ·have h2:¬n≤p:=by lia
  simp [h,h2]
 ·have h2:n≤p:=by lia
  simp [h,h2]
theorem cU.of{o2 line:List Nat}(po:o.Perm (List.range n))(p2:o2.Perm (List.range m))(h1:bw n line=o)(h2:bg n line=o2):cU n m o o2 line where
 one:=h1
 two:=h2
 po:=po
 p2:=p2
 cE:=by
  have a:=List.filter_append_perm (fun c=>decide (c<n)) line;have e:line.filter (fun c=>!decide (c<n))=o2.map (n + ·):=by
   rw [←h2];unfold bg;rw [d5];have:line.filter (fun c=>!decide (c<n))=line.filter (fun c=>decide (n≤c)):=by
    congr 1
    funext c
    by_cases c':c<n;·simp [c',show ¬n≤c by lia]
    ·simp [c',show n≤c by lia]
   rw [this];refine (List.map_id _).symm.trans (de fun c hc=>?_);have:=(i8.mp hc).2;have:n≤c:=by simpa using this
   show c=n+(c-n);lia
  rw [e,show line.filter (fun c=>decide (c<n))=o from h1] at a;refine a.symm.trans ?_;rw [oX];exact List.Perm.append po (p2.map _)
def Vy:Sp:=fun vs H Q _=>∃(T od ot:Addr) (n m:Nat) (o o2:List Nat),vs=[.ref T,.ref od,.ref ot]∧bW H T∧od≠T∧ot≠T∧H od=some (.lst (az o))∧H ot=some (.lst (az o2))∧o.Perm (List.range n)∧o2.Perm (List.range m)∧n≤20∧m≤20 ∧
 ∀(D:Addr) (line:List Nat) (H':Hp),aX T H H'→bW H' T→H D=none→H' D=some (.lst (az line))→cU n m o o2 line→Q (.ref D) H'
theorem K6{α:Type}{l:List α}:(l.drop k).isEmpty=decide (l.length≤k):=by
 by_cases h:l.length≤k
 ·rw [List.drop_eq_nil_of_le h,da h]
  rfl
 ·rw [zq (w5 h),cJ h]
  rfl
structure gK (H Hc:Hp) (T la ra fa:Addr) (n m:Nat) (o o2:List Nat) (i j:Nat) (F:List Nat):Prop where
 off:aX T H Hc
 AJ:bW Hc T
 el:Hc la=some (.lst (az (o.drop i)))
 er:Hc ra=some (.lst (az ((o2.drop j).map (n + ·))))
 ef:Hc fa=some (.lst (az F))
 f1:bw n F=o.take i
 f2:bg n F=o2.take j
 hi:i≤n
 hj:j≤m
 hF:F.length=i+j
structure AK (H:Hp) (T la ra fa:Addr):Prop where
 nl:H la=none
 nr:H ra=none
 nf:H fa=none
 lr:la≠ra
 lf:la≠fa
 rf:ra≠fa
 lT:la≠T
 rT:ra≠T
 fT:fa≠T
section
variable {H Hc H':Hp} {T la ra fa:Addr} {n m i j:Nat} {o o2 F:List Nat}
theorem gK.mono(I:gK H Hc T la ra fa n m o o2 i j F)(s:af Hc H'):gK H H' T la ra fa n m o o2 i j F:=
 ⟨fun b u ne e=>s _ _ (I.off b u ne e),I.AJ.mono s,s _ _ I.el,s _ _ I.er,s _ _ I.ef,I.f1,I.f2,I.hi,I.hj,I.hF⟩
theorem gK.dig(I:gK H Hc T la ra fa n m o o2 i j F)(A:AK H T la ra fa)(s:aX T Hc H')(t:bW H' T):gK H H' T la ra fa n m o o2 i j F:=
 ⟨I.off.trans s,t,s _ _ A.lT I.el,s _ _ A.rT I.er,s _ _ A.fT I.ef,I.f1,I.f2,I.hi,I.hj,I.hF⟩
theorem K7(I:gK H Hc T la ra fa n m o o2 i j F){a b:Addr}{u v:HO}(na:H a=none)(nb:H b=none)(aT:a≠T)(bT:b≠T):aX T H (upd (upd Hc a u) b v)∧bW (upd (upd Hc a u) b v) T:=by
 refine ⟨fun c w ne e=>?_,?_⟩
 ·rw [aK (fun z=>by rw [z,nb] at e;cases e),aK (fun z=>by rw [z,na] at e;cases e)]
  exact I.off c w ne e
 ·obtain ⟨x,ex⟩:=I.AJ
  exact ⟨x,by rw [aK (Ne.symm bT),aK (Ne.symm aT)];exact ex⟩
variable {K:aC} {σ:St} {Q:VK} {a:Nat}
theorem gK.K8(I:gK H Hc T la ra fa n m o o2 i j F)(A:AK H T la ra fa)(po:o.Perm (List.range n))(p7:n≤20)(tW:m≤20)(hl:i<n)(ea:σ[a]?=some (some (.ref la)))(eb:σ[b]?=some (some (.ref fa)))(k:∀F' H',gK H H' T la ra fa n m o o2 (i+1) j F'→Q .aV H'):sP K "list" Dx (nM b) (iX (sP K "list" Dz (nM a) (iX (tC (.int 0)) gg)) gg) σ Hc Q:=by
 have li:i<o.length:=by rw [cw po];exact hl
 have d:o.drop i=o[i]::o.drop (i+1):=zq li;have el:=I.el;rw [d] at el;have o1:=(bF po).mp (dj li);have hF:=I.hF;have hj:=I.hj;refine ⟨_,eb,.inl ⟨rfl,_,.of I.ef⟩,_,ea,.inl ⟨rfl,_,.of el⟩,la,_,0,0,.int ((o[i]:Nat):Int),rfl,rfl,el,by decide,by decide,?_,rfl,?_⟩
 ·unfold az
  rw [aJ,fY];unfold seqIndex?;simp
 ·have ef:upd Hc la (.lst ((az (o[i]::o.drop (i+1))).eraseIdx 0)) fa=some (.lst (az F)):=by rw [aK (Ne.symm A.lf)];exact I.ef
  refine ⟨fa,_,_,rfl,rfl,ef,by unfold az;rw [aJ];exact cN (by lia),k (F++[o[i]]) _ ?_⟩
  obtain ⟨of,tp⟩:=K7 I (u:=.lst ((az (o[i]::o.drop (i+1))).eraseIdx 0)) (v:=.lst (az F++[.int ((o[i]:Nat):Int)])) A.nl A.nf A.lT A.fT;refine ⟨of,tp,?_,?_,?_,?_,?_,hl,hj,by rw [gu,hF];show i+j+1=_;lia⟩
  ·rw [aK A.lf,aA]
   rfl
  ·rw [aK A.rf,aK (Ne.symm A.lr)]
   exact I.er
  ·rw [aA]
   unfold az;rw [ie];rfl
  ·rw [AI.1,ak o1,I.f1,nG,b6 li]
   rfl
  ·rw [AI.2,ak o1,I.f2]
theorem gK.K9(I:gK H Hc T la ra fa n m o o2 i j F)(A:AK H T la ra fa)(p2:o2.Perm (List.range m))(p7:n≤20)(tW:m≤20)(hl:j<m)(ea:σ[a]?=some (some (.ref ra)))(eb:σ[b]?=some (some (.ref fa)))(k:∀F' H',gK H H' T la ra fa n m o o2 i (j+1) F'→Q .aV H'):sP K "list" Dx (nM b) (iX (sP K "list" Dz (nM a) (iX (tC (.int 0)) gg)) gg) σ Hc Q:=by
 have li:j<o2.length:=by rw [cw p2];exact hl
 have d:o2.drop j=o2[j]::o2.drop (j+1):=zq li;have el:=I.er;rw [d,cG] at el;have hF:=I.hF;have hi:=I.hi;refine ⟨_,eb,.inl ⟨rfl,_,.of I.ef⟩,_,ea,.inl ⟨rfl,_,.of el⟩,ra,_,0,0,.int ((n+o2[j]:Nat):Int),rfl,rfl,el,by decide,by decide,?_,rfl,?_⟩
 ·unfold az
  rw [aJ,fY];unfold seqIndex?;simp
 ·have ef:upd Hc ra (.lst ((az ((n+o2[j])::(o2.drop (j+1)).map (n + ·))).eraseIdx 0)) fa=some (.lst (az F)):=by rw [aK (Ne.symm A.rf)];exact I.ef
  refine ⟨fa,_,_,rfl,rfl,ef,by unfold az;rw [aJ];exact cN (by lia),k (F++[n+o2[j]]) _ ?_⟩
  obtain ⟨of,tp⟩:=K7 I (u:=.lst ((az ((n+o2[j])::(o2.drop (j+1)).map (n + ·))).eraseIdx 0)) (v:=.lst (az F++[.int ((n+o2[j]:Nat):Int)])) A.nr A.nf A.rT A.fT;refine ⟨of,tp,?_,?_,?_,?_,?_,hi,hl,by rw [gu,hF];show i+j+1=_;lia⟩
  ·rw [aK A.lf,aK A.lr]
   exact I.el
  ·rw [aK A.rf,aA]
   rfl
  ·rw [aA]
   unfold az;rw [ie];rfl
  ·rw [AI.1,aj (by lia),I.f1]
  ·rw [AI.2,aj (by lia),I.f2,nG,b6 li,jJ]
   rfl
theorem gK.Vz(I:gK H Hc T la ra fa n m o o2 i j F)(po:o.Perm (List.range n))(p2:o2.Perm (List.range m))(ei:¬i<n)(ej:¬j<m):cU n m o o2 F:=
 cU.of po p2 (by rw [I.f1,kC (by rw [cw po];lia)]) (by rw [I.f2,kC (by rw [cw p2];lia)])
theorem E2(po:o.Perm (List.range n)):(!(az (o.drop i)).isEmpty)=decide (i<n):=by
 unfold az;rw [List.isEmpty_map,K6,cw po];by_cases h:i<n;·simp [h]
 ·simp [h];lia
theorem AL{l:List Nat}:az l=(l.map iN).map V.int:=by unfold az;rw [d5];rfl
theorem K_(p2:o2.Perm (List.range m)):decide (((o2.drop j).map (n + ·)).map iN=[])=decide (¬j<m):=by
 have:=cw p2;by_cases h:j<m;·rw [zq (by lia),cJ (fun z=>nomatch z),cJ (fun z=>z h)]
 ·rw [List.drop_eq_nil_of_le (by lia),da h]
  rfl
theorem VA(p2:o2.Perm (List.range m)):(!(az ((o2.drop j).map (n + ·))).isEmpty)=decide (j<m):=by
 unfold az;rw [List.isEmpty_map,List.isEmpty_map,K6,cw p2];by_cases h:j<m;·simp [h]
 ·simp [h];lia
end
open PySem PySem.W PyProof.Rows
section
variable {prog:Program} {w:World} {A:Around} {E:aN} {s:Shared} {R:Result→Shared→Prop}
def E3(prog:Program)(w:World)(A:Around)(s:Shared)(vs:List Value)(kf:Nat→Int):Prop:=∀i j v u,j<i→vs[i]?=some v→vs[j]?=some u→∀(h:Heap) (tk:Nat) (Q:aN),j6 s h→(∀fh,Q (.bool (decide (kf i<kf j))) {s with heap:=h,toks:=fh})→wpAny (model prog w) A (richCompare .Lt v u) Q (fun _ _=>False) {s with heap:=h,toks:=tk}
variable {l:Addr} {kf:Nat→Int} {kw:List (Str×Value)}
theorem VB{I S:Addr}{vs:List Value}(hh:A.handled=none)(hl:s.heap.IsList l vs.toArray)(hI:s.heap.objs.size≤I)(hS:s.heap.objs.size≤S)(p8:S≠I)(cmp:E3 prog w A.in1 s vs kf)
  (hR:∀i v h' fh,vs[i]?=some v→(∀j,j<vs.length→kf i≤kf j∧(j<i→kf i<kf j))→j6 s h'→R (.ok (.ret v)) {s with heap:=h',toks:=fh}) :
  ∀(r j i:Nat) (h:Heap) (tk:Nat) (vb:Value) (c:Nat),vs.length-(j+1)=r→j+1≤vs.length→j6 s h→h.get? S=some (seqObj "list" #[vb,vb] c)→h.IsListIter I l (j+1)→vs[i]?=some vb→i≤j→(∀j',j'≤j→kf i≤kf j'∧(j'<i→kf i<kf j'))→
   codeAny (model prog w) A (.builtin "min.loop" ⟨[.ref I,.none,.ref S],kw⟩) R {s with heap:=h,toks:=tk}:=by
 have yd:(toString "min"++toString ".loop":String)="min.loop":=by decide
 have lI:l≠I:=fun e=>by obtain ⟨o,g,_⟩:=hl;exact dS _ (dF (bP g) (e▸hI))
 have W:=Walks.list (prog:=prog) (w:=w) (A:=A.in1) hh I l lI vs.toArray;have hsz:vs.toArray.size=vs.length:=cI ..;have lk:∀{h:Heap},j6 s h→h.IsList l vs.toArray:=fun{h} kp=>by obtain ⟨o,g,r⟩:=hl;exact ⟨o,kp _ _ g,r⟩
 have kI:∀{h h':Heap},j6 s h→(∀b o,b∉[I]→h.get? b=some o→h'.get? b=some o)→j6 s h':=fun kp k b o g=>k b o (fun z=>by rw [iR.mp z] at g;exact dS _ (dF (bP g) hI)) (kp b o g)
 have kS:∀{h:Heap} {f:Obj→Obj},j6 s h→j6 s (h.update S f):=fun{h f} kp b o g=>((zt h S f).2 b (fun z=>by rw [z] at g;exact dS _ (dF (bP g) hS))).trans (kp b o g)
 intro r
 induction r with
 | zero=>
  intro j i h tk vb c hr hj kp gS hit AM sv AN;have cC:j+1=vs.length:=by lia
  refine wM zu ?_;rw [zw nH _];show wpAny _ A.in1 (seqItems? (.ref S) >>= _) _ _ _;refine bI (wpAny_seqItems gS rfl ?_);show wpAny _ A.in1 (tryCatch (pyNext (.ref I)) _ >>= _) _ _ _;refine bI (w9 (W.done _ _ _ ⟨by rw [hsz,←cC];exact hit,lk kp⟩ fun h' fh dR=>?_))
  have oE:=dR S _ (by simpa using p8) gS
  show wpAny _ A.in1 (updateSeq S (fun _=>#[]) >>= _) _ _ _;refine bI (wpAny_updateSeq oE rfl (bI (wpAny_letGo (dH ?_))));exact hR i vb _ _ AM (fun j' fq=>AN j' (by lia)) (kS (kI kp dR))
 | succ r ih=>
  intro j i h tk vb c hr hj kp gS hit AM sv AN;have bV:j+1<vs.length:=by lia
  refine wM zu ?_;rw [zw nH _];show wpAny _ A.in1 (seqItems? (.ref S) >>= _) _ _ _;refine bI (wpAny_seqItems gS rfl ?_);show wpAny _ A.in1 (tryCatch (pyNext (.ref I)) _ >>= _) _ _ _;refine bI (w9 (W.item (j+1) _ _ _ (by rw [hsz];exact bV) ⟨hit,lk kp⟩ fun v h' fh hP AO dR=>?_))
  have hv:vs[j+1]?=some v:=by simpa using hP
  have ye:=kI kp dR;have oE:=dR S _ (by simpa using p8) gS
  show wpAny _ A.in1 (tryCatch (holding [v,v] (richCompare .Lt v vb >>= _)) _ >>= _) _ _ _;refine bI (w9 (wD (bI (dG (cmp (j+1) i v vb (by lia) hv AM h' fh (fun a hE=>∃AQ,a=.bool (decide (kf (j+1)<kf i))∧hE={s with heap:=h',toks:=AQ}) ye fun AQ=>⟨AQ,rfl,rfl⟩) (fun a hE he=>?_) fun _ _ hF=>hF.elim))))
  obtain ⟨AQ,rfl,rfl⟩:=he;refine bI (wD (mm ?_));refine bI (wpAny_letGo (dH ?_));by_cases tX:kf (j+1)<kf i
  ·obtain ⟨c2,sN⟩:∃c2,(h'.update S (Obj.mapSeq fun _=>#[v,v])).get? S=some (seqObj "list" #[v,v] c2):=⟨_,get?_update_seq oE fun _=>#[v,v]⟩
   simp only [tX,decide_true,dJ];refine bI (wpAny_updateSeq oE rfl (bI (wpAny_letGo ?_)));rw [yd];obtain ⟨oI,g1,g2⟩:=id AO.1;refine dH ⟨plainId_quiet nH _,ih (j+1) (j+1) _ _ v c2 (by lia) bV (kS ye) sN ⟨oI,((zt h' S _).2 I p8.symm).trans g1,g2⟩ hv (aG _) fun j' fq=>?_⟩
   by_cases e:j'=j+1
   ·subst e
    exact ⟨by lia,fun _=>by lia⟩
   ·have oF:=AN j' (by lia)
    have hb2:=oF.1;exact ⟨by lia,fun _=>by lia⟩
  ·simp only [tX,decide_false,Bool.false_eq_true,fb]
   refine bI (wpAny_letGo ?_);rw [yd];refine dH ⟨plainId_quiet nH _,ih (j+1) i _ _ vb c (by lia) bV ye oE AO.1 AM (by lia) fun j' fq=>?_⟩
   by_cases e:j'=j+1
   ·subst e
    exact ⟨by lia,fun _=>by lia⟩
   ·exact AN j' (by lia)
theorem VC{vs:List Value}{dflt:Option Value}{Q:aN}(hh:A.handled=none)(ha:argsOk "min" ⟨[.ref l],kw⟩)(hb:Builtin.Builtins.bindParams "min" ["key","default"] 0 ⟨[],kw⟩=pure [none,dflt])
  (hl:s.heap.IsList l vs.toArray) (cmp:E3 prog w A.in1 s vs kf) (e_:0<vs.length∨∃d,dflt=some d)
  (hQ:∀i v h' fh,vs[i]?=some v→(∀j,j<vs.length→kf i≤kf j∧(j<i→kf i<kf j))→j6 s h'→Q v {s with heap:=h',toks:=fh})
  (hD:vs.length=0→∀d,dflt=some d→∀h' fh,j6 s h'→Q d {s with heap:=h',toks:=fh}) :
  wpAny (model prog w) A (call (.builtin "min") [.ref l] kw) Q E s:=by
 have yd:(toString "min"++toString ".loop":String)="min.loop":=by decide
 obtain ⟨ol,VD,_⟩:=id hl;have La:l<s.heap.objs.size:=bP VD;refine kmk_tree PySem.F.kind_min PySem.F.plain_min PySem.F.entry_min ha ?_;show wpAny _ A.in1 (Builtin.Builtins.bindParams "min" ["key","default"] 0 ⟨[],kw⟩ >>= _) _ _ s;refine bI (wpAny_of_eq hb ?_);refine bI (dH ?_);refine bI (wF hl ?_);refine bI (wpAny_newList ?_ (b_ _));rw [yd];have hS:(s.heap.push {cls:=.type "list_iterator",data:=.fields #[.ref l,.int 0 0]}).objs.size=s.heap.objs.size+1:=size_push' ..;have gI:((s.heap.push {cls:=.type "list_iterator",data:=.fields #[.ref l,.int 0 0]}).push (seqObj "list" #[] 0)).get? s.heap.objs.size=some {cls:=.type "list_iterator",data:=.fields #[.ref l,.int 0 0]}:=cF _ (eX _ rfl);have gS:((s.heap.push {cls:=.type "list_iterator",data:=.fields #[.ref l,.int 0 0]}).push (seqObj "list" #[] 0)).get? (s.heap.objs.size+1)=some (seqObj "list" #[] 0):=by rw [←hS];exact eX _ rfl
 have kp:j6 s ((s.heap.push {cls:=.type "list_iterator",data:=.fields #[.ref l,.int 0 0]}).push (seqObj "list" #[] 0)):=fun b o e=>cF _ (cF _ e);refine dH ⟨plainId_quiet nH _,?_⟩;rw [hS];show codeAny _ _ _ _ {s with heap:=(s.heap.push {cls:=.type "list_iterator",data:=.fields #[.ref l,.int 0 0]}).push (seqObj "list" #[] 0)};generalize (s.heap.push {cls:=.type "list_iterator",data:=.fields #[.ref l,.int 0 0]}).push (seqObj "list" #[] 0)=hp at gI gS kp;obtain ⟨S,eS⟩:∃S,S=s.heap.objs.size+1:=⟨_,rfl⟩;obtain ⟨I,eI⟩:∃I,I=s.heap.objs.size:=⟨_,rfl⟩;have p8:S≠I:=by rw [eS,eI];exact Nat.ne_of_gt (wH _)
 have Lb:s.heap.objs.size≤I:=Nat.le_of_eq eI.symm;have Lc:s.heap.objs.size≤S:=by rw [eS];exact ko _
 have VE:l≠I:=by rw [eI];exact dC La
 rw [←eS] at gS ⊢;rw [←eI] at gI ⊢;have W:=Walks.list (prog:=prog) (w:=w) (A:=A.in1) hh I l VE vs.toArray;have hsz:vs.toArray.size=vs.length:=cI ..;have lk:hp.IsList l vs.toArray:=by obtain ⟨o,g,r⟩:=hl;exact ⟨o,kp _ _ g,r⟩
 have kI:∀{h':Heap},(∀b o,b∉[I]→hp.get? b=some o→h'.get? b=some o)→j6 s h':=fun k b o g=>k b o (fun z=>by rw [iR.mp z] at g;exact dS _ (dF (bP g) Lb)) (kp b o g)
 by_cases hz:0<vs.length
 ·refine wM zu ?_
  rw [zw nH _];show wpAny _ A.in1 (seqItems? (.ref S) >>= _) _ _ _;refine bI (wpAny_seqItems gS rfl ?_);show wpAny _ A.in1 (tryCatch (pyNext (.ref I)) _ >>= _) _ _ _;refine bI (w9 (W.item 0 _ _ _ (by rw [hsz];exact hz) ⟨⟨_,gI,rfl,rfl⟩,lk⟩ fun v h' fh hP AO dR=>?_))
  have hv:vs[0]?=some v:=by simpa using hP
  obtain ⟨VF,VG,VH⟩:=id AO.1;have oE:=dR S _ (by simpa using p8) gS
  have ye:=kI dR;obtain ⟨c2,sN⟩:∃c2,(h'.update S (Obj.mapSeq fun _=>#[v,v])).get? S=some (seqObj "list" #[v,v] c2):=⟨_,get?_update_seq oE fun _=>#[v,v]⟩;show wpAny _ A.in1 (updateSeq S (fun _=>#[v,v]) >>= _) _ _ _;refine bI (wpAny_updateSeq oE rfl ?_);rw [yd];refine dH ⟨plainId_quiet nH _,VB hh hl Lb Lc p8 cmp hQ _ 0 0 _ _ v c2 rfl hz (fun b o g=>((zt h' S _).2 b (fun z=>?_)).trans (ye b o g)) sN ⟨VF,((zt h' S _).2 I p8.symm).trans VG,VH⟩ hv (aG _) fun j' fq=>?_⟩
  ·rw [z] at g
   exact dS _ (dF (bP g) Lc)
  ·have e:j'=0:=by lia
   subst e;exact ⟨Int.le_refl _,fun h=>absurd h (dS _)⟩
 ·have z0:vs.length=0:=by lia
  obtain ⟨d,rfl⟩:∃d,dflt=some d:=e_.elim (fun h=>absurd h hz) id;refine wM zu ?_;rw [zw nH _];show wpAny _ A.in1 (seqItems? (.ref S) >>= _) _ _ _;refine bI (wpAny_seqItems gS rfl ?_);show wpAny _ A.in1 (tryCatch (pyNext (.ref I)) _ >>= _) _ _ _;refine bI (w9 (W.done _ _ _ ⟨⟨_,gI,rfl,by rw [hsz,z0];rfl⟩,lk⟩ fun h' fh dR=>?_))
  exact bI (wpAny_rule (dH (hD z0 d rfl h' fh (kI dR))))
end
section
open PySem.SeqAt
open PySem.AutoSeq1 (wpAny_loadPart')
open PySem.MeetsSeq PySem.MeetsSeq2 PySem.MeetsSeq3
theorem VI(l b:Addr)(a c:Int)(t u:Tok)(v v':Value)(n n2:Nat)(dd sJ:Option Addr)(sl sM:Array (Option Value))(ne:a≠c) :
  Meets (Builtin.«tuple.__lt__» ⟨[.ref l,.ref b],[]⟩)
   (fun _ R s=>s.heap.get? l=some {cls:=.type "tuple",dict:=dd,data:=.seq #[.int a t,v] n,slots:=sl}∧s.heap.get? b=some {cls:=.type "tuple",dict:=sJ,data:=.seq #[.int c u,v'] n2,slots:=sM} ∧
    R (.ok (.ret (.bool (decide (a<c))))) s):=
 .of_wp fun prog w A R s h=>by
  obtain ⟨hp,g,d,tk,os⟩:=s;obtain ⟨hl,hb,h⟩:=h;have f2:=AutoSeq1.sub_tuple_tuple
  wp_walk using wpAny_loadPart' hl,wpAny_loadPart' hb,wpAny_forIn_list _ (fun rest b s'=>b.1=none∧s'=⟨hp,g,d,tk,os⟩∧rest=[(Value.int a t,Value.int c u),(v,v')]) _
  case turn=>
   rintro ⟨y,x⟩ rest b s' ⟨tX,rfl,hz⟩;injection hz with VJ aeM;injection VJ with hy hx;subst hy hx;obtain ⟨e,he,VL⟩:=HT.PD A.in1 ⟨hp,g,d,tk,os⟩ a t c u;refine bI (he prog w _ _ ?_);cases e with
   | true=>exact absurd (VL.mp rfl) ne
   | false=>
    have VM:=HT.PF A.in1 ⟨hp,g,d,tk,os⟩ a t c u prog w
    wp_walk using VM
    exact ⟨_,rfl,by simpa using h⟩
  case fin=>rintro ⟨b1,b2⟩ s' ⟨tX,rfl,hz⟩;cases hz
  case h=>exact ⟨rfl,rfl,rfl⟩
end
def Ld(h:Heap)(v:Value)(x:Int):Prop:=∃a o t z e,v=.ref a∧h.get? a=some o∧o.cls=.type "tuple"∧o.data=.seq #[.int x t,z] e
theorem VN{prog:Program}{w:World}{A:Around}{s:Shared}{vs:List Value}(hu:A.units<cLine)(hv:∀i v,vs[i]?=some v→Ld s.heap v (x i))(hx:∀i j,j<i→i<vs.length→x i≠x j):E3 prog w A s vs x:=fun i j v u ji hi hj h tk Q kp hQ=>by
 obtain ⟨a,⟨cls,dd,data,sl⟩,t1,z1,e,rfl,g,c,d⟩:=hv i v hi;obtain ⟨b,⟨PJ,sJ,data2,sM⟩,t3,z3,e',rfl,g',c',d'⟩:=hv j u hj;simp only at c d c' d';subst c d c' d'
 exact richCompare_meets_room (s:={s with heap:=h,toks:=tk}) (op:=.Lt) ⟨_,kp _ _ g,rfl⟩ ⟨_,kp _ _ g',rfl⟩ PySem.F.slot_tuple_lt PySem.F.entry_tuple_lt (PySem.F.args_tuple_lt_2 _ _) (VI a b (x i) (x j) t1 t3 z1 z3 _ _ dd sJ sl sM (hx i j ji (bQ.mp hi).1))
  ⟨kp _ _ g,kp _ _ g',show Value.bool (decide (x i<x j))≠Value.notImplemented∧Q (.bool (decide (x i<x j))) _ from ⟨(fun x=>nomatch x),hQ tk⟩⟩ hu
end My
namespace L2
open PySem PySem.W PyProof.Rows My
def Le:List V→Hp→VK→Prop:=fun xs H Q=>∃(l:Addr) (vs:List V) (x:Nat→Int),xs=[.ref l]∧H l=some (.lst vs)∧0<vs.length∧(∀(i:Nat) (v:V),vs[i]?=some v→∃b z,v=.ref b∧H b=some (.tup [.int (x i),z]))∧(∀i j,j<i→i<vs.length→x i≠x j) ∧
 ∀(i:Nat) (v:V),vs[i]?=some v→(∀j,j<vs.length→x i≤x j)→Q v H
theorem VO{X:Cx}(hc:X.calm=true)(hu:X.A.units+64<cLine):gc X (.builtin "min") Le:=by
 intro pins s σ H xs us Q I r h;obtain ⟨l,vs,x,rfl,hl,h0,hv,hx,k⟩:=h;obtain ⟨u,rfl,ru⟩:=vals1 r;cases ru;obtain ⟨ai,rv,pl,hz⟩:=I.list (.of hl);have La:=rv.length;have at':∀i v,ai[i]?=some v→Ld s.heap v (x i):=fun i v hi=>by
  have fm:i<vs.length:=by have:=(bQ.mp hi).1;lia
  have gi:vs[i]?=some vs[i]:=by simp [fm]
  obtain ⟨b,z,eb,hb⟩:=hv i _ gi;obtain ⟨u,eu,ru⟩:=rv.get gi;rw [hi] at eu;cases eu;rw [eb] at ru;cases ru;obtain ⟨_,mH,r2,o,g,cl,e,d⟩:=(show cQ X.prog X.w H s.heap b (.tup [.int (x i),z]) from I.aD b _ hb);obtain ⟨u1,u2,rfl,q1,q2⟩:=vals2 r2;obtain ⟨t1,rfl⟩:=q1;exact ⟨b,o,t1,u2,e,rfl,g,cl,d⟩
 have VP:X.A.in1.units<cLine:=by show X.A.units+1<cLine;lia
 refine VC (kf:=x) (dflt:=none) (I.ok.hd hc) (TQ _) rfl pl.isList (VN VP at' fun i j ji hi=>hx i j ji (by lia)) (.inl (by lia)) (fun i v h' fh hi best kp=>?_) (fun z0=>by lia)
 have fm:i<vs.length:=by have:=(bQ.mp hi).1;lia
 have gi:vs[i]?=some vs[i]:=by simp [fm]
 obtain ⟨u,eu,ru⟩:=rv.get gi;rw [hi] at eu;cases eu;exact ⟨vs[i],H,I.kept (t':=fh) kp,ru,k i _ gi fun j hj=>(best j (by lia)).1⟩
end L2
namespace My
open PySem L2
inductive k4 (H:Hp) (D:Addr) (q:Int) (N:Nat) (line:List Nat) (W:aQ) (L:bS) (r:Addr) (xs:List V):Prop where
 | one (S:Nat):aW q W (cO line N)→(∀g:Nat→List Nat,(∀p,p<N→dO N line p (g p)∧dD N L line p (g p))→gF N g=S)→H D=some (.tup [.str (Str.ofString "one"),.ref r,.int (S:Int)])→H r=some (.lst xs)→xs.length=N→(∀c x,xs[c]?=some x→∃X T U,aO X H q x T U∧Cg q (cg W (cO line N) N c*U) (T*ar W (cO line N)))→k4 H D q N line W L r xs
 | fU (K:Nat) (hK:K<line.length):aW q W (cO line K)→q∣ao W (cO line K) (W line[K]) line[K]→H D=some (.tup [.str (Str.ofString "stops"),.int ((K:Int)+1),.ref r])→H r=some (.lst xs)→xs.length=N→(∀c x,xs[c]?=some x→∃X T U,aO X H q x T U∧Cg q (bN W line K line[K] c*U) (T*ar W (cO line K)))→k4 H D q N line W L r xs
variable {H:Hp} {D:Addr} {q:Int} {N:Nat} {line:List Nat} {W:aQ} {L:bS} {xs:List V}
theorem k4.mono{H':Hp}{r:Addr}(h:k4 H D q N line W L r xs)(s:af H H'):k4 H' D q N line W L r xs:=by
 cases h with
 | one S a b c d e z=>exact .one S a b (s _ _ c) (s _ _ d) e fun i x hi=>let ⟨X,T,U,w,u⟩:=z i x hi;⟨X,T,U,w.mono s,u⟩
 | fU K hK a b c d e z=>exact .fU K hK a b (s _ _ c) (s _ _ d) e fun i x hi=>let ⟨X,T,U,w,u⟩:=z i x hi;⟨X,T,U,w.mono s,u⟩
theorem VQ{K:aC}{fd:Addr}{X:Nat}{r r':Addr}{lv:Nat→V}{at':Nat}(hq:aZ q)(cE:line.Perm (List.range N))(ha:gT H fd q X N line W L r lv at')(hd:k4 H D q N line W L r' xs) :
  ∃a b c a' b' c',H fd=some (.tup [a,b,c])∧H D=some (.tup [a',b',c'])∧mT K H 2 a a'∧mT K H 2 b b'∧mT K H 2 c c':=by
 have ll:=cw cE;have rows:∀{T U:Nat→Int},dy H r N lv→H r'=some (.lst xs)→xs.length=N→(∀i,i<N→aO X H q (lv i) (T i) (U i))→(∀c x,xs[c]?=some x→∃X T' U',aO X H q x T' U'∧Cg q (T c*U') (T'*U c))→mT K H 2 (.ref r) (.ref r'):=fun{T U} er p9 lx hw hx=>by
  refine .inr ⟨_,_,_,_,rfl,rfl,.inl ⟨.of er,.of p9⟩,by simp [lx],fun j x y VR hy=>?_⟩
  obtain ⟨hj,rfl⟩:=iM VR;obtain ⟨X',T',U',w',e⟩:=hx j y hy;obtain ⟨x1,m1,u1,u2⟩:=Ks hq (hw j hj) w' e;exact EF u1 u2
 cases ha with
 | one g gd dQ e er ew=>
  cases hd with
  | fU k hk g2 dv=>exact (tQ ll hk dv gd).elim
  | one S p_ hS e' p9 lx hx=>exact ⟨_,_,_,_,_,_,e,e',.inl ⟨rfl,rfl⟩,rows er p9 lx ew hx,by rw [←hS g dQ];exact .inl ⟨rfl,rfl⟩⟩
 | fU k hk g d e er ew=>
  cases hd with
  | one S p_=>exact (tQ ll hk d p_).elim
  | fU k2 k6 g2 dv e' p9 lx hx=>have:=Kr ll hk k6 g d g2 dv;subst this;exact ⟨_,_,_,_,_,_,e,e',.inl ⟨rfl,rfl⟩,.inl ⟨rfl,rfl⟩,rows er p9 lx ew hx⟩
end My
namespace L2
open PySem My
section
variable {X:Cx}
def VS(K:aC)(n:Nat)(r:Bool):R2:=fun x y H Q=>∃a b xs ys,x=.ref a∧y=.ref b∧dN K H a xs∧dN K H b ys∧xs.length=ys.length∧(∀(j:Nat) (x y:V),xs[j]?=some x→ys[j]?=some y→mT K H n x y)∧Q (.bl r) H
theorem VT{n:Nat}(hu:X.A.units+64<cLine)(hn:n<60:=by decide):cB X (compareOp .NotEq) (VS X.K n false):=by
 intro pins s σ H x y v u Q I rx ry h;obtain ⟨a,b,xs,ys,rfl,rfl,h1,h2,hl,hi,q⟩:=h;cases rx;cases ry;obtain ⟨us,r1,t1,_⟩:=I.tuple h1;obtain ⟨vs,r2,t2,_⟩:=I.tuple h2;have l1:=r1.length;have l2:=r2.length;refine SeqAt.RcNeAt.tuples (e:=fun _=>true) t1 t2 (by lia) (fun j z1 z2=>?_) _ _ _ _ ?_
 ·have Ae:j<us.length:=by simpa using z1
  have Af:j<vs.length:=by simpa using z2
  obtain ⟨x,ex⟩:∃x,xs[j]?=some x:=⟨xs[j],by simp [show j<xs.length by lia]⟩
  obtain ⟨y,ey⟩:∃y,ys[j]?=some y:=⟨ys[j],by simp [show j<ys.length by lia]⟩
  obtain ⟨x',kH,rx⟩:=r1.get ex;obtain ⟨y',mU,ry⟩:=r2.get ey;have e1:us.toArray[j]=x':=by simpa using (bQ.mp kH).2
  have e2:vs.toArray[j]=y':=by simpa using (bQ.mp mU).2
  rw [e1,e2];exact Ad I n X.A.in1 x y x' y' (hi j x y ex ey) rx ry (by rw [zf];lia)
 ·have e3:(us.toArray.size == vs.toArray.size)=true:=by simp;lia
  rw [all_range,e3];exact ⟨.bl false,H,I,rfl,q⟩
end
end L2
namespace My
open PySem L2
def VU:Sp:=fun vs H Q _=>∃(td ln fd dZ r r2:Addr) (q:Int) (X X2 n m a a2:Nat) (o o2 line:List Nat) (f f2:Nat→Nat→Int×Int) (lv eU:Nat→V),vs=[.ref td,.ref ln,.ref fd,.ref dZ,.int (n:Int),.int (m:Int)]∧gH H td q∧aZ q∧H ln=some (.lst (az line))∧cU n m o o2 line∧n≤9∧m≤9 ∧
 gT H fd q X n o (ag q n f) (b7 n (bf (b9 n n f)) n) r lv a∧gT H dZ q X2 m o2 (ag q m f2) (b7 m (bf (b9 m m f2)) m) r2 eU a2 ∧
 ∀(D r':Addr) (xs:List V) (H':Hp),af H H'→k4 H' D q (n+m) line (ag q (n+m) (bG n m f f2)) (b7 (n+m) (bf (b9 (n+m) (n+m) (bG n m f f2))) (n+m)) r' xs→Q (.ref D) H'
section
variable {H:Hp} {D r':Addr} {q:Int} {n m:Nat} {o o2 line:List Nat} {f f2:Nat→Nat→Int×Int} {xs:List V}
theorem E4{A B:List V}{c:Nat}{x:V}(la:A.length=n)(h:(A++B)[c]?=some x):(c<n∧A[c]?=some x)∨(¬c<n∧B[c-n]?=some x∧c-n<B.length):=by
 by_cases hc:c<n
 ·rw [nC (by lia)] at h
  exact .inl ⟨hc,h⟩
 ·rw [lB (by lia),la] at h
  exact .inr ⟨hc,h,(bQ.mp h).1⟩
theorem VV{X X2:Nat}{lv eU:Nat→V}{g g2:Nat→List Nat}(hq:aZ q)(h:cU n m o o2 line)(g1:aW q (ag q n f) (cO o n))(Ek:aW q (ag q m f2) (cO o2 m))
  (l1:∀p,p<n→dO n o p (g p)∧dD n (b7 n (bf (b9 n n f)) n) o p (g p)) (l2:∀p,p<m→dO m o2 p (g2 p)∧dD m (b7 m (bf (b9 m m f2)) m) o2 p (g2 p))
  (w1:∀i,i<n→aO X H q (lv i) (cg (ag q n f) (cO o n) n i) (ar (ag q n f) (cO o n))) (w2:∀i,i<m→aO X2 H q (eU i) (cg (ag q m f2) (cO o2 m) m i) (ar (ag q m f2) (cO o2 m)))
  (eD:H D=some (.tup [.str (Str.ofString "one"),.ref r',.int ((gF n g:Int)+(gF m g2:Int))])) (er:H r'=some (.lst ((List.range n).map lv++(List.range m).map eU))):k4 H D q (n+m) line (ag q (n+m) (bG n m f f2)) (b7 (n+m) (bf (b9 (n+m) (n+m) (bG n m f f2))) (n+m)) r' ((List.range n).map lv++(List.range m).map eU):=by
 obtain ⟨gd,dt,cr⟩:=Vj hq h g1 Ek;refine .one (gF n g+gF m g2) gd (fun gW hW=>Vu h l1 l2 hW) (by rw [eD];congr 6) er (by simp) fun c x hx=>?_
 rcases E4 (n:=n) (by simp) hx with ⟨hc,hx⟩ | ⟨hc,hx,hl⟩
 ·obtain ⟨hi,rfl⟩:=iM hx
  refine ⟨_,_,_,w1 c hi,?_⟩;have e:=cr c (by lia)
  rw [ak hc] at e;rw [dt];refine (e.mulR _).trans (Cg.of_eq ?_);grind
 ·obtain ⟨hi,rfl⟩:=iM hx
  refine ⟨_,_,_,w2 _ hi,?_⟩;have e:=cr c (by lia)
  rw [aj hc] at e;rw [dt];refine (e.mulR _).trans (Cg.of_eq ?_);grind
end
def Lf(n:Int):V→Bool | .int i=>decide (i<n) | _=>false
def E5(n:Int):V→Bool | .int i=>decide (n≤i) | _=>false
variable {n:Nat} {l:List Nat}
theorem VW:(az l).filter (Lf n)=az (bw n l):=by
 unfold az bw;rw [List.filter_map]
 congr 1
 refine List.filter_congr fun c _=>?_;show decide ((c:Int)<n)=decide (c<n);exact decide_eq_decide.mpr (by lia)
theorem VX:(az l).filter (E5 n)=az ((bg n l).map (n + ·)):=by
 unfold az bg;rw [List.filter_map,d5];have e:l.filter ((E5 (n:Int)) ∘ fun k:Nat=>V.int (k:Int))=l.filter fun c=>decide (n≤c):=List.filter_congr fun c _=>by show decide ((n:Int)≤c)=decide (n≤c);exact decide_eq_decide.mpr (by lia)
 rw [e,d5];refine de fun c hc=>?_;have:=(i8.mp hc).2;have:n≤c:=by simpa using this
 show V.int ((c:Nat):Int)=V.int ((n+(c-n):Nat):Int);rw [show n+(c-n)=c by lia]
variable {X:Nat} {H H':Hp} {q:Int} {v:V} {sp:Addr} {ys:List V}
theorem VY{x m:Int}(h:bj X H q v x m)(e:H sp=some (.lst ys))(o:∀b u,b≠sp→H b=some u→H' b=some u):bj X H' q v x m:=by
 cases h with
 | rem a b c=>exact .rem a b c
 | bU e' l b1 b2=>exact .bU (o _ _ (fun z=>by rw [z,e] at e';cases e') e') l b1 b2
theorem Lg{T U:Int}(h:aO X H q v T U)(e:H sp=some (.lst ys))(o:∀b u,b≠sp→H b=some u→H' b=some u):aO X H' q v T U:=let ⟨x,m,a,b⟩:=h;⟨x,m,VY a e o,b⟩
structure ma (H:Hp) (sp:Addr) (q:Int) (N:Nat) (key:Int) (T U:Nat→Int) (v:V):Prop where
 at':∃t1 c1 xs,v=.ref t1∧H t1=some (.tup [.int key,.ref c1])∧c1≠sp∧H c1=some (.lst xs)∧xs.length=N∧∀(c:Nat) (x:V),xs[c]?=some x→∃X,aO X H q x (T c) (U c)
theorem ma.off{N:Nat}{key:Int}{T U:Nat→Int}(h:ma H sp q N key T U v)(e:H sp=some (.lst ys))(o:∀b u,b≠sp→H b=some u→H' b=some u):ma H' sp q N key T U v:=by obtain ⟨t1,c1,xs,rfl,e1,ne,e2,l,w⟩:=h.at';exact ⟨t1,c1,xs,rfl,o _ _ (fun z=>by rw [z,e] at e1;cases e1) e1,ne,o _ _ ne e2,l,fun c x hx=>let ⟨X,w⟩:=w c x hx;⟨X,Lg w e o⟩⟩
section
variable {H:Hp} {D r':Addr} {q:Int} {n m:Nat} {o o2 line:List Nat} {f f2:Nat→Nat→Int×Int} {xs:List V}
def tY(q:Int)(n:Nat)(f:Nat→Nat→Int×Int)(o:List Nat)(k p:Nat)(c:Nat):Int:=if c<n then bN (ag q n f) o k p c else 0
def tZ(q:Int)(n:Nat)(f:Nat→Nat→Int×Int)(o:List Nat)(k:Nat)(c:Nat):Int:=if c<n then ar (ag q n f) (cO o k) else 1
def t6(q:Int)(n m:Nat)(f2:Nat→Nat→Int×Int)(o2:List Nat)(k p:Nat)(c:Nat):Int:=if c<n then 0 else bN (ag q m f2) o2 k p (c-n)
def t8(q:Int)(n m:Nat)(f2:Nat→Nat→Int×Int)(o2:List Nat)(k:Nat)(c:Nat):Int:=if c<n then 1 else ar (ag q m f2) (cO o2 k)
variable {k:Nat}
theorem VZ(hq:aZ q)(h:cU n m o o2 line)(hk:k<o.length)(g1:aW q (ag q n f) (cO o k))(dv:q∣ao (ag q n f) (cO o k) (ag q n f o[k]) o[k])(g2:aW q (ag q m f2) (bg n (cO line (line.idxOf o[k]))))
  (lx:xs.length=n+m) (w:∀(c:Nat) (x:V),xs[c]?=some x→∃X,aO X H q x (tY q n f o k o[k] c) (tZ q n f o k c))
  (eD:H D=some (.tup [.str (Str.ofString "stops"),.int ((line.idxOf o[k]:Int)+1),.ref r'])) (er:H r'=some (.lst xs)):k4 H D q (n+m) line (ag q (n+m) (bG n m f f2)) (b7 (n+m) (bf (b9 (n+m) (n+m) (bG n m f f2))) (n+m)) r' xs:=by
 obtain ⟨hK,eK,gd,E6,dt,mv⟩:=Vk hq h hk g1 dv g2;refine .fU (line.idxOf o[k]) hK gd (by rw [eK];exact E6) eD er lx fun c x hx=>?_
 rw [eK];have e:=mv c (by have:=(bQ.mp hx).1;lia)
 obtain ⟨X,w⟩:=w c x hx;unfold tY tZ at w;refine ⟨_,_,_,w,(e.mulR _).trans (Cg.of_eq ?_)⟩;rw [dt];by_cases hc:c<n
 ·simp only [hc,dJ]
  grind
 ·simp only [hc,fb]
  grind
theorem V0(hq:aZ q)(h:cU n m o o2 line)(hk:k<o2.length)(g2:aW q (ag q m f2) (cO o2 k))(dv:q∣ao (ag q m f2) (cO o2 k) (ag q m f2 o2[k]) o2[k])(g1:aW q (ag q n f) (bw n (cO line (line.idxOf (n+o2[k])))))
  (lx:xs.length=n+m) (w:∀(c:Nat) (x:V),xs[c]?=some x→∃X,aO X H q x (t6 q n m f2 o2 k o2[k] c) (t8 q n m f2 o2 k c))
  (eD:H D=some (.tup [.str (Str.ofString "stops"),.int ((line.idxOf (n+o2[k]):Int)+1),.ref r'])) (er:H r'=some (.lst xs)):k4 H D q (n+m) line (ag q (n+m) (bG n m f f2)) (b7 (n+m) (bf (b9 (n+m) (n+m) (bG n m f f2))) (n+m)) r' xs:=by
 obtain ⟨hK,eK,gd,E6,dt,mv⟩:=Vl hq h hk g2 dv g1;refine .fU (line.idxOf (n+o2[k])) hK gd (by rw [eK];exact E6) eD er lx fun c x hx=>?_
 rw [eK];have e:=mv c (by have:=(bQ.mp hx).1;lia)
 obtain ⟨X,w⟩:=w c x hx;unfold t6 t8 at w;refine ⟨_,_,_,w,(e.mulR _).trans (Cg.of_eq ?_)⟩;rw [dt];by_cases hc:c<n
 ·simp only [hc,dJ]
  grind
 ·simp only [hc,fb]
  grind
variable {j K:Nat}
theorem Lh(h:cU n m o o2 line)(g:aW q (ag q m f2) (cO o2 j))(hj:j=m∨∃hj:j<o2.length,K≤line.idxOf (n+o2[j])):aW q (ag q m f2) (bg n (cO line K)):=by
 rw [ET h];refine j8 g ?_;rcases hj with rfl | ⟨hj,hK⟩
 ·have:(bg n (line.take K)).length≤(bg n line).length:=by unfold bg;rw [aJ,aJ];exact ((List.take_prefix K line).filter _).length_le
  rw [h.two,cw h.p2] at this;exact this
 ·exact KQ h hj hK
theorem Li(h:cU n m o o2 line)(g:aW q (ag q n f) (cO o j))(hj:j=n∨∃hj:j<o.length,K≤line.idxOf o[j]):aW q (ag q n f) (bw n (cO line K)):=by
 rw [ES h];refine j8 g ?_;rcases hj with rfl | ⟨hj,hK⟩
 ·have:(bw j (line.take K)).length≤(bw j line).length:=((List.take_prefix K line).filter _).length_le
  rw [h.one,cw h.po] at this;exact this
 ·exact one_le h hj hK
theorem V1(h:cU n m o o2 line){a b:Nat}(ha:a<n)(hb:b<m):line.idxOf a≠line.idxOf (n+b):=fun z=>by
 have:=E1 ((bF h.cE).mpr (show a<n+m by lia)) ((bF h.cE).mpr (show n+b<n+m by lia)) z
 lia
end
def t9(H:Hp)(sp:Addr)(q:Int)(n m:Nat)(o line:List Nat)(f:Nat→Nat→Int×Int)(vs:List V):Prop:=(aW q (ag q n f) (cO o n)∧vs=[])∨∃(k:Nat) (hk:k<o.length) (v:V),aW q (ag q n f) (cO o k)∧q∣ao (ag q n f) (cO o k) (ag q n f o[k]) o[k]∧vs=[v]∧ma H sp q (n+m) ((line.idxOf o[k]:Int)+1) (tY q n f o k o[k]) (tZ q n f o k) v
def yf(H:Hp)(sp:Addr)(q:Int)(n m:Nat)(o2 line:List Nat)(f2:Nat→Nat→Int×Int)(vs:List V):Prop:=(aW q (ag q m f2) (cO o2 m)∧vs=[])∨∃(k:Nat) (hk:k<o2.length) (v:V),aW q (ag q m f2) (cO o2 k)∧q∣ao (ag q m f2) (cO o2 k) (ag q m f2 o2[k]) o2[k]∧vs=[v]∧ma H sp q (n+m) ((line.idxOf (n+o2[k]):Int)+1) (t6 q n m f2 o2 k o2[k]) (t8 q n m f2 o2 k) v
section
variable {H H':Hp} {sp:Addr} {q:Int} {n m:Nat} {o o2 line:List Nat} {f f2:Nat→Nat→Int×Int} {vs ws:List V}
theorem t9.off(h:t9 H sp q n m o line f vs)(e:H sp=some (.lst ys))(of:∀b u,b≠sp→H b=some u→H' b=some u):t9 H' sp q n m o line f vs:=
 h.imp id fun⟨k,hk,v,a,b,c,d⟩=>⟨k,hk,v,a,b,c,d.off e of⟩
theorem yf.off(h:yf H sp q n m o2 line f2 vs)(e:H sp=some (.lst ys))(of:∀b u,b≠sp→H b=some u→H' b=some u):yf H' sp q n m o2 line f2 vs:=
 h.imp id fun⟨k,hk,v,a,b,c,d⟩=>⟨k,hk,v,a,b,c,d.off e of⟩
theorem V2{Q:VK}(hq:aZ q)(h:cU n m o o2 line)(s1:t9 H sp q n m o line f vs)(s2:yf H sp q n m o2 line f2 ws)(nb:¬(aW q (ag q n f) (cO o n)∧aW q (ag q m f2) (cO o2 m)))(e:H sp=some (.lst (vs++ws)))
  (k:∀(t1 c1:Addr) (xs:List V) (key:Int),H t1=some (.tup [.int key,.ref c1])→(∀(D:Addr) (H':Hp),af H H'→H' D=some (.tup [.str (Str.ofString "stops"),.int key,.ref c1])→k4 H' D q (n+m) line (ag q (n+m) (bG n m f f2)) (b7 (n+m) (bf (b9 (n+m) (n+m) (bG n m f f2))) (n+m)) c1 xs)→Q (.ref t1) H):Le [.ref sp] H Q:=by
 have d1:∀{k1:Nat} (hk:k1<o.length) {v:V},aW q (ag q n f) (cO o k1)→q∣ao (ag q n f) (cO o k1) (ag q n f o[k1]) o[k1]→aW q (ag q m f2) (bg n (cO line (line.idxOf o[k1])))→ma H sp q (n+m) ((line.idxOf o[k1]:Int)+1) (tY q n f o k1 o[k1]) (tZ q n f o k1) v→Q v H:=fun{k1} hk {v} g dv g2 st=>by obtain ⟨t1,c1,xs,rfl,e1,_,e2,l,w⟩:=st.at';exact k t1 c1 xs _ e1 fun D H' s eD=>VZ hq h hk g dv g2 l (fun c x hx=>let ⟨X,w⟩:=w c x hx;⟨X,w.mono s⟩) eD (s _ _ e2)
 have d2:∀{k1:Nat} (hk:k1<o2.length) {v:V},aW q (ag q m f2) (cO o2 k1)→q∣ao (ag q m f2) (cO o2 k1) (ag q m f2 o2[k1]) o2[k1]→aW q (ag q n f) (bw n (cO line (line.idxOf (n+o2[k1]))))→ma H sp q (n+m) ((line.idxOf (n+o2[k1]):Int)+1) (t6 q n m f2 o2 k1 o2[k1]) (t8 q n m f2 o2 k1) v→Q v H:=fun{k1} hk {v} g dv g2 st=>by obtain ⟨t1,c1,xs,rfl,e1,_,e2,l,w⟩:=st.at';exact k t1 c1 xs _ e1 fun D H' s eD=>V0 hq h hk g dv g2 l (fun c x hx=>let ⟨X,w⟩:=w c x hx;⟨X,w.mono s⟩) eD (s _ _ e2)
 have tp:∀{key:Int} {T U:Nat→Int} {v:V},ma H sp q (n+m) key T U v→∃b z,v=.ref b∧H b=some (.tup [.int key,z]):=fun st=>by obtain ⟨t1,c1,xs,rfl,e1,_⟩:=st.at';exact ⟨t1,_,rfl,e1⟩
 rcases s1 with ⟨g1,rfl⟩ | ⟨k1,AR,v1,g1,Lj,rfl,m6⟩
 ·rcases s2 with ⟨g2,rfl⟩ | ⟨k2,k6,v2,g2,qa,rfl,e8⟩
  ·exact absurd ⟨g1,g2⟩ nb
  ·refine ⟨sp,_,fun _=>(line.idxOf (n+o2[k2]):Int)+1,rfl,e,by simp,fun i v hi=>?_,fun i j ji hi=>?_,fun i v hi _=>?_⟩
   ·have hv:v=v2:=by have:=fZ hi;simpa using this
    subst hv;exact tp e8
   ·have:i<1:=hi
    lia
   ·have hv:v=v2:=by have:=fZ hi;simpa using this
    subst hv;exact d2 k6 g2 qa (Li h g1 (.inl rfl)) e8
 ·rcases s2 with ⟨g2,rfl⟩ | ⟨k2,k6,v2,g2,qa,rfl,e8⟩
  ·refine ⟨sp,_,fun _=>(line.idxOf o[k1]:Int)+1,rfl,e,by simp,fun i v hi=>?_,fun i j ji hi=>?_,fun i v hi _=>?_⟩
   ·have hv:v=v1:=by have:=fZ hi;simpa using this
    subst hv;exact tp m6
   ·have:i<1:=hi
    lia
   ·have hv:v=v1:=by have:=fZ hi;simpa using this
    subst hv;exact d1 AR g1 Lj (Lh h g2 (.inl rfl)) m6
  ·have ne:=V1 h ((bF h.po).mp (dj AR)) ((bF h.p2).mp (dj k6))
   refine ⟨sp,_,fun i=>if i=0 then (line.idxOf o[k1]:Int)+1 else (line.idxOf (n+o2[k2]):Int)+1,rfl,e,by simp,fun i v hi=>?_,fun i j ji hi=>?_,fun i v hi le=>?_⟩
   ·match i,hi with
    | 0,hi=>cases hi;exact tp m6
    | 1,hi=>cases hi;exact tp e8
    | i+2,hi=>cases hi
   ·have:i<2:=hi
    have i1:i=1:=by lia
    have j0:j=0:=by lia
    subst i1 j0;show (line.idxOf (n+o2[k2]):Int)+1≠(line.idxOf o[k1]:Int)+1;lia
   ·match i,hi,le with
    | 0,hi,le=>
     cases hi;have:(line.idxOf o[k1]:Int)+1≤(line.idxOf (n+o2[k2]):Int)+1:=le 1 (by show 1<2;decide)
     exact d1 AR g1 Lj (Lh h g2 (.inr ⟨k6,by lia⟩)) m6
    | 1,hi,le=>
     cases hi;have:(line.idxOf (n+o2[k2]):Int)+1≤(line.idxOf o[k1]:Int)+1:=le 0 (by show 0<2;decide)
     exact d2 k6 g2 qa (Li h g1 (.inr ⟨AR,by lia⟩)) e8
    | i+2,hi,_=>cases hi
end
section
variable {H H':Hp} {q:Int} {T:Addr}
theorem gT.iL{f r:Addr}{od:List Nat}{M:aQ}{L:bS}{lv:Nat→V}{at':Nat}(h:gT H f q X n od M L r lv at')(t:bW H T)(o:aX T H H')(nr:r≠T):gT H' f q X n od M L r lv at':=
 h.tU (Cl:=(· = T)) (fun l e=>by subst e;obtain ⟨x,ex⟩:=t;exact ⟨_,ex⟩) (fun b u ne e=>o b u ne e) nr
variable {a:Addr} {rs:Nat→Addr} {vf:Nat→Nat→V}
theorem WTab.iL(h:WTab H a n rs vf)(o:aX T H H')(na:a≠T)(nr:∀i,i<n→rs i≠T):WTab H' a n rs vf:=⟨o _ _ na h.lst,h.inj,h.ne,fun i hi=>o _ _ (nr i hi) (h.at' i hi)⟩
variable {ps:bS}
theorem lS.iL{B:Nat}(h:lS B H q a ps)(t:bW H T)(o:aX T H H')(na:a≠T):lS B H' q a ps:=by obtain ⟨vs,yg,yh,yi⟩:=h;exact ⟨vs,o _ _ na yg,yh,fun i v p h1 h2=>(yi i v p h1 h2).iL t o⟩
variable {tab od am:Addr} {o:List Nat}
theorem V3(W:WTab H tab n rs vf)(Ft:ke H q n vf)(eo:H od=some (.lst (az o)))(ho:o.Perm (List.range n))(rg:lS 1000 H q am ps)(t_:ps.length=n)(yj:∀p∈ps,j_ q p.1 p.2):∃av f,fz H q tab od am n o rs vf av f:=by
 obtain ⟨vs,yg,yh,yi⟩:=id rg;have ra:dy H am n (fun i=>vs.getD i .aV):=by
  unfold dy;rw [yg]
  congr 2
  refine fB (by simp;lia) fun j g1 g2=>?_
  rw [d8,ig,getD_at g1]
 have na:∀i,i<n→∃x m,bj 1000 H q ((fun i=>vs.getD i V.aV) i) x m∧j_ q x m:=fun i hi=>by
  have g1:i<vs.length:=by lia
  have g2:i<ps.length:=by lia
  refine ⟨ps[i].1,ps[i].2,?_,yj _ (dj g2)⟩;dsimp only;rw [getD_at g1];exact yi i _ _ (b6 g1) (b6 g2)
 obtain ⟨f,f1,f2,f3⟩:=Kt Ft na;exact ⟨_,f,W,eo,ho,ra,f1,f2,f3⟩
variable {av:Nat→V} {f:Nat→Nat→Int×Int}
theorem fz.V4{V5 V6 V7 D ln c:Addr}{m:Nat}{o2 line:List Nat}{AS E7:Nat→Addr}{di:Nat→Nat→V}{m7:Nat→V}{f2:Nat→Nat→Int×Int}{v0:V}(hq:aZ q)(p:fz H q tab od am n o rs vf av f)(p2:fz H q V5 V6 V7 m o2 AS di m7 f2)(h0:bj 1000 H q v0 0 1)(W:WTab H D (n+m) E7 (jB n v0 vf di))(el:H ln=some (.lst (az line)))(h:cU n m o o2 line)(ec:H c=some (.lst ((List.range n).map av++(List.range m).map m7))):fz H q D ln c (n+m) line E7 (jB n v0 vf di) (fun i=>if i<n then av i else m7 (i-n)) (bG n m f f2) where
 tab:=W
 ord:=el
 cE:=h.cE
 tR:=by
  unfold dy;rw [ec,oX,ie,d5]
  congr 3
  ·refine de fun j hj=>?_
   rw [ak (cA.mp hj)]
  ·refine de fun j _=>?_
   show _=if n+j<n then av (n+j) else m7 (n+j-n)
   rw [aj (by lia),jJ]
 num:=fun i j hi hj=>by
  unfold jB bG;by_cases a:i<n <;> by_cases b:j<n;·simp only [a,b,dJ];exact p.num i j a b
  ·simp only [a,b,hj,dJ,fb];exact h0
  ·simp only [a,b,dJ,fb];exact h0
  ·simp only [a,b,hj,dJ,fb];exact p2.num _ _ (by lia) (by lia)
 tS:=fun i hi=>by
  unfold bG;by_cases a:i<n;·simp only [a,show ¬(n+m<n) by lia,dS,dJ,fb];exact p.tS i a
  ·simp only [a,show ¬(n+m<n) by lia,dS,fb];exact p2.tS _ (by lia)
 sm:=fun i j hi hj=>by
  have z:l6 q 0 1:=⟨fun _=>⟨by decide,by decide,by decide⟩,fun z=>by rcases hq with h | h;exact absurd h z;exact ⟨by decide,by lia,h.2.1,rfl⟩⟩
  unfold bG;by_cases a:i<n
  ·simp only [a,dJ]
   by_cases b:j<n;·simp only [b,dJ];exact p.sm i j a (by lia)
   ·by_cases c:j<n+m
    ·simp only [b,c,dJ,fb];exact z
    ·simp only [b,c,fb];exact p.sm i n a (aG _)
  ·simp only [a,fb]
   by_cases b:j<n;·simp only [b,dJ];exact z
   ·by_cases c:j<n+m
    ·simp only [b,c,dJ,fb];exact p2.sm _ _ (by lia) (by lia)
    ·simp only [b,c,fb];exact p2.sm _ m (by lia) (aG _)
theorem AU{C z:Addr}{Q:VK}{E:XK}(pc:fz H q tab od am n o rs vf av f)(hz:fJ C H z q)(hq:aZ q)(n1:1≤n)(n9:n≤9)(k:∀(fd r:Addr) (lv:Nat→V) (at':Nat) (H':Hp),af H H'→H r=none→H fd=none→gT H' fd q (dh n 997) n o (ag q n f) (b7 n (bf (b9 n n f)) n) r lv at'→Q (.ref fd) H'):Ka C [.ref z,.ref tab,.ref od,.ref am] H Q E:=
 ⟨z,tab,od,am,q,1000,dh n 997,n,b9 n n f,o,ag q n f,l7 q,av,rfl,hz,hq,UX pc.tab.r pc.num,by decide +kernel,UT,n1,by lia,UU,pc.ord,pc.cE,pc.dY hq (by lia),Us (by decide) (Ax pc.sm) Ay (cw pc.cE) pc.tR (fun i hi=>pc.UZ hq hi),fun k' hk gd dv tp r lv Hx sx nr eF eV er ew=>k tp r lv 2 Hx sx nr eF (.fU k' hk gd dv eV er ew rfl),fun gd tp r lv g Hx sx nr eF dQ eV er ew=>k tp r lv 1 Hx sx nr eF (.one g gd dQ eV er ew rfl)⟩
end
end My
namespace L2
open PySem PySem.Spec PyProof.Rows
section
variable {X:Cx} {N:List Str} {scope:Scope} {cl:List (Str×Addr)} {x y:Str} {px py pos tp:Pos} {RE:Nat} {iter elt:Expr} {ifs:List Expr} {wi:TI} {ρ:St→St} {tt:TT} {te:TE}
end
section
variable {X:Cx} {e:Expr} {te:TE} {pos p2:Pos}
end
end L2
set_option maxRecDepth 100000
set_option maxHeartbeats 4000000
namespace My
open PySem L2
def top(i:Nat):Stmt:=PySem.Challenge.pw_bandwright_k40_whole_names_and_neighbour.main.body.getD i (.Pass ⟨0,0,0,0⟩)
abbrev AV:Stmt:=top 8
abbrev AW:Stmt:=top 9
abbrev AX:Stmt:=top 10
abbrev AY:Stmt:=top 14
abbrev E8:Stmt:=top 15
abbrev AZ:Stmt:=top 16
abbrev A0:Stmt:=top 17
abbrev A3:Stmt:=top 19
abbrev A4:Stmt:=top 20
abbrev A5:Stmt:=top 21
abbrev A6:Stmt:=top 23
abbrev A7:Stmt:=top 24
abbrev A8:Stmt:=top 25
abbrev A9:Stmt:=top 26
abbrev A_:Stmt:=top 27
abbrev Ba:Stmt:=top 28
abbrev Bb:Stmt:=top 30
abbrev Bc:Stmt:=top 31
abbrev Bd:Stmt:=top 33
abbrev Be:Stmt:=top 34
abbrev Bf:Stmt:=top 35
abbrev Bg:Stmt:=top 36
abbrev Bh:Stmt:=top 38
abbrev Bi:Stmt:=top 39
abbrev Bj:Stmt:=top 40
abbrev Bk:Stmt:=top 41
abbrev Bl:Stmt:=top 42
abbrev Bm:Stmt:=top 44
abbrev Bn:Stmt:=top 45
abbrev Bo:Stmt:=top 48
abbrev Bp:Stmt:=top 49
abbrev Bq:Stmt:=top 52
abbrev Br:Stmt:=top 53
abbrev Bs:Stmt:=top 54
abbrev Bt:Stmt:=top 55
abbrev Bu:Stmt:=top 56
abbrev Bv:Stmt:=top 57
abbrev Bw:Stmt:=top 58
abbrev Bx:Stmt:=top 59
abbrev By:Stmt:=top 60
abbrev Bz:Stmt:=top 61
abbrev BA:Stmt:=top 62
abbrev BB:Stmt:=top 63
abbrev BC:Stmt:=top 64
abbrev BD:Stmt:=top 65
abbrev BE:Stmt:=top 66
abbrev BF:Stmt:=top 67
abbrev BG:Stmt:=top 68
abbrev BH:Stmt:=top 69
abbrev BI:Stmt:=top 70
abbrev BJ:Stmt:=top 71
abbrev BK:Stmt:=inClass (top 50) 0
abbrev kh:Stmt:=inClass (top 50) 3
abbrev E9:Stmt:=inClass (top 50) 4
abbrev BL:Stmt:=inClass (top 50) 5
abbrev BM:Stmt:=inClass (top 50) 6
abbrev BN:Stmt:=inClass (top 50) 7
set_option genInjectivity false in
set_option genSizeOf false in
structure E_ where
 qb:Addr
 ua:FuncData
 qc:Addr
 ub:FuncData
 qd:Addr
 uc:FuncData
 qe:Addr
 ud:FuncData
 ue:Addr
 yk:FuncData
 qf:Addr
 ug:FuncData
 qg:Addr
 uh:FuncData
 qh:Addr
 uj:FuncData
 qi:Addr
 um:FuncData
 qj:Addr
 uo:FuncData
 qk:Addr
 ur:FuncData
 ql:Addr
 uu:FuncData
 qm:Addr
 uv:FuncData
 qo:Addr
 uw:FuncData
 qr:Addr
 ux:FuncData
 qt:Addr
 uy:FuncData
 qu:Addr
 uz:FuncData
 qv:Addr
 uA:FuncData
 qw:Addr
 uB:FuncData
 qx:Addr
 uC:FuncData
 qy:Addr
 uD:FuncData
 qz:Addr
 uE:FuncData
 qA:Addr
 uF:FuncData
 qB:Addr
 uH:FuncData
 qC:Addr
 uI:FuncData
 qD:Addr
 uJ:FuncData
 qE:Addr
 uK:FuncData
 qF:Addr
 uM:FuncData
 qG:Addr
 uN:FuncData
 qH:Addr
 uO:FuncData
 qI:Addr
 uP:FuncData
 qJ:Addr
 uQ:FuncData
 qK:Addr
 uR:FuncData
 qL:Addr
 uS:FuncData
 qM:Addr
 uT:FuncData
 qN:Addr
 uU:FuncData
 qO:Addr
 uV:FuncData
 qP:Addr
 uW:FuncData
 qQ:Addr
 uX:FuncData
 qR:Addr
 uY:FuncData
 qS:Addr
 uZ:FuncData
 qT:Addr
 u0:FuncData
 qU:Addr
 u3:FuncData
 qV:Addr
 u4:FuncData
 qW:Addr
 u5:FuncData
 qX:Addr
 u6:FuncData
 qY:Addr
 u7:FuncData
 qZ:Addr
 u9:FuncData
 q5:Addr
 u_:FuncData
 q8:Addr
 va:FuncData
 oG:Addr
 q_:FuncData
 rh:Addr
 vc:FuncData
 m8:Addr
 yl:FuncData
 vd:Addr
 ym:FuncData
 rj:Addr
 ve:FuncData
 rq:Addr
 vg:FuncData
 rz:Addr
 vh:FuncData
 bC:Addr
 rA:Addr
 i6:Addr
 me:Addr
 m_:Addr
abbrev bL (mg:dq) (x:Str) (f:Addr):Prop:=mg x=some (.ref f)
abbrev BO (K:aC) (a:Addr):Prop:=PySem.W.excIn K a [.type "ValueError",.type "Exception",.type "BaseException",.type "object"] "ValueError.__new__"=true
structure Txt (K:aC) (mg:dq) (t:E_):Prop where
 vi:aE K "width" AV t.qb t.ua
 Ll:Binds K t.ua ["table"] []
 Lm:bL mg "width" t.qb
 vj:aE K "square_size" AW t.qc t.ub
 Ln:Binds K t.ub ["table"] []
 Lo:bL mg "square_size" t.qc
 vk:aE K "check_aim" AX t.qd t.uc
 Lp:Binds K t.uc ["n","aim"] []
 Lq:bL mg "check_aim" t.qd
 rB:aE K "is_whole" AY t.qe t.ud
 Fb:Binds K t.ud ["thing"] []
 Fe:bL mg "is_whole" t.qe
 BP:aE K "shortened" E8 t.ue t.yk
 V8:Binds K t.yk ["one","other"] []
 V9:bL mg "shortened" t.ue
 mf:aE K "common_divisor" AZ t.qf t.ug
 vm:Binds K t.ug ["one","other"] []
 vn:bL mg "common_divisor" t.qf
 vo:aE K "is_prime" A0 t.qg t.uh
 Lr:Binds K t.uh ["number"] []
 Ls:bL mg "is_prime" t.qg
 vp:aE K "links_of_place" A3 t.qh t.uj
 Lu:Binds K t.uj ["world","table","i"] []
 Lv:bL mg "links_of_place" t.qh
 vq:aE K "shape_of" A4 t.qi t.um
 Lw:Binds K t.um ["world","table"] []
 Lx:bL mg "shape_of" t.qi
 vt:aE K "neighbours" A5 t.qj t.uo
 Ly:Binds K t.uo ["shape"] []
 Lz:bL mg "neighbours" t.qj
 vv:aE K "is_order" A6 t.qk t.ur
 LA:Binds K t.ur ["thing","n"] []
 LB:bL mg "is_order" t.qk
 vw:aE K "check_order" A7 t.ql t.uu
 LC:Binds K t.uu ["order","n"] []
 LD:bL mg "check_order" t.ql
 vx:aE K "turns_of" A8 t.qm t.uv
 LF:Binds K t.uv ["order"] []
 LG:bL mg "turns_of" t.qm
 vy:aE K "link_all" A9 t.qo t.uw
 LH:Binds K t.uw ["linked","places"] []
 LI:bL mg "link_all" t.qo
 vz:aE K "later" A_ t.qr t.ux
 LJ:Binds K t.ux ["shape","order"] []
 LK:bL mg "later" t.qr
 vA:aE K "place_deeds" Ba t.qt t.uy
 LL:Binds K t.uy ["many"] []
 LM:bL mg "place_deeds" t.qt
 vB:aE K "undo_place" Bb t.qu t.uz
 LN:Binds K t.uz ["world","work","place","others"] []
 LO:bL mg "undo_place" t.qu
 vC:aE K "packed" Bc t.qv t.uA
 LP:Binds K t.uA ["world","table","order"] []
 LQ:bL mg "packed" t.qv
 vD:aE K "lowered" Bd t.qw t.uB
 LR:Binds K t.uB ["world","work","others","order","aim"] []
 LS:bL mg "lowered" t.qw
 rC:aE K "raised" Be t.qx t.uC
 Ff:Binds K t.uC ["world","work","others","places","row"] []
 Fg:bL mg "raised" t.qx
 vE:aE K "tied_move" Bf t.qy t.uD
 LU:Binds K t.uD ["world","work","others","order","many"] []
 LV:bL mg "tied_move" t.qy
 ng:aE K "along" Bg t.qz t.uE
 yo:Binds K t.uE ["world","table","order","aim"] []
 yq:bL mg "along" t.qz
 vF:aE K "ratio" Bh t.qA t.uF
 LW:Binds K t.uF ["top","bottom"] []
 LX:bL mg "ratio" t.qA
 vG:aE K "ratio_plus" Bi t.qB t.uH
 LY:Binds K t.uH ["a","b"] []
 LZ:bL mg "ratio_plus" t.qB
 vH:aE K "ratio_minus" Bj t.qC t.uI
 L0:Binds K t.uI ["a","b"] []
 L3:bL mg "ratio_minus" t.qC
 oH:aE K "ratio_times" Bk t.qD t.uJ
 BQ:Binds K t.uJ ["a","b"] []
 BR:bL mg "ratio_times" t.qD
 vI:aE K "ratio_over" Bl t.qE t.uK
 L4:Binds K t.uK ["a","b"] []
 L5:bL mg "ratio_over" t.qE
 vJ:aE K "remainder_back" Bm t.qF t.uM
 L6:Binds K t.uM ["prime","number"] []
 L7:bL mg "remainder_back" t.qF
 rD:aE K "remainder_over" Bn t.qG t.uN
 Fh:Binds K t.uN ["prime","a","b"] []
 Fi:bL mg "remainder_over" t.qG
 vK:aE K "is_fractions" Bo t.qH t.uO
 L8:Binds K t.uO ["told"] []
 L9:bL mg "is_fractions" t.qH
 vL:aE K "is_wheel" Bp t.qI t.uP
 L_:Binds K t.uP ["told"] []
 Ma:bL mg "is_wheel" t.qI
 vM:aE K "_law_acell" Bq t.qJ t.uQ
 Mb:Binds K t.uQ ["script","k"] []
 Mc:bL mg "_law_acell" t.qJ
 k7:aE K "_law_atape" Br t.qK t.uR
 rE:Binds K t.uR ["script","k"] []
 rF:bL mg "_law_atape" t.qK
 gq:aE K "_law_adigit" Bs t.qL t.uS
 iO:Binds K t.uS ["tape","many"] []
 iP:bL mg "_law_adigit" t.qL
 vN:aE K "_law_adivisor" Bt t.qM t.uT
 Md:Binds K t.uT ["one","other"] []
 Me:bL mg "_law_adivisor" t.qM
 vO:aE K "_law_aturned" Bu t.qN t.uU
 Mf:Binds K t.uU ["number","p"] []
 Mg:bL mg "_law_aturned" t.qN
 oJ:aE K "_law_anumber" Bv t.qO t.uV
 BS:Binds K t.uV ["told","top","bottom"] []
 BU:bL mg "_law_anumber" t.qO
 vP:aE K "_law_aworld" Bw t.qP t.uW
 Mh:Binds K t.uW ["tape"] []
 Mi:bL mg "_law_aworld" t.qP
 nh:aE K "_law_asome" Bx t.qQ t.uX
 yr:Binds K t.uX ["told","tape"] []
 yt:bL mg "_law_asome" t.qQ
 mh:aE K "_law_anought" By t.qR t.uY
 vQ:Binds K t.uY ["told"] []
 vR:bL mg "_law_anought" t.qR
 rH:aE K "_law_atable" Bz t.qS t.uZ
 Fj:Binds K t.uZ ["told","tape","size","links"] []
 Fl:bL mg "_law_atable" t.qS
 rJ:aE K "_law_alinks" BA t.qT t.u0
 Fm:Binds K t.u0 ["tape","size"] []
 Fn:bL mg "_law_alinks" t.qT
 oK:aE K "_law_aorder" BB t.qU t.u3
 BV:Binds K t.u3 ["tape","size"] []
 BW:bL mg "_law_aorder" t.qU
 rK:aE K "_law_arow" BC t.qV t.u4
 Fo:Binds K t.u4 ["told","tape","size"] []
 Fp:bL mg "_law_arow" t.qV
 vS:aE K "_law_apiece" BD t.qW t.u5
 Mj:Binds K t.u5 ["script","start"] []
 Ml:bL mg "_law_apiece" t.qW
 vT:aE K "_law_acalled" BE t.qX t.u6
 Mm:Binds K t.u6 ["table","order","aim","names"] []
 Mn:bL mg "_law_acalled" t.qX
 vU:aE K "_law_asame_called" BF t.qY t.u7
 Mo:Binds K t.u7 ["found","other","names"] []
 Mp:bL mg "_law_asame_called" t.qY
 vV:aE K "_law_abeside" BG t.qZ t.u9
 Mq:Binds K t.u9 ["told","one","other"] []
 Mr:bL mg "_law_abeside" t.qZ
 vW:aE K "_law_alaid" BH t.q5 t.u_
 Ms:Binds K t.u_ ["tape","order","other"] []
 Mt:bL mg "_law_alaid" t.q5
 vX:aE K "_law_atogether" BI t.q8 t.va
 Mu:Binds K t.va ["told","line","first","second","size","more"] []
 Mv:bL mg "_law_atogether" t.q8
 vY:aE K "law" BJ t.oG t.q_
 V_:Binds K t.q_ ["script"] []
 Mw:bL mg "law" t.oG
 yu:eP K "__init__" "World.__init__" BK t.rh t.vc
 Mx:Binds K t.vc ["self","told"] []
 BX:Mk K t.bC t.rh
 Mz:jr K "of" "World.of" kh 1 t.m8 t.yl
 We:Binds K t.yl ["self","top","bottom"] []
 BY:∃v,Vals [V.int 1] [v]∧Binds K t.yl ["self","top","bottom"] [v]
 Wf:∀(s:Shared) (us ws:List Value),K.In s.heap→ws.length=1→us.length+1=(["self","top","bottom"]:List Str).length→BindsTo s t.yl ⟨us,[("bottom":Str)].zip ws⟩ ((["self","top","bottom"]:List Str).zip (us++ws))
 yv:Meth K t.bC "of" t.m8
 BZ:eP K "plus" "World.plus" E9 t.vd t.ym
 Wg:Binds K t.ym ["self","a","b"] []
 Fq:Meth K t.bC "plus" t.vd
 yw:eP K "minus" "World.minus" BL t.rj t.ve
 B0:Binds K t.ve ["self","a","b"] []
 vZ:Meth K t.bC "minus" t.rj
 yy:eP K "times" "World.times" BM t.rq t.vg
 B1:Binds K t.vg ["self","a","b"] []
 v8:Meth K t.bC "times" t.rq
 yz:eP K "over" "World.over" BN t.rz t.vh
 Fs:Binds K t.vh ["self","a","b"] []
 yA:Meth K t.bC "over" t.rz
 eG:kM K t.bC
 MA:bL mg "World" t.bC
 jC:pH K t.bC "prime"
 MB:bL mg "NoWorld" t.rA
 B2:bL mg "NoOver" t.i6
 B3:bL mg "NoFit" t.me
 MC:bL mg "NoOrder" t.m_
 Wh:mg "ValueError"=none
 B4:mg "abs"=none
 MD:mg "all"=none
 ME:mg "any"=none
 MF:mg "bool"=none
 Fu:mg "enumerate"=none
 yB:mg "int"=none
 v9:mg "isinstance"=none
 fL:mg "len"=none
 rM:mg "list"=none
 MG:mg "max"=none
 Fv:mg "min"=none
 fM:mg "range"=none
 MH:mg "reversed"=none
 Fw:mg "sorted"=none
 MI:mg "sum"=none
 B5:mg "tuple"=none
 Wi:mg "zip"=none
 MJ:∃u,mg "GREATEST_PRIME"=some u∧RelV (.int 997) u
 MK:∃u,mg "LONG"=some u∧RelV (.int 2048) u
 ML:BO K t.rA
 B6:BO K t.i6
 B7:BO K t.me
 MM:BO K t.m_
section
variable {P:Program} {w:World} {K:aC} {mg:dq} {base:Heap} {t:E_}
theorem Wj:bD ["thing"] ["thing"] (aP AY):=bM
theorem MN(T:Txt K mg t):bh P w K mg base b5 1 t.qe t.ud ["thing"] Q6:=by
 have S:=Wj;refine T.rB.cm S (fun _ _ _ _ H _ Q _ hr h=>?_);obtain ⟨v,rfl,ha,k⟩:=h;refine ⟨_,(ay (ba (xn (cM (xD (K:=K)) rfl T.v9 boot_isinstance (aa (pv 0) (aa (xj (v:=.ty "int") rfl T.yB boot_int rfl) ae))) (C6 (Oo (cM (xD (K:=K)) rfl T.v9 boot_isinstance (aa (pv 0) (aa (xj (v:=.ty "bool") rfl T.MF boot_bool rfl) ae)))))))),?_⟩;obtain ⟨Ty,ty,k1,k2,_⟩:=ha.DF (K:=K);refine ⟨_,rfl,_,_,_,_,rfl,rfl,ty,k1,_,rfl,cS (fun h1=>?_) (fun h1=>?_)⟩
 ·refine ⟨_,rfl,_,_,_,_,rfl,rfl,ty,k2,_,rfl,?_⟩
  have e:(!tf v)=s_ v:=by
   cases h2:tf v with
   | true=>rw [Q2 h2];rfl
   | false=>rw [h2,Bool.or_false] at h1;rw [h1];rfl
  show Q (.bl (!tf v)) H;rw [e];exact k
 ·have e:s_ v=false:=by
   cases h2:s_ v with
   | true=>rw [h2] at h1;exact absurd rfl h1
   | false=>rfl
  rw [e] at k;exact k
theorem Wl:bD ["one","other","left","shorter"] ["one","other"] (aP AZ):=bM
theorem yC(T:Txt K mg t):bh P w K mg base b5 1 t.qf t.ug ["one","other"] Q7:=by
 have S:=Wl;obtain ⟨uL,hL,rL⟩:=T.MK;refine T.mf.cm S (fun _ _ _ _ H _ _ _ hr h=>?_);obtain ⟨a,b,rfl,mb,k⟩:=h
 refine ⟨_,(aq (putL 0 S.nd (cM Dl rfl T.B4 boot_abs (aa (pv 0) ae)))
  (aq (putL 1 S.nd (cM Dl rfl T.B4 boot_abs (aa (pv 1) ae)))
  (aq (sA dU (bR xq (pv 1) ah) (aq (putL 2 S.nd (aB gO (pv 0) (pv 1)))
  (aq (putL 0 S.nd (pv 1))
  (aq (putL 1 S.nd (pv 2))
  (ay (cu (bR xq (P_ PySem.F.plainAttrs_int PySem.F.slot_int_bit_length PySem.F.type_int_bit_length Q0 (pv 0)) (HF (v:=.int 2048) rfl hL rL)) Ow cH))))))
  (ay (ba (pv 0)))))),?_⟩
 refine ⟨_,rfl,a,rfl,_,rfl,b,rfl,fun m σ H'=>H'=H∧∃(x y:Nat) (v u:Option V),σ=[some (.int (x:Int)),some (.int (y:Int)),v,u]∧m=y∧y≤b.natAbs∧Nat.gcd x y=Int.gcd a b,⟨b.natAbs,rfl,a.natAbs,b.natAbs,none,none,?_,rfl,aG _,rfl⟩,?_⟩
 ·show [some (V.int (if a<0 then -a else a)),some (V.int (if b<0 then -b else b)),none,none]=_
  rw [DO,DO]
 ·rintro m σ H' ⟨rfl,x,y,v,u,rfl,em,hb,hg⟩
  refine ⟨_,rfl,_,_,rfl,rfl,_,rfl,cS (fun hy=>?_) (fun hy=>?_)⟩
  ·have hy:(0:Int)<y:=g6 hy
   refine ⟨fun σ' H2=>H2=H'∧σ'=[some (.int (y:Int)),some (.int (((x % y:Nat)):Int)),some (.int (((x % y:Nat)):Int)),u],?_,?_⟩
   ·rintro σ' H2 ⟨rfl,rfl⟩
    exact ⟨x % y,by rw [em];exact Nat.mod_lt _ (by lia),rfl,y,x % y,_,_,rfl,rfl,bE (jF (Nat.mod_lt _ (by lia))) hb,by rw [Q3];exact hg⟩
   ·have hm:fe (y:Int):=jH (by rw [wN];exact hb) mb
    have hbt:=Q1 hm;refine ⟨_,rfl,_,rfl,_,_,rfl,rfl,hy,_,rfl,_,rfl,_,rfl,rfl,_,rfl,rfl,_,_,rfl,rfl,_,rfl,cS (fun hz=>?_) (fun _=>⟨rfl,rfl⟩)⟩;have hz:=g6 hz;exact absurd hz (by lia)
  ·have hy:¬(0:Int)<y:=fun z=>hy (da z)
   have y0:y=0:=by lia
   subst y0;rw [Nat.gcd_zero_right] at hg;rw [←hg] at k;exact ⟨_,rfl,k⟩
theorem Wm:bD ["number","divisor"] ["number"] (aP A0):=bM
theorem Wn(T:Txt K mg t):bh P w K mg base b5 1 t.qg t.uh ["number"] Q8:=by
 have S:=Wm;refine T.vo.cm S (fun _ _ _ _ H _ Q _ hr h=>?_);obtain ⟨n,rfl,Wo,sI,k⟩:=h
 refine ⟨_,(aq (putL 1 S.nd ah)
  (aq (sA dU (bR Di (aB gz (pv 1) (pv 1)) (pv 0)) (aq (cu (bR fE (aB gO (pv 0) (pv 1)) ah) (ay (ba kJ)) cH)
  (ay (OF (i:=1) S.nd rfl (Or.inl rfl) ah OI))))
  (ay (ba (nV H_ (pv 0) ah))))),?_⟩
 refine ⟨fun m σ H'=>H'=H∧∃d:Int,σ=[some (.int n),some (.int d)]∧2≤d∧d≤32∧m=(33-d).toNat∧∀e:Int,2≤e→e<d→n % e≠0,⟨_,rfl,2,rfl,by lia,by lia,rfl,fun e a b=>by lia⟩,?_⟩
 rintro m σ H' ⟨rfl,d,rfl,h1,h2,rfl,h3⟩;refine ⟨_,rfl,_,rfl,_,_,rfl,rfl,.inl ⟨by lia,by lia⟩,_,rfl,_,_,rfl,rfl,_,rfl,cS (fun hq=>?_) (fun hq=>?_)⟩
 ·have hq:=g6 hq
  have hd:d<32:=by
   by_cases z:d<32;·exact z
   ·have:d=32:=by lia
    subst this;lia
  refine ⟨fun σ' H2=>H2=H'∧σ'=[some (.int n),some (.int (d+1))]∧n % d≠0,?_,?_⟩
  ·rintro σ' H2 ⟨rfl,rfl,hm⟩
   refine ⟨(33-(d+1)).toNat,by lia,rfl,d+1,rfl,by lia,by lia,rfl,fun e a b=>?_⟩
   by_cases z:e=d;·subst z;exact hm
   ·exact h3 e a (by lia)
  ·refine ⟨_,rfl,_,rfl,_,_,rfl,rfl,(show (0:Int)<d by lia),rfl,_,rfl,cS (fun hm=>?_) (fun hm=>?_)⟩
   ·have hm:=V.int.inj (g6 hm)
    rw [IU sI h1 hq hm] at k;exact k
   ·exact ⟨_,rfl,_,_,rfl,rfl,rfl,rfl,fun z=>hm (da (gL V.int z))⟩
 ·have hq:¬d*d≤n:=fun z=>hq (da z)
  refine ⟨_,rfl,_,_,rfl,rfl,?_⟩;rw [QP (n:=n) (d:=d) (by lia) h1 h3] at k
  have e:decide ((2:Int)≤n)=true:=da Wo;show Q (.bl (decide ((2:Int)≤n))) H';rw [e];exact k
theorem Wq:bD ["told"] ["told"] (aP Bo):=bM
theorem Wr(T:Txt K mg t):bh P w K mg base b5 1 t.qH t.uO ["told"] Q9:=by
 have S:=Wq;refine T.vK.cm S (fun _ _ _ _ H _ _ _ hr h=>?_);obtain ⟨p,d,rfl,hp,k⟩:=h;refine ⟨_,(ay (ba (xn (cM (xD (K:=K)) rfl T.v9 boot_isinstance (aa (pv 0) (aa (xj (v:=.ty "tuple") rfl T.B5 boot_tuple rfl) ae))) (xn (nV fE (cM gB rfl T.fL fN (aa (pv 0) ae)) ah) (C6 (nV fE (ax a_ (pv 0) ah) eN)))))),?_⟩;refine ⟨_,rfl,_,_,_,true,rfl,rfl,.of (.tup hp),DN,true,rfl,e9 ?_⟩;cases d with
 | a x=>refine ⟨_,rfl,p,_,rfl,.inr (.of hp),rfl,true,rfl,e9 ?_⟩;refine ⟨_,rfl,p,_,0,.str x,rfl,rfl,.of hp,rfl,rfl,?_⟩;rw [DM];exact k
 | b x n=>exact ⟨_,rfl,p,_,rfl,.inr (.of hp),rfl,false,rfl,cR k⟩
theorem Ws:bD ["told"] ["told"] (aP Bp):=bM
theorem Wu(T:Txt K mg t):bh P w K mg base b5 2 t.qI t.uP ["told"] Q_:=by
 have S:=Ws;obtain ⟨uG,hG,rG⟩:=T.MJ;refine T.vL.cm S (fun _ _ _ _ H _ _ _ hr h=>?_);obtain ⟨p,d,rfl,hp,k⟩:=h
 refine ⟨_,(aq (cu (PW.pt (pw_or (xl (nO (cM (xD (K:=K)) rfl T.v9 boot_isinstance (aa (pv 0) (aa (xj (v:=.ty "tuple") rfl T.B5 boot_tuple rfl) ae))))) (pw_or (bR jk (cM gB rfl T.fL fN (aa (pv 0) ae)) ah) (pw_or1 (bR jk (ax a_ (pv 0) ah) eN))))) (ay (ba kJ)) cH)
  (ay (ba (xn (aI (MN T) hr T.Fe T.rB.kp T.Fb aM (aa (ax a_ (pv 0) ah) ae)) (xn (O1 Di Di ah (ax a_ (pv 0) ah) (HF (v:=.int 997) rfl hG rG)) (C6 (aI (Wn T) hr T.Ls T.vo.kp T.Lr aM (aa (ax a_ (pv 0) ah) ae)))))))),?_⟩
 refine ⟨_,rfl,_,_,_,true,rfl,rfl,.of (.tup hp),DN,true,rfl,cR ?_⟩;cases d with
 | a x=>exact ⟨_,rfl,p,_,rfl,.inr (.of hp),rfl,true,rfl,e9 (e9 k)⟩
 | b x n=>
  refine ⟨_,rfl,p,_,rfl,.inr (.of hp),rfl,false,rfl,cR ?_⟩;refine ⟨_,rfl,p,_,0,.str x,rfl,rfl,.of hp,rfl,rfl,_,rfl,cS (fun hw=>?_) (fun hw=>?_)⟩
  ·have hw:¬x="wheel":=by rw [DM] at hw;simpa using hw
   have e:(Td.b x n).jS=false:=by simp [Td.jS,hw]
   rw [e] at k;exact k
  ·have hw:x="wheel":=by rw [DM] at hw;simpa using hw
   refine ⟨_,rfl,p,_,1,.int n,rfl,rfl,.of hp,rfl,.int n,rfl,.int n,true,rfl,e9 ?_⟩;refine ⟨_,rfl,p,_,1,.int n,rfl,rfl,.of hp,rfl,_,_,rfl,rfl,_,rfl,?_⟩;refine cS (fun h2=>?_) (fun h2=>?_)
   ·have h2:=g6 h2
    refine ⟨_,_,rfl,rfl,_,rfl,cS (fun h3=>?_) (fun h3=>?_)⟩
    ·have h3:=g6 h3
     refine ⟨_,rfl,p,_,1,.int n,rfl,rfl,.of hp,rfl,n,rfl,h2,h3,?_⟩;have e:(Td.b x n).jS=hJ n:=by simp [Td.jS,hw,h2,h3]
     rw [e] at k;exact k
    ·have h3:¬n≤997:=fun z=>h3 (da z)
     have e:(Td.b x n).jS=false:=by simp [Td.jS,h3]
     rw [e] at k;exact k
   ·have h2:¬2≤n:=fun z=>h2 (da z)
    have e:(Td.b x n).jS=false:=by simp [Td.jS,h2]
    rw [e] at k;exact ⟨false,rfl,cR k⟩
theorem Wv:bD ["self","told"] ["self","told"] (aP BK):=bM
theorem Ww(T:Txt K mg t):bh P w K mg base (dX P w) 3 t.rh t.vc ["self","told"] (Ra t.bC t.rA):=by
 have S:=Wv;refine T.yu.fI S (fun _ _ _ _ H _ _ _ hr h L=>?_);obtain ⟨x,dx,p,d,rfl,hx,hp,k1,k2⟩:=h;refine ⟨_,(ay (cu (nO (aI (Wr T) hr T.L9 T.vK.kp T.L8 aM (aa (pv 1) ae))) (ay (Ih (pv 0) pz rfl)) (ay (cu (nO (aI (Wu T) hr T.Ma T.vL.kp T.L_ aM (aa (pv 1) ae))) (ay (Ih (pv 0) (ax a_ (pv 1) ah) rfl)) (ay (nY L rfl nJ T.ML rfl T.MB (aa eN ae))))))),?_⟩;refine ⟨_,rfl,p,d,rfl,hp,_,rfl,cS (fun hF=>?_) (fun hF=>?_)⟩
 ·refine ⟨_,rfl,x,t.bC,dx,[],rfl,hx,T.eG,T.jC,(by show 0<1000;decide),?_⟩
  have e:d.prime=.aV:=by
   cases d with
   | a x=>rfl
   | b x n=>cases hF
  have k:=k1 (by unfold Td.good;rw [hF];rfl)
  rw [e] at k;exact k
 ·have hF:d.xE=false:=by simpa using hF
  refine ⟨_,rfl,p,d,rfl,hp,_,rfl,cS (fun hW=>?_) (fun hW=>?_)⟩
  ·have k:=k1 (by unfold Td.good;rw [hW,Bool.or_true])
   cases d with
   | a x=>cases hW
   | b y n=>exact ⟨_,rfl,p,_,1,.int n,rfl,rfl,.of hp,rfl,_,rfl,x,t.bC,dx,[],rfl,hx,T.eG,T.jC,(by show 0<1000;decide),k⟩
  ·have hW:d.jS=false:=by simpa using hW
   exact ⟨by show 1≤sizeLine;decide,k2 (by unfold Td.good;rw [hF,hW];rfl)⟩
theorem Wx:bD ["top","bottom","shared"] ["top","bottom"] (aP Bh):=bM
theorem Wy(T:Txt K mg t):bh P w K mg base (dX P w) 2 t.qA t.uF ["top","bottom"] (Ry t.i6):=by
 have S:=Wx;refine T.vF.fI S (fun _ _ _ _ H _ _ _ hr h L=>?_);obtain ⟨a,b,rfl,mb,kE,k⟩:=h
 refine ⟨_,(aq (cu (bR fE (pv 1) ah) (ay (nY L rfl nJ T.B6 rfl T.B2 (aa eN ae))) cH)
  (eZ.lH (aq (putL 2 S.nd (aI (yC T) hr T.vn T.mf.kp T.vm aM (aa (pv 0) (aa (pv 1) ae))))
  (aq (cu (bR sG (pv 1) ah) (ay (putL 2 S.nd (zG zJ (pv 2)))) cH)
  (ay (ba (eO (aa (aB z7 (pv 0) (pv 2)) (aa (aB z7 (pv 1) (pv 2)) ae))))))))),?_⟩
 have n2:2≤sizeLine:=by decide
 refine ⟨_,rfl,rfl,_,rfl,cS (fun hz=>?_) (fun hz=>?_)⟩
 ·have hz:b=0:=V.int.inj (g6 hz)
  exact ⟨by show 1≤sizeLine;decide,kE hz⟩
 have hz:b≠0:=fun z=>hz (da (by rw [z]))
 have ok:=Q5 (a:=a) hz mb;have kk:=k hz;unfold lQ lR at kk;refine ⟨_,rfl,_,rfl,a,b,rfl,mb,_,rfl,_,_,rfl,rfl,_,rfl,cS (fun hn=>?_) (fun hn=>?_)⟩
 ·have hn:b<0:=g6 hn
  have e:lowG a b=-(Int.gcd a b:Int):=by unfold lowG;rw [ak hn,oT]
  rw [e] at ok kk;refine ⟨_,rfl,_,rfl,_,rfl,_,rfl,_,_,rfl,rfl,ok,_,rfl,_,rfl,_,_,rfl,rfl,ok,n2,fun r hr=>kk r _ (aS hr) aA⟩
 ·have hn:¬b<0:=fun z=>hn (da z)
  have e:lowG a b=(Int.gcd a b:Int):=by unfold lowG;rw [aj hn]
  rw [e] at ok kk;refine ⟨_,rfl,_,rfl,_,_,rfl,rfl,ok,_,rfl,_,rfl,_,_,rfl,rfl,ok,n2,fun r hr=>kk r _ (aS hr) aA⟩
theorem Wz:bD ["prime","number","last","last_times","now","now_times","fits","left","left_times"] ["prime","number"] (aP Bm):=bM
theorem WA(T:Txt K mg t):bh P w K mg base (dX P w) 1 t.qF t.uM ["prime","number"] (Rm t.i6):=by
 have S:=Wz;refine T.vJ.fI S (fun _ _ _ _ H _ _ _ hr h L=>?_);obtain ⟨q,b,rfl,q1,q2,q3,b0,b1,kE,k⟩:=h
 refine ⟨_,(aq (cu (bR fE (pv 1) ah) (ay (nY L rfl nJ T.B6 rfl T.B2 (aa eN ae))) cH)
  (eZ.lH (aq (putL 2 S.nd (pv 0))
  (aq (putL 3 S.nd ah)
  (aq (putL 4 S.nd (pv 1))
  (aq (putL 5 S.nd ah)
  (aq (sA dU (bR xq (pv 4) ah) (aq (putL 6 S.nd (aB zI (pv 2) (pv 4)))
  (aq (putL 7 S.nd (aB jj (pv 2) (aB gz (pv 6) (pv 4))))
  (aq (putL 8 S.nd (aB jj (pv 3) (aB gz (pv 6) (pv 5))))
  (aq (putL 2 S.nd (pv 4))
  (aq (putL 3 S.nd (pv 5))
  (aq (putL 4 S.nd (pv 7))
  (ay (putL 5 S.nd (pv 8))))))))))
  (ay (ba (aB gO (pv 5) (pv 0))))))))))),?_⟩
 refine ⟨_,rfl,rfl,_,rfl,cS (fun hz=>?_) (fun hz=>?_)⟩
 ·have hz:b=0:=V.int.inj (g6 hz)
  exact ⟨by show 1≤sizeLine;decide,kE hz⟩
 have hz:b≠0:=fun z=>hz (da (by rw [z]))
 refine ⟨_,rfl,_,rfl,fun m σ H'=>H'=H∧∃(l lt n nt:Int) (v1 v2 v3:Option V),σ=[some (.int q),some (.int b),some (.int l),some (.int lt),some (.int n),some (.int nt),v1,v2,v3]∧m=n.toNat∧mP q b l lt n nt∧l≤997,
  ⟨b.toNat,rfl,q,0,b,1,none,none,none,rfl,rfl,mP.start q1 q2 q3 (by lia) b1,q2⟩,?_⟩
 rintro m σ H' ⟨rfl,l,lt,n,nt,v1,v2,v3,rfl,em,hb,hl⟩;have p1:=hb.pos;have p2:=hb.less;refine ⟨_,rfl,_,_,rfl,rfl,_,rfl,cS (fun hy=>?_) (fun hy=>?_)⟩
 ·have hy:1<n:=g6 hy
  have hs:=hb.step hy;have f0:0≤l / n:=zp (by lia) (by lia)
  have f1:l / n≤l:=Int.ediv_le_self _ (by lia)
  refine ⟨fun σ' H2=>H2=H'∧σ'=[some (.int q),some (.int b),some (.int n),some (.int nt),some (.int (l-l / n*n)),some (.int (lt-l / n*nt)),some (.int (l / n)),some (.int (l-l / n*n)),some (.int (lt-l / n*nt))],?_,?_⟩
  ·rintro σ' H2 ⟨rfl,rfl⟩
   exact ⟨(l-l / n*n).toNat,by rw [em];lia,rfl,_,_,_,_,_,_,_,rfl,rfl,hs.1,by lia⟩
  ·exact ⟨_,rfl,_,rfl,_,_,rfl,rfl,⟨by lia,by lia⟩,_,rfl,_,rfl,_,rfl,_,_,rfl,rfl,.inr ⟨by lia,by lia⟩,_,_,rfl,rfl,
    _,rfl,_,rfl,_,rfl,_,_,rfl,rfl,.inl ⟨by lia,by lia⟩,_,_,rfl,rfl,_,rfl,_,rfl,_,rfl,_,rfl,rfl,rfl⟩
 ·have hy:¬1<n:=fun z=>hy (da z)
  have n1:n=1:=by lia
  subst n1;exact ⟨_,rfl,_,rfl,_,_,rfl,rfl,(show (0:Int)<q by lia),k hz _ (gY _ (by lia)) (h_ _ (by lia)) (hb.done q1)⟩
theorem WB:bD ["prime","a","b"] ["prime","a","b"] (aP Bn):=bM
theorem MO(T:Txt K mg t):bh P w K mg base (dX P w) 2 t.qG t.uN ["prime","a","b"] (Ro t.i6):=by
 have S:=WB;refine T.rD.fI S (fun _ _ _ _ H _ _ _ hr h L=>?_);obtain ⟨q,i,j,rfl,q1,q2,q3,i0,i1,j0,j1,kE,k⟩:=h;refine ⟨_,(ay (ba (aB gO (aB gz (pv 1) (aI (WA T) hr T.L7 T.vJ.kp T.L6 (nX L) (aa (pv 0) (aa (pv 2) ae)))) (pv 0)))),?_⟩
 exact ⟨_,rfl,_,rfl,_,rfl,q,j,rfl,q1,q2,q3,j0,j1,kE,fun hj r r0 r1 v_=>⟨_,_,rfl,rfl,.inl ⟨by lia,by lia⟩,_,rfl,_,_,rfl,rfl,(show (0:Int)<q by lia),
  k hj _ (gY _ (by lia)) (h_ _ (by lia)) (Rr q1 i0 i1 v_)⟩⟩
theorem WC:bD ["self","top","bottom"] ["self","top","bottom"] (aP kh):=bM
theorem Fx(T:Txt K mg t):bh P w K mg base (dX P w) 3 t.m8 t.yl ["self","top","bottom"] (Rz t.bC t.i6):=by
 have S:=WC;refine T.Mz.DE S (fun vs H Q E h=>?_) (fun bq A outer s H vs Q E hr h L=>?_)
 ·obtain ⟨z,q,a,b,rfl,_⟩:=h
  rfl
 ·obtain ⟨z,q,a,b,rfl,⟨dx,hx⟩,hq,mb,kE,k⟩:=h
  refine ⟨_,(aq (cu (bR zK (lM (pv 0) rfl) pz) (ay (ba (aI (Wy T) hr T.LX T.vF.kp T.LW (nX L) (aa (pv 1) (aa (pv 2) ae))))) cH)
   (ay (ba (aI (MO T) hr T.Fi T.rD.kp T.Fh (nX L) (aa (lM (pv 0) rfl) (aa (aB gO (pv 1) (lM (pv 0) rfl)) (aa (aB gO (pv 2) (lM (pv 0) rfl)) ae))))))),?_⟩
  refine ⟨_,rfl,z,t.bC,dx,_,_,rfl,hx,T.eG,T.jC,lP _,rfl,_,rfl,?_⟩;rcases hq with rfl | ⟨q2,q3,q4⟩
  ·rw [ak rfl]
   refine e9 ⟨_,rfl,_,rfl,a,b,rfl,mb,fun hb=>kE (by unfold oo;rw [ak rfl];exact hb),fun hb r H' s' er=>k (fun hn=>hb (by unfold oo at hn;rw [ak rfl] at hn;exact hn)) _ H' s' (.inl ⟨rfl,r,rfl,er⟩)⟩
  ·have hq:q≠0:=by lia
   rw [aj hq] at hx ⊢;have p0:(0:Int)<q:=by lia
   refine cR ⟨_,rfl,z,t.bC,dx,_,_,rfl,hx,T.eG,T.jC,lP _,_,rfl,_,rfl,z,t.bC,dx,_,_,rfl,hx,T.eG,T.jC,lP _,_,_,rfl,rfl,p0,_,rfl,_,rfl,z,t.bC,dx,_,_,rfl,hx,T.eG,T.jC,lP _,_,_,rfl,rfl,p0,?_⟩;have nv:oo q b↔b % q=0:=by unfold oo;rw [aj hq]
   exact ⟨q,a % q,b % q,rfl,q2,q3,q4,gY _ hq,h_ _ p0,gY _ hq,h_ _ p0,fun hj=>kE (nv.mpr hj),fun hj r r0 r1 v_=>k (fun z=>hj (nv.mp z)) _ H (af.refl H) (.inr ⟨q2,r,rfl,r0,r1,v_⟩)⟩
theorem WD:bD ["a","b","shared","top","again"] ["a","b"] (aP Bi):=bM
theorem WE(T:Txt K mg t):bh P w K mg base b5 2 t.qB t.uH ["a","b"] Rj:=by
 have S:=WD;refine T.vG.cm S (fun _ _ _ _ H _ _ _ hr h=>?_);obtain ⟨p,q,x,m,y,n,rfl,hp,hq,la,lb,bx,bm,ni,bn,k⟩:=h
 refine ⟨_,(aq (putL 2 S.nd (aI (yC T) hr T.vn T.mf.kp T.vm aM (aa (ax a_ (pv 0) ah) (aa (ax a_ (pv 1) ah) ae))))
  (aq (cu (bR fE (pv 2) ah) (ay (ba (eO (aa (aB d_ (aB n_ (ax a_ (pv 0) ah) (ax a_ (pv 1) ah)) (aB n_ (ax a_ (pv 1) ah) (ax a_ (pv 0) ah))) (aa (aB n_ (ax a_ (pv 0) ah) (ax a_ (pv 1) ah)) ae))))) cH)
  (aq (putL 3 S.nd (aB d_ (aB n_ (ax a_ (pv 0) ah) (aB mO (ax a_ (pv 1) ah) (pv 2))) (aB n_ (ax a_ (pv 1) ah) (aB mO (ax a_ (pv 0) ah) (pv 2)))))
  (aq (putL 4 S.nd (aI (yC T) hr T.vn T.mf.kp T.vm aM (aa (pv 3) (aa (pv 2) ae))))
  (ay (ba (eO (aa (aB mO (pv 3) (pv 4)) (aa (aB n_ (aB mO (ax a_ (pv 0) ah) (pv 2)) (aB mO (ax a_ (pv 1) ah) (pv 4))) ae))))))))),?_⟩
 have n2:2≤sizeLine:=by decide
 have m0:=la.pos;have n0:=lb.pos;refine ⟨_,rfl,p,_,_,_,rfl,rfl,.of hp,rfl,_,rfl,q,_,_,_,rfl,rfl,.of hq,rfl,m,n,rfl,bn.mid,?_⟩;have gp:(0:Int)<(Int.gcd m n:Int):=Aa (by lia)
 have gb:cb (Int.gcd m n:Int):=bn.gcd (by lia)
 refine ⟨_,rfl,rfl,_,rfl,cS (fun e=>?_) (fun _=>?_)⟩
 ·have e:Int.gcd m n=1:=by have z:=g6 e;have z:=V.int.inj z;lia
  exact ⟨_,rfl,p,_,_,_,rfl,rfl,.of hp,rfl,_,rfl,q,_,_,_,rfl,rfl,.of hq,rfl,_,_,rfl,rfl,⟨bx.mid,bn.mid⟩,
   _,rfl,q,_,_,_,rfl,rfl,.of hq,rfl,_,rfl,p,_,_,_,rfl,rfl,.of hp,rfl,_,_,rfl,rfl,⟨ni.mid,bm.mid⟩,_,_,rfl,rfl,
   _,rfl,p,_,_,_,rfl,rfl,.of hp,rfl,_,rfl,q,_,_,_,rfl,rfl,.of hq,rfl,_,_,rfl,rfl,⟨bm.mid,bn.mid⟩,n2,fun r hr=>k r _ _ _ (aS hr) aA (Rf la lb e) rfl⟩
 refine ⟨_,rfl,p,_,_,_,rfl,rfl,.of hp,rfl,_,rfl,q,_,_,_,rfl,rfl,.of hq,rfl,_,rfl,_,_,rfl,rfl,⟨gp,gb.mid⟩,_,_,rfl,rfl,⟨bx.mid,bn.over.mid⟩,
  _,rfl,q,_,_,_,rfl,rfl,.of hq,rfl,_,rfl,p,_,_,_,rfl,rfl,.of hp,rfl,_,rfl,_,_,rfl,rfl,⟨gp,gb.mid⟩,_,_,rfl,rfl,⟨ni.mid,bm.over.mid⟩,_,_,rfl,rfl,?_⟩
 refine ⟨_,rfl,_,rfl,_,_,rfl,gb.mid,?_⟩;have ap:(0:Int)<(Int.gcd (x*(n / (Int.gcd m n:Int))+y*(m / (Int.gcd m n:Int))) (Int.gcd m n:Int):Int):=Aa (by lia)
 have ab:cb (Int.gcd (x*(n / (Int.gcd m n:Int))+y*(m / (Int.gcd m n:Int))) (Int.gcd m n:Int):Int):=gb.gcd (by lia)
 have z:=Rg la lb _ _ rfl _ rfl rfl
 exact ⟨_,rfl,_,rfl,_,_,rfl,rfl,⟨ap,ab.mid⟩,_,rfl,p,_,_,_,rfl,rfl,.of hp,rfl,_,rfl,_,_,rfl,rfl,⟨gp,gb.mid⟩,_,rfl,q,_,_,_,rfl,rfl,.of hq,rfl,_,rfl,_,_,rfl,rfl,⟨ap,ab.mid⟩,_,_,rfl,rfl,⟨bm.over.mid,bn.over.mid⟩,n2,
  fun r hr=>k r _ _ _ (aS hr) aA z.1 z.2⟩
theorem WG:bD ["a","b"] ["a","b"] (aP Bj):=bM
theorem WH(T:Txt K mg t):bh P w K mg base b5 3 t.qC t.uI ["a","b"] Rk:=by
 have S:=WG;refine T.vH.cm S (fun _ _ _ _ H _ _ _ hr h=>?_);obtain ⟨p,q,x,m,y,n,rfl,hp,hq,la,lb,bx,bm,ni,bn,k⟩:=h;refine ⟨_,(ay (ba (aI (WE T) hr T.LZ T.vG.kp T.LY aM (aa (pv 0) (aa (eO (aa (zG zJ (ax a_ (pv 1) ah)) (aa (ax a_ (pv 1) ah) ae))) ae))))),?_⟩
 exact ⟨_,rfl,_,rfl,q,_,_,_,rfl,rfl,.of hq,rfl,_,rfl,_,rfl,q,_,_,_,rfl,rfl,.of hq,rfl,by show 2≤sizeLine;decide,fun r hr=>⟨p,r,x,m,-y,n,rfl,aS hr _ _ hp,aA,la,lb.neg,bx,bm,ni.neg,bn,
  fun r' H' u d s' e l z=>k r' H' u d ((aS hr).trans s') e l (by rw [z,sj,Int.sub_eq_add_neg])⟩⟩
theorem WI:bD ["a","b","first","second"] ["a","b"] (aP Bk):=bM
theorem Fy(T:Txt K mg t):bh P w K mg base b5 2 t.qD t.uJ ["a","b"] Rl:=by
 have S:=WI;refine T.oH.cm S (fun _ _ _ _ H _ _ _ hr h=>?_);obtain ⟨p,q,x,m,y,n,rfl,hp,hq,la,lb,bx,bm,ni,bn,k⟩:=h
 refine ⟨_,(aq (putL 2 S.nd (aI (yC T) hr T.vn T.mf.kp T.vm aM (aa (ax a_ (pv 0) ah) (aa (ax a_ (pv 1) ah) ae))))
  (aq (putL 3 S.nd (aI (yC T) hr T.vn T.mf.kp T.vm aM (aa (ax a_ (pv 1) ah) (aa (ax a_ (pv 0) ah) ae))))
  (ay (ba (eO (aa (aB n_ (aB mO (ax a_ (pv 0) ah) (pv 2)) (aB mO (ax a_ (pv 1) ah) (pv 3))) (aa (aB n_ (aB mO (ax a_ (pv 0) ah) (pv 3)) (aB mO (ax a_ (pv 1) ah) (pv 2))) ae))))))),?_⟩
 have n2:2≤sizeLine:=by decide
 have m0:=la.pos;have n0:=lb.pos;have gp:(0:Int)<(Int.gcd x n:Int):=Aa (by lia)
 have gb:cb (Int.gcd x n:Int):=bn.gcd (by lia)
 have ap:(0:Int)<(Int.gcd y m:Int):=Aa (by lia)
 have ab:cb (Int.gcd y m:Int):=bm.gcd (by lia)
 refine ⟨_,rfl,p,_,_,_,rfl,rfl,.of hp,rfl,_,rfl,q,_,_,_,rfl,rfl,.of hq,rfl,x,n,rfl,bn.mid,?_⟩;refine ⟨_,rfl,q,_,_,_,rfl,rfl,.of hq,rfl,_,rfl,p,_,_,_,rfl,rfl,.of hp,rfl,y,m,rfl,bm.mid,?_⟩;have z:=Rc la lb
 exact ⟨_,rfl,p,_,_,_,rfl,rfl,.of hp,rfl,_,rfl,_,_,rfl,rfl,⟨gp,gb.mid⟩,_,rfl,q,_,_,_,rfl,rfl,.of hq,rfl,_,rfl,_,_,rfl,rfl,⟨ap,ab.mid⟩,_,_,rfl,rfl,⟨bx.over.mid,ni.over.mid⟩,
  _,rfl,p,_,_,_,rfl,rfl,.of hp,rfl,_,rfl,_,_,rfl,rfl,⟨ap,ab.mid⟩,_,rfl,q,_,_,_,rfl,rfl,.of hq,rfl,_,rfl,_,_,rfl,rfl,⟨gp,gb.mid⟩,_,_,rfl,rfl,⟨bm.over.mid,bn.over.mid⟩,n2,
  fun r hr=>k r _ _ _ (aS hr) aA z.1 z.2⟩
theorem WJ:bD ["a","b"] ["a","b"] (aP Bl):=bM
theorem WK(T:Txt K mg t):bh P w K mg base (dX P w) 3 t.qE t.uK ["a","b"] (Rn t.i6):=by
 have S:=WJ;refine T.vI.fI S (fun _ _ _ _ H _ _ _ hr h L=>?_);obtain ⟨p,q,x,m,y,n,rfl,hp,hq,la,lb,bx,bm,ni,bn,kE,k⟩:=h
 refine ⟨_,(aq (cu (bR fE (ax a_ (pv 1) ah) ah) (ay (nY L rfl nJ T.B6 rfl T.B2 (aa eN ae))) cH)
  (eZ.lH (aq (cu (bR sG (ax a_ (pv 1) ah) ah) (ay (ba (aI (Fy T) hr T.BR T.oH.kp T.BQ aM (aa (pv 0) (aa (eO (aa (zG zJ (ax a_ (pv 1) ah)) (aa (zG zJ (ax a_ (pv 1) ah)) ae))) ae))))) cH)
  (ay (ba (aI (Fy T) hr T.BR T.oH.kp T.BQ aM (aa (pv 0) (aa (eO (aa (ax a_ (pv 1) ah) (aa (ax a_ (pv 1) ah) ae))) ae)))))))),?_⟩
 have n2:2≤sizeLine:=by decide
 refine ⟨_,rfl,q,_,_,_,rfl,rfl,.of hq,rfl,rfl,_,rfl,cS (fun hz=>?_) (fun hz=>?_)⟩
 ·have hz:y=0:=V.int.inj (g6 hz)
  exact ⟨by show 1≤sizeLine;decide,kE hz⟩
 have hz:y≠0:=fun z=>hz (da (by rw [z]))
 refine ⟨_,rfl,q,_,_,_,rfl,rfl,.of hq,rfl,_,_,rfl,rfl,_,rfl,cS (fun hn=>?_) (fun hn=>?_)⟩
 ·have hn:y<0:=g6 hn
  exact ⟨_,rfl,_,rfl,q,_,_,_,rfl,rfl,.of hq,rfl,_,rfl,_,rfl,q,_,_,_,rfl,rfl,.of hq,rfl,_,rfl,n2,fun r hr=>⟨p,r,x,m,-n,-y,rfl,aS hr _ _ hp,aA,la,Rq lb hn,bx,bm,bn.neg,ni.neg,
   fun r' H' u d s' e l z=>k hz r' H' u d ((aS hr).trans s') e l (by rw [lC,lC,lC,sj] at z;omega)⟩⟩
 ·have hn:¬y<0:=fun z=>hn (da z)
  exact ⟨_,rfl,_,rfl,q,_,_,_,rfl,rfl,.of hq,rfl,_,rfl,q,_,_,_,rfl,rfl,.of hq,rfl,n2,fun r hr=>⟨p,r,x,m,n,y,rfl,aS hr _ _ hp,aA,la,Rp lb (by lia),bx,bm,bn,ni,
   fun r' H' u d s' e l z=>k hz r' H' u d ((aS hr).trans s') e l z⟩⟩
theorem WL:bD ["self","a","b"] ["self","a","b"] (aP BL):=bM
theorem Fz(T:Txt K mg t):bh P w K mg base b5 4 t.rj t.ve ["self","a","b"] (kW t.bC (fun x m y n=>x*n-y*m) (fun i j=>i-j)):=by
 have S:=WL;refine T.yw.cm S (fun _ _ _ _ H _ _ _ hr h=>?_);obtain ⟨z,q,v,u,rfl,⟨dx,hx⟩,hc⟩:=h
 refine ⟨_,(aq (cu (bR zK (lM (pv 0) rfl) pz) (ay (ba (aI (WH T) hr T.L3 T.vH.kp T.L0 aM (aa (pv 1) (aa (pv 2) ae))))) cH)
  (ay (ba (aB gO (aB jj (pv 1) (pv 2)) (lM (pv 0) rfl))))),?_⟩
 refine ⟨_,rfl,z,t.bC,dx,_,_,rfl,hx,T.eG,T.jC,lP _,rfl,_,rfl,?_⟩;rcases hc with ⟨rfl,p,r,x,m,y,n,rfl,rfl,h1⟩ | ⟨q2,i,j,rfl,rfl,i0,i1,k⟩
 ·rw [ak rfl]
  exact e9 ⟨_,rfl,_,rfl,p,r,x,m,y,n,rfl,h1⟩
 ·have hq:q≠0:=by lia
  rw [aj hq] at hx ⊢;exact cR ⟨_,rfl,_,rfl,_,_,rfl,rfl,_,rfl,z,t.bC,dx,_,_,rfl,hx,T.eG,T.jC,lP _,_,_,rfl,rfl,(show (0:Int)<q by lia),k⟩
theorem WM:bD ["self","a","b"] ["self","a","b"] (aP BM):=bM
theorem FA(T:Txt K mg t):bh P w K mg base b5 4 t.rq t.vg ["self","a","b"] (kW t.bC (fun x m y n=>x*y) (fun i j=>i*j)):=by
 have S:=WM;refine T.yy.cm S (fun _ _ _ _ H _ _ _ hr h=>?_);obtain ⟨z,q,v,u,rfl,⟨dx,hx⟩,hc⟩:=h
 refine ⟨_,(aq (cu (bR zK (lM (pv 0) rfl) pz) (ay (ba (aI (Fy T) hr T.BR T.oH.kp T.BQ aM (aa (pv 1) (aa (pv 2) ae))))) cH)
  (ay (ba (aB gO (aB gz (pv 1) (pv 2)) (lM (pv 0) rfl))))),?_⟩
 refine ⟨_,rfl,z,t.bC,dx,_,_,rfl,hx,T.eG,T.jC,lP _,rfl,_,rfl,?_⟩;rcases hc with ⟨rfl,p,r,x,m,y,n,rfl,rfl,h1⟩ | ⟨q2,i,j,rfl,rfl,i0,i1,k⟩
 ·rw [ak rfl]
  exact e9 ⟨_,rfl,_,rfl,p,r,x,m,y,n,rfl,h1⟩
 ·have hq:q≠0:=by lia
  rw [aj hq] at hx ⊢;exact cR ⟨_,rfl,_,rfl,_,_,rfl,rfl,.inl ⟨by lia,by lia⟩,_,rfl,z,t.bC,dx,_,_,rfl,hx,T.eG,T.jC,lP _,_,_,rfl,rfl,(show (0:Int)<q by lia),k⟩
theorem WN:bD ["self","a","b"] ["self","a","b"] (aP BN):=bM
theorem MP(T:Txt K mg t):bh P w K mg base (dX P w) 4 t.rz t.vh ["self","a","b"] (Ab t.bC t.i6):=by
 have S:=WN;refine T.yz.fI S (fun _ _ _ _ H _ _ _ hr h L=>?_);obtain ⟨z,q,v,u,rfl,⟨dx,hx⟩,hc⟩:=h
 refine ⟨_,(aq (cu (bR zK (lM (pv 0) rfl) pz) (ay (ba (aI (WK T) hr T.L5 T.vI.kp T.L4 (nX L) (aa (pv 1) (aa (pv 2) ae))))) cH)
  (ay (ba (aI (MO T) hr T.Fi T.rD.kp T.Fh (nX L) (aa (lM (pv 0) rfl) (aa (pv 1) (aa (pv 2) ae))))))),?_⟩
 refine ⟨_,rfl,z,t.bC,dx,_,_,rfl,hx,T.eG,T.jC,lP _,rfl,_,rfl,?_⟩;rcases hc with ⟨rfl,p,r,x,m,y,n,rfl,rfl,h1⟩ | ⟨q2,i,j,rfl,rfl,h1⟩
 ·rw [ak rfl]
  exact e9 ⟨_,rfl,_,rfl,p,r,x,m,y,n,rfl,h1⟩
 ·have hq:q≠0:=by lia
  rw [aj hq] at hx ⊢;exact cR ⟨_,rfl,z,t.bC,dx,_,_,rfl,hx,T.eG,T.jC,lP _,_,rfl,_,rfl,q,i,j,rfl,q2,h1⟩
theorem WO:bD ["world","work","place","others","head","i","row","j"] ["world","work","place","others"] (aP Bb):=bM
theorem WQ(T:Txt K mg t):bh P w K mg base b5 5 t.qu t.uz ["world","work","place","others"] (TK t.bC):=by
 have S:=WO;have FC:=MP (P:=P) (w:=w) (base:=base) T;have yE:=Fz (P:=P) (w:=w) (base:=base) T;have yF:=FA (P:=P) (w:=w) (base:=base) T;refine T.vB.cm S (fun _ A _ _ H _ _ _ hr h=>?_);obtain ⟨z,a,b,q,n,X,p,rs,vf,ms,Tw,U,T',U',rfl,hw,hq,hW,eb,bz,pn,FD,nd,B8,X1,gG,hF,hB,gr,kk⟩:=h
 refine ⟨_,(aq (putL 4 S.nd (ax b8 (pv 1) (pv 2)))
  (ay (fO dU rfl (fD (pv 3)) (cX (i:=5) S.nd rfl (Or.inl rfl))
   (aq (putL 6 S.nd (ax b8 (pv 1) (pv 5)))
  (aq (@iu _ _ _ _ _ _ (jP (pv 0) T.eG T.yA FC (hr.mono (by decide)) T.Fs .nil lO (aa (ax b8 (pv 6) (pv 2)) (aa (ax b8 (pv 4) (pv 2)) ae))) (jh (pv 6) (pv 2) set_list) (by rfl) (by rfl) (by rfl))
  (ay (fO dU rfl (fD (pv 3)) (cX (i:=7) S.nd rfl (Or.inl rfl))
   (ay (@iu _ _ _ _ _ _ (jP (pv 0) T.eG T.vZ yE (hr.mono (by decide)) T.B0 .nil aM (aa (ax b8 (pv 6) (pv 7)) (aa (jP (pv 0) T.eG T.v8 yF (hr.mono (by decide)) T.B1 .nil aM (aa (ax b8 (pv 6) (pv 2)) (aa (ax b8 (pv 4) (pv 7)) ae))) ae))) (jh (pv 6) (pv 7) set_list) (by rfl) (by rfl) (by rfl)))))))))),?_⟩
 obtain ⟨dz,hz⟩:=id hw;have zr:∀{Hx:Hp},fS n rs H Hx→fJ t.bC Hx z q:=fun{Hx} o=>⟨dz,o z _ (fun i hi=>(bz i hi).2) hz⟩;have br:∀{Hx:Hp},fS n rs H Hx→Hx b=some (.lst (az ms)):=fun{Hx} o=>o b _ (fun i hi=>(bz i hi).1) eb;have iQ:X≤10 ^ 300:=bE gG (by decide +kernel)
 have XX:X*X≤10 ^ 300:=bE (gZ gG gG) (by decide +kernel)
 refine aF fun _ hR=>aY ⟨_,rfl,_,rfl,a,_,_,_,rfl,rfl,.of hW.lst,cy pn,hR _ _ ?_⟩;refine ⟨_,rfl,b,rfl,⟨_,.of eb⟩,?_⟩;refine mF (K:=K) (a:=b) (xs:=az ms) (fun k σ Hc=>∃(i5:Nat→Nat→V) (v5 v6 v7:Option V),σ=[some (.ref z),some (.ref a),some (.int (p:Int)),some (.ref b),some (.ref (rs p)),v5,v6,v7]∧fS n rs H Hc∧WTab Hc a n rs i5∧fo X Hc q n i5 (jz (fun i _=>decide (i∈ms.take k)) Tw T') (jz (fun i _=>decide (i∈ms.take k)) U U')) ⟨vf,_,_,_,rfl,fS.refl _ _ _,hW,hF.to fun i j _ _=>⟨eC (by simp),eC (by simp)⟩⟩ (fun k σ Hc _ ⟨_,_,_,_,_,oc,_⟩=>.of (br oc)) ?_ ?_
 ·rintro k x σ Hc hx ⟨i5,v5,v6,v7,rfl,oc,Wc,Fc⟩
  obtain ⟨i,hi,rfl⟩:=int_at hx;have im:=fZ hi;obtain ⟨cC,ip⟩:=FD i im;have ik:=Aq nd hi;have pk:p∉ms.take k:=fun z=>(FD p (List.mem_of_mem_take z)).2 rfl;have fi:decide (i∈ms.take k)=false:=cJ ik;have fp:decide (p∈ms.take k)=false:=cJ pk;dsimp only [cW];refine aF fun _ hR=>aY ⟨_,rfl,_,rfl,a,_,_,_,rfl,rfl,.of Wc.lst,cy cC,hR _ _ ?_⟩;have rO:=Fc i p cC pn;have FE:=Fc p p pn pn;rw [eC fi,eC fi] at rO;rw [eC fp,eC fp] at FE;obtain ⟨B9,gU⟩:=zr oc;refine aF fun _ hR=>aY ⟨_,rfl,z,B9,_,rfl,gU,jV (by decide +kernel),_,rfl,_,rfl,rs i,_,_,_,rfl,rfl,.of (Wc.at' i cC),cy pn,_,rfl,_,rfl,rs p,_,_,_,rfl,rfl,.of (Wc.at' p pn),cy pn,?_⟩
  dsimp only [gg];show Ab t.bC t.i6 [.ref z,i5 i p,i5 p p] _ _ _;refine J2 (Y':=(Tw i p*U p p).natAbs+(U i p*Tw p p).natAbs) (zr oc) hq rO FE iQ iQ gr.mY (by lia) (by lia) fun v' H1 s1 w1=>?_
  have W1:=Wc.mono s1;have w1:=(w1.eq hq (gr.low i im) (gr.nz i p cC pn)).bd (gr.bt i p cC pn).1 (gr.bt i p cC pn).2;refine ⟨_,rfl,_,rfl,rs i,_,_,p,rfl,rfl,W1.at' i cC,by rw [aJ,dc];exact jX pn,hR _ _ ?_⟩
  have W2:=W1.put (j:=p) v' cC;have B_:fS n rs H (upd H1 (rs i) (.lst (((List.range n).map (i5 i)).set p v'))):=(oc.same s1).put cC;have F2:fo X (upd H1 (rs i) (.lst (((List.range n).map (i5 i)).set p v'))) q n (l4 i5 i p v') (jz (fun i' j'=>decide (i'∈ms.take k) || (decide (i'=i) && (decide (j'=p) || decide (j'∈ms.take 0)))) Tw T') (jz (fun i' j'=>decide (i'∈ms.take k) || (decide (i'=i) && (decide (j'=p) || decide (j'∈ms.take 0)))) U U'):=Fc.put (fun v t u h=>(h.mono s1).put (W1.at' i cC)) (by rw [fK (by simp),fK (by simp)];exact w1.put (W1.at' i cC)) fun i' j' _ _ ne=>by
   by_cases h1:i'∈ms.take k
   ·rw [fK (by simp [h1]),fK (by simp [h1]),fK (by simp [h1]),fK (by simp [h1])]
    exact ⟨rfl,rfl⟩
   ·by_cases h2:i'=i
    ·have h3:j'≠p:=fun z=>ne ⟨h2,z⟩
     rw [eC (by simp [h1,h3]),eC (by simp [h1]),eC (by simp [h1,h3]),eC (by simp [h1])]
     exact ⟨rfl,rfl⟩
    ·rw [eC (by simp [h1,h2]),eC (by simp [h1]),eC (by simp [h1,h2]),eC (by simp [h1])]
     exact ⟨rfl,rfl⟩
  generalize upd H1 (rs i) (.lst (((List.range n).map (i5 i)).set p v'))=H2 at W2 B_ F2 ⊢;refine ⟨_,rfl,b,rfl,⟨_,.of (br B_)⟩,?_⟩;refine mF (K:=K) (a:=b) (xs:=az ms) (fun l σ Hd=>∃(di:Nat→Nat→V) (v7:Option V),σ=[some (.ref z),some (.ref a),some (.int (p:Int)),some (.ref b),some (.ref (rs p)),some (.int (i:Int)),some (.ref (rs i)),v7]∧fS n rs H Hd∧WTab Hd a n rs di∧fo X Hd q n di (jz (fun i' j'=>decide (i'∈ms.take k) || (decide (i'=i) && (decide (j'=p) || decide (j'∈ms.take l)))) Tw T') (jz (fun i' j'=>decide (i'∈ms.take k) || (decide (i'=i) && (decide (j'=p) || decide (j'∈ms.take l)))) U U')) ⟨_,_,rfl,B_,W2,F2⟩ (fun l σ Hd _ ⟨_,_,_,od,_⟩=>.of (br od)) ?_ ?_
  ·clear F2 W2 B_ w1 W1 rO FE Fc Wc oc
   rintro l x σ Hd hx ⟨di,v7,rfl,od,Wd,Fd⟩;obtain ⟨j,hj,rfl⟩:=int_at hx;have jm:=fZ hj;obtain ⟨fv,jp⟩:=FD j jm;have jl:=Aq nd hj;have FF:=Fd i j cC fv;have rO:=Fd i p cC pn;have FG:=Fd p j pn fv;rw [eC (by simp [ik,jp,jl]),eC (by simp [ik,jp,jl])] at FF
   rw [fK (by simp),fK (by simp)] at rO
   rw [eC (by simp [pk,Ne.symm ip]),eC (by simp [pk,Ne.symm ip])] at FG
   obtain ⟨B9,gU⟩:=zr od;dsimp only [cW];refine aY ⟨_,rfl,z,B9,_,rfl,gU,jV (by decide +kernel),_,rfl,_,rfl,rs i,_,_,_,rfl,rfl,.of (Wd.at' i cC),cy fv,_,rfl,z,B9,_,rfl,gU,jV (by decide +kernel),_,rfl,_,rfl,rs i,_,_,_,rfl,rfl,.of (Wd.at' i cC),cy pn,_,rfl,_,rfl,rs p,_,_,_,rfl,rfl,.of (Wd.at' p pn),cy fv,?_⟩
   have MQ:=rO.choose_spec.choose_spec.2.2;have MR:=FG.choose_spec.choose_spec.2.2;have WR:=FF.choose_spec.choose_spec.2.2;dsimp only [gg];show kW t.bC (fun x m y n=>x*y) (fun i j=>i*j) [.ref z,di i p,di p j] _ _ _;refine Em (Y':=(T' i p*Tw p j).natAbs+(U' i p*U p j).natAbs) (zr od) hq rO FG iQ iQ (fR hq MQ MR) (by lia) (by lia) fun v1 H1 s1 w1=>?_
   have w1:aO (X*X) H1 q v1 (T' i p*Tw p j) (U' i p*U p j):=w1.bd (by rw [gv];exact gZ (gr.bt i p cC pn).1 (hB p j pn fv).1) (by rw [gv];exact gZ (gr.bt i p cC pn).2 (hB p j pn fv).2)
   show kW t.bC (fun x m y n=>x*n-y*m) (fun i j=>i-j) [.ref z,di i j,v1] _ _ _;refine El (Y':=(Tw i j*(U' i p*U p j)-T' i p*Tw p j*U i j).natAbs+(U i j*(U' i p*U p j)).natAbs) (zr (od.same s1)) hq (FF.mono s1) w1 iQ XX (fR hq WR (fR hq MQ MR)) (by lia) (by lia) fun v2 H2 s2 w2=>?_
   have W1:=Wd.mono (s1.trans s2);have w2:=(w2.eq hq (gr.ent i im j jm) (gr.nz i j cC fv)).bd (gr.bt i j cC fv).1 (gr.bt i j cC fv).2;refine ⟨_,rfl,_,rfl,rs i,_,_,j,rfl,rfl,W1.at' i cC,by rw [aJ,dc];exact jX fv,?_⟩
   refine ⟨_,_,rfl,(od.same (s1.trans s2)).put cC,W1.put (j:=j) v2 cC,Fd.put (fun v t u h=>(h.mono (s1.trans s2)).put (W1.at' i cC)) (by rw [fK (by simp [take_snoc hj]),fK (by simp [take_snoc hj])];exact w2.put (W1.at' i cC)) fun i' j' _ _ ne=>?_⟩
   have ej:(fun i' j'=>decide (i'∈ms.take k) || (decide (i'=i) && (decide (j'=p) || decide (j'∈ms.take (l+1))))) i' j'=(fun i' j'=>decide (i'∈ms.take k) || (decide (i'=i) && (decide (j'=p) || decide (j'∈ms.take l)))) i' j':=by
    dsimp only;by_cases h2:i'=i
    ·have h3:j'≠j:=fun z=>ne ⟨h2,z⟩
     rw [take_snoc hj];simp [h3]
    ·simp [h2]
   constructor <;> (unfold jz;rw [ej])
  ·rintro σ Hd ⟨di,v7,rfl,od,Wd,Fd⟩
   refine ⟨di,_,_,_,rfl,od,Wd,Fd.J4 hq fun i' j' fm fq=>?_⟩;have ll:(az ms).length=ms.length:=aJ _;rw [ll,kA,take_snoc hi];by_cases h1:i'∈ms.take k
   ·refine .inl ?_
    rw [fK (by simp [h1]),fK (by simp [h1]),fK (by simp [h1]),fK (by simp [h1])]
    exact ⟨rfl,rfl⟩
   ·by_cases h2:i'=i
    ·subst h2
     by_cases h3:j'=p∨j'∈ms
     ·refine .inl ?_
      rw [fK (by simp),fK (by simpa [h1] using h3),fK (by simp),fK (by simpa [h1] using h3)]
      exact ⟨rfl,rfl⟩
     ·rw [not_or] at h3
      refine .inr ?_;have a1:∀A A':Nat→Nat→Int,jz (fun i _=>decide (i∈ms.take k++[i'])) A A' i' j'=A' i' j':=fun A A'=>fK (by simp)
      have a2:∀A A':Nat→Nat→Int,jz (fun MS MT=>decide (MS∈ms.take k) || (decide (MS=i') && (decide (MT=p) || decide (MT∈ms)))) A A' i' j'=A i' j':=fun A A'=>eC (by simp [h1,h3.1,h3.2])
      rw [a1,a1,a2,a2];exact ⟨gr.xX i' j' fm fq (.inr h3),gr.nz i' j' fm fq,gr.bt i' j' fm fq⟩
    ·refine .inl ?_
     rw [eC (by simp [h1,h2]),eC (by simp [h1,h2]),eC (by simp [h1,h2]),eC (by simp [h1,h2])]
     exact ⟨rfl,rfl⟩
 ·rintro σ Hc ⟨i5,v5,v6,v7,rfl,oc,Wc,Fc⟩
  have ll:(az ms).length=ms.length:=aJ _;rw [ll,kA] at Fc;refine kk Hc i5 oc Wc (Fc.J4 hq fun i' j' fm fq=>?_);by_cases h1:i'∈ms
  ·refine .inl ?_
   rw [fK (by simp [h1]),fK (by simp [h1])]
   exact ⟨rfl,rfl⟩
  ·refine .inr ?_
   rw [eC (by simp [h1]),eC (by simp [h1])]
   exact ⟨gr.xX i' j' fm fq (.inl h1),gr.nz i' j' fm fq,gr.bt i' j' fm fq⟩
theorem WS:bD ["table","wide"] ["table"] (aP AV):=bM
theorem WT(T:Txt K mg t):bh P w K mg base (dX P w) 1 t.qb t.ua ["table"] (Sj t.me):=by
 have S:=WS;refine T.vi.fI S (fun _ _ _ _ H vs _ _ hr h L=>?_);obtain ⟨a,q,B,au,m,rfl,⟨vs,ea,hl,hn⟩,h1,yG,hm,k⟩:=h
 refine ⟨_,(aq (cu (bR fE (cM gB rfl T.fL fN (aa (pv 0) ae)) ah) (ay (ba ah)) cH)
  (aq (pP 1 S.nd (cM gB rfl T.fL fN (aa (ax b8 (pv 0) ah) ae)))
  (aq (cu (nO (cM (RF (K:=K) rfl) rfl T.ME boot_any (aa (gQ (N:=["row","wide"]) (ρ:=(fun σ=>[σ[1]?.join])) (eA [1] rfl) rfl (fD (pv 0)) (fun _ _ _=>.nil) (fun _ _ _=>(nV jk (cM (DW (K:=K)) rfl T.fL fN (aa (pv 0) ae)) (pv 1)))) ae))) (ay (nY L rfl nJ T.B7 rfl T.B3 (aa eN ae))) cH)
  (ay (ba (pv 1)))))),?_⟩
 have h0:0<vs.length:=by lia
 refine ⟨_,rfl,a,vs,rfl,.inl (.of ea),rfl,false,by rw [jU,cJ (by lia)],cR ?_⟩
 have WU:0<au.length:=by lia
 obtain ⟨r,er,us,eu,lu,_⟩:=hn 0 vs[0] au[0] (by simp [h0]) (by simp [WU])
 have hm0:=hm au[0] (dj ..);refine ⟨_,rfl,a,vs,_,vs[0],rfl,rfl,.of ea,(by exact iZ (j:=0) (by simp [h0])),r,us,by rw [er],.inl (.of eu),?_⟩
 have em:(us.length:Int)=(m:Int):=by lia
 rw [em];dsimp only [cW];have WV:∀(i:Nat) (v:V),vs[i]?=some v→∃(r:Addr) (us:List V),v=.ref r∧H r=some (.lst us)∧us.length=m:=fun i v e=>by
  have fm:i<au.length:=by rw [←hl];exact (bQ.mp e).1
  obtain ⟨r,e1,us,e2,e3,_⟩:=hn i v au[i] e (by simp [fm])
  exact ⟨r,us,e1,e2,by rw [e3];exact hm _ (dj ..)⟩
 refine mR (R3 (R4 (DX (Jd (xs:=vs) (fun R h=>⟨_,rfl,a,rfl,⟨_,.of ea⟩,h _ _ (af.refl _) (ju (.of ea))⟩) (by rw [hl];exact cN (by lia)) (fun _ i y _=>y=.bl false) (fun _ _ _ _ _ _ h _ _=>h) ?_ ?_))))
 ·intro D i v hi Hc R sc _ kc
  obtain ⟨r',MU,rfl,e2,e3⟩:=WV i v hi;refine ⟨_,rfl,r',MU,rfl,.inl (.of (sc _ _ e2)),_,rfl,rfl,?_⟩;have zz:(!decide (V.int (MU.length:Int)=V.int (m:Int)))=false:=by rw [jU,da (by lia)];rfl
  rw [zz];exact kc _ Hc (af.refl _) rfl
 ·intro D ys Hc sc dE hP eD
  refine ⟨D,List.replicate ys.length false,rfl,.of (by rw [eD];exact gL _ (gL _ (Jk hP))),false,by rw [R5],cR ?_⟩
  exact ⟨_,rfl,k Hc sc⟩
theorem WW:bD ["table"] ["table"] (aP AW):=bM
theorem WX(T:Txt K mg t):bh P w K mg base (dX P w) 2 t.qc t.ub ["table"] (Sk t.me):=by
 have S:=WW;refine T.vj.fI S (fun _ _ _ _ H vs _ _ hr h L=>?_);obtain ⟨a,q,B,au,m,rfl,hA,h1,yG,hm,kE,k⟩:=h
 refine ⟨_,(aq (cu (bR jk (aI (WT T) hr T.Lm T.vi.kp T.Ll (nX L) (aa (pv 0) ae)) (cM gB rfl T.fL fN (aa (pv 0) ae))) (ay (nY L rfl nJ T.B7 rfl T.B3 (aa eN ae))) cH)
  (ay (ba (cM gB rfl T.fL fN (aa (pv 0) ae))))),?_⟩
 refine ⟨_,rfl,a,q,B,au,m,rfl,hA,h1,yG,hm,fun H1 s1=>?_⟩;obtain ⟨vs,ea,lv,_⟩:=id (hA.mono s1);refine ⟨_,rfl,a,vs,rfl,.inl (.of ea),rfl,_,rfl,cS (fun e_=>?_) (fun e_=>?_)⟩
 ·have e_:m≠au.length:=fun z=>by
   have:(m:Int)=(vs.length:Int):=by lia
   rw [jU,da this] at e_;cases e_
  exact ⟨by show 1≤sizeLine;decide,kE e_ H1 s1⟩
 ·have heq:m=au.length:=by
   by_cases z:(m:Int)=(vs.length:Int);·lia
   ·exact absurd (by rw [jU,cJ z];rfl) e_
  have z:=k heq H1 s1;dsimp only [C8];refine ⟨_,rfl,a,vs,rfl,.inl (.of ea),?_⟩;rw [show (vs.length:Int)=(m:Int) by lia]
  exact z
theorem WY:bD ["world","table","i","nought"] ["world","table","i"] (aP A3):=bM
theorem WZ(T:Txt K mg t):bh P w K mg base b5 4 t.qh t.uj ["world","table","i"] (Sq t.bC):=by
 have S:=WY;have wc:=Fx (P:=P) (w:=w) (base:=base) T;obtain ⟨dv,we,oF⟩:=T.BY;refine T.vp.cm S (fun _ _ _ _ H vs _ _ hr h=>?_);obtain ⟨z,a,q,B,au,n,i,rfl,⟨dz,hd⟩,hq,hT,ln,ki,hm,hi,kk⟩:=h;have hu:=hr.zO
 refine ⟨_,(aq (pP 3 S.nd (jP (pv 0) T.eG T.yv wc (hr.mono (by decide)) oF we lO (aa ah ae)))
  (ay (ba (gQ (N:=["j","i","table","nought"]) (ρ:=(fun σ=>[σ[2]?.join,σ[1]?.join,σ[3]?.join])) (eA [2,1,3] rfl) rfl (OQ rfl T.fM (aa (aB d_ (pv 2) ah) (aa (cM gB rfl T.fL fN (aa (pv 1) ae)) ae))) (fun _ _ _=>(.one (PW.pt (pw_or (bR (Jy (K:=K) hu) (ax (iH (K:=K)) (ax (iH (K:=K)) (pv 2) (pv 1)) (pv 0)) (pv 3)) (pw_or1 (bR (Jy (K:=K) hu) (ax (iH (K:=K)) (ax (iH (K:=K)) (pv 2) (pv 0)) (pv 1)) (pv 3))))))) (fun _ _ _=>(eO (aa (pv 1) (aa (pv 0) ae)))))))),?_⟩
 have nv:=DY hq;refine ⟨_,rfl,z,dz,_,rfl,hd,jV (by decide +kernel),z,q,0,1,rfl,⟨dz,hd⟩,hq,fe.of_lt (by decide) (by decide),fun h=>absurd h nv,fun _ v0 H1 s1 ho=>?_⟩
 have h0:=Ag (B:=1000) (by decide) ho hq (.inl rfl)
 dsimp only [cW];obtain ⟨vs,ea,lv,hv⟩:=id (hT.mono s1);have cell:∀i j,i<n→j<n→∃(r:Addr) (ws:List V) (v:V),vs[i]?=some (.ref r)∧H1 r=some (.lst ws)∧ws[j]?=some v∧bj B H1 q v ((au.getD i []).getD j o1).1 ((au.getD i []).getD j o1).2:=fun i j hi hj=>by
  have i1:i<vs.length:=by lia
  have i2:i<au.length:=by lia
  obtain ⟨r,e,ws,er,lw,fw⟩:=hv i vs[i] au[i] (by simp [i1]) (by simp [i2])
  have lp:=hm au[i] (dj i2);have j1:j<ws.length:=by lia
  have j2:j<au[i].length:=by lia
  refine ⟨r,ws,ws[j],by rw [←e];simp [i1],er,by simp [j1],?_⟩
  rw [getD_at i2,getD_at j2];exact fw j _ _ (by simp [j1]) (by simp [j2])
 refine iI (JA (xs:=(List.range (n-(i+1))).map fun k:Nat=>V.int ((i:Int)+1+(k:Int))) (fun k=>bf au i (i+1+k)) (fun R h=>⟨_,rfl,_,_,rfl,rfl,_,rfl,a,vs,rfl,.inl (.of ea),_,_,rfl,⟨by lia,by lia,by lia,by lia⟩,h _ ?_⟩) (by rw [aJ,dc];exact cN (by lia)) (fun _ k y Hx=>∃b:Addr,y=.ref b∧Hx b=some (.tup [.int (i:Int),.int ((i+1+k:Nat):Int)])) (fun D k y Ha Hb ys ⟨b,h1,h2⟩ e f=>⟨b,h1,f b _ (fun z=>by rw [z,e] at h2;cases h2) h2⟩) ?_ ?_ ?_)
 ·rw [show ((vs.length:Int)-((i:Int)+1)).toNat=n-(i+1) by lia]
  exact kX
 ·intro k x hx Hc R sc hR
  have hk:k<n-(i+1):=by have:=(bQ.mp hx).1;simpa using this
  rw [cx,ku hk] at hx;cases hx;have ej:(i:Int)+1+(k:Int)=((i+1+k:Nat):Int):=by lia
  obtain ⟨r1,w1,v1,a1,a2,a3,a4⟩:=cell i (i+1+k) hi (by lia)
  obtain ⟨r2,w2,v2,b1,b2,b3,b4⟩:=cell (i+1+k) i (by lia) hi
  have Ca:=sc _ _ ea;refine ⟨_,rfl,_,rfl,a,vs,_,.ref r1,rfl,rfl,.of Ca,iZ a1,_,rfl,r1,w1,_,v1,rfl,rfl,.of (sc _ _ a2),(by show iY w1 ((i:Int)+1+(k:Int))=_;rw [ej];exact iZ a3),_,rfl,Jz (a4.mono sc) (h0.mono sc) ⟨_,rfl,cS (fun hb=>?_) (fun hb=>?_)⟩⟩
  ·have e:bf au i (i+1+k)=true:=by unfold bf jy;rw [hb,Bool.true_or]
   rw [e] at hR;exact hR
  ·have e:bf au i (i+1+k)=jy au (i+1+k) i:=by
    have tX:jy au i (i+1+k)=false:=by unfold jy;simpa using hb
    unfold bf;rw [tX,Bool.false_or]
   rw [e] at hR;refine ⟨_,rfl,_,rfl,a,vs,_,.ref r2,rfl,rfl,.of Ca,(by show iY vs ((i:Int)+1+(k:Int))=_;rw [ej];exact iZ b1),_,rfl,r2,w2,_,v2,rfl,rfl,.of (sc _ _ b2),iZ b3,_,rfl,Jz (b4.mono sc) (h0.mono sc) ⟨_,rfl,hR⟩⟩
 ·intro D k x hx Hc R sc _ kc
  have hk:k<n-(i+1):=by have:=(bQ.mp hx).1;simpa using this
  rw [cx,ku hk] at hx;cases hx;refine ⟨_,rfl,_,rfl,by show 2≤sizeLine;decide,fun tp eF=>?_⟩
  refine kc _ _ (aS eF) ⟨tp,rfl,?_⟩;rw [aA,show ((i+1+k:Nat):Int)=(i:Int)+1+(k:Int) by lia]
 ·intro D ys Hc nD sc cz hP eD
  rw [aJ,dc] at cz hP;refine kk D ys Hc (s1.trans sc) (none_of s1 nD) eD ⟨by unfold lW;rw [aJ];exact cz,fun k v p h1 h2=>?_⟩
  unfold lW at h2;rw [cx] at h2;cases e:((List.range (n-(i+1))).filter fun k=>bf au i (i+1+k))[k]? with
  | none=>rw [e] at h2;cases h2
  | some k'=>rw [e] at h2;cases h2;exact hP k k' v h1 e
theorem W0:bD ["world","table","n","links","i"] ["world","table"] (aP A4):=bM
theorem W5(T:Txt K mg t):bh P w K mg base (dX P w) 6 t.qi t.um ["world","table"] (Sr t.bC t.me):=by
 have S:=W0;refine T.vq.fI S (fun _ _ _ _ H _ _ _ hr h L=>?_);obtain ⟨z,a,q,B,au,m,rfl,hz,hq,hT,h1,yG,hm,kE,kk⟩:=h
 refine ⟨_,(aq (putL 2 S.nd (aI (WX T) hr T.Lo T.vj.kp T.Ln (nX L) (aa (pv 1) ae)))
  (eZ.lH (aq (putL 3 S.nd (gA ae))
  (aq (fO dU rfl (gN rfl T.fM (aa (pv 2) ae)) (cX (i:=4) S.nd rfl (Or.inl rfl))
   (ay (kK (jR jK PySem.F.slot_list_extend PySem.F.type_list_extend Qb (pv 3) (aa (aI (WZ T) hr T.Lv T.vp.kp T.Lu aM (aa (pv 0) (aa (pv 1) (aa (pv 4) ae)))) ae)))))
  (ay (ba (eO (aa (pv 2) (aa (lN P8 rfl T.B5 boot_tuple (aa (pv 3) ae)) ae))))))))),?_⟩
 refine ⟨_,rfl,a,q,B,au,m,rfl,hT,h1,yG,hm,fun e_ H1 s1=>kE e_ H1 s1,fun heq H1 s1=>?_⟩;subst heq;have kk:=kk rfl;dsimp only [cW];refine ⟨by show 0≤sizeLine;decide,fun fd FH=>?_⟩
 have s2:af H1 (upd H1 fd (.lst [])):=aS FH;have ef:upd H1 fd (.lst []) fd=some (.lst []):=aA;dsimp only [cW];generalize upd H1 fd (.lst [])=H2 at s2 ef ⊢;have dB:=s1.trans s2;have W8:H fd=none:=none_of s1 FH;refine ⟨_,rfl,(au.length:Int),rfl,by lia,by lia,?_⟩
 rw [eJ];have W9:∀i,i≤au.length→(b7 au.length (bf au) i).length≤40*i:=fun i=>by
  induction i with
  | zero=>intro _;exact aG _
  | succ i ih=>
   intro hi;have a:=ih (by lia)
   show (b7 au.length (bf au) i++lW au.length (bf au) i).length≤_;have b:(lW au.length (bf au) i).length≤40:=by unfold lW;rw [aJ];refine bE (CT _ _) ?_;rw [dc];lia
   rw [gu];lia
 refine sF (fun i σ Hc=>∃(us:List V) (v4:Option V),σ=[some (.ref z),some (.ref a),some (.int (au.length:Int)),some (.ref fd),v4]∧af H Hc∧Hc fd=some (.lst us)∧eB Hc us (b7 au.length (bf au) i)) ⟨[],_,rfl,dB,ef,eB.nil _⟩ ?_ ?_
 ·rintro i σ Hc hi ⟨us,v4,rfl,sc,yH,hL⟩
  refine ⟨_,rfl,.inl ⟨rfl,_,.of yH⟩,_,rfl,_,rfl,_,rfl,z,a,q,B,au,au.length,i,?_,hz.mono sc,hq,hT.mono sc,rfl,yG,hm,hi,fun r ws Hd sd nr p9 hR=>?_⟩
  ·show [V.ref z,V.ref a,V.int (0+(i:Int))]=_
   rw [iS]
  have l1:=hL.1;have l2:=hR.1;have l3:=W9 (i+1) (by lia)
  have e3:b7 au.length (bf au) (i+1)=b7 au.length (bf au) i++lW au.length (bf au) i:=rfl;rw [e3,gu] at l3;refine ⟨fd,r,us,ws,rfl,rfl,sd _ _ yH,p9,bE (show _≤2000 by lia) (by decide),us++ws,_,rfl,jv (sc.trans sd) W8,aA,?_⟩
  rw [e3];exact ((hL.mono sd).cat hR).cf (sd _ _ yH) fun b o nb e=>by rw [aK nb];exact e
 ·rintro σ Hc ⟨us,v4,rfl,sc,yH,hL⟩
  refine ⟨_,rfl,_,rfl,fd,us,rfl,.inl ⟨.of yH,fun lt W_=>?_⟩⟩;have sl:af Hc (upd Hc lt (.tup us)):=aS W_;have el:upd Hc lt (.tup us) lt=some (.tup us):=aA;generalize upd Hc lt (.tup us)=Hd at sl el ⊢;refine ⟨by show 2≤sizeLine;decide,fun tp eF=>?_⟩
  have st:af Hd (upd Hd tp (.tup [.int (au.length:Int),.ref lt])):=aS eF;exact kk tp _ (sc.trans (sl.trans st)) (none_of (sc.trans sl) eF) ⟨lt,us,aA,st _ _ el,(hL.mono sl).mono st⟩
theorem Xa:bD ["shape","linked","i","j"] ["shape"] (aP A5):=bM
theorem Xb(T:Txt K mg t):bh P w K mg base b5 1 t.qj t.uo ["shape"] SV:=by
 have S:=Xa;refine T.vt.cm S (fun _ _ _ _ H _ _ _ hr h=>?_);obtain ⟨tp,n,L,rfl,⟨lt,us,eV,elt,hL⟩,ok,n9,kk⟩:=h;have hu:=jH (Nat.add_le_add_left (show 1≤64 by decide) _) hr.units
 have Xc:((List.range n).map fun i:Nat=>V.int (0+(i:Int))).length=n:=by rw [aJ,dc]
 refine ⟨_,(aq (oq (i0:=1) (N:=["place"]) (ρ:=(fun σ=>[])) (eA [] rfl) rfl S.nd rfl (Or.inl rfl) (gN rfl T.fM (aa (ax a_ (pv 0) ah) ae)) (fun _ _ _=>.nil) (fun _ _ _=>SM))
  (aq (fO dU rfl (OO (ax a_ (pv 0) ah)) (su rfl (iW (cX (i:=2) S.nd rfl (Or.inl rfl)) (iW (cX (i:=3) S.nd rfl (Or.inl rfl)) sq)))
   (aq (Eb hu (ax b8 (pv 1) (pv 2)) (pv 3) kJ rfl)
  (ay (Eb hu (ax b8 (pv 1) (pv 3)) (pv 2) kJ rfl))))
  (ay (ba (pv 1))))),?_⟩
 refine mR (aY (pW (xs:=(List.range n).map fun i:Nat=>V.int (0+(i:Int))) (n:=n) Xc (fun R h=>⟨_,rfl,tp,_,_,_,rfl,rfl,.of eV,rfl,(n:Int),rfl,by lia,by lia,h _ _ (af.refl _) (by rw [eJ];exact kX)⟩) (cN (by lia)) (fun _ i y Hx=>Hx y=some (.dK (dk []))∧H y=none) ?_ ?_ ?_))
 ·intro D i y Ha Hb ys ⟨h1,h2⟩ hy e f
  exact ⟨f y _ hy h1,h2⟩
 ·intro D i x hx Hc R sc _ kc
  refine fun p np=>kc p _ (jv (af.refl _) np) np ⟨_,aA⟩ ⟨aA,?_⟩;cases e:H p with
  | none=>rfl
  | some o=>rw [sc _ _ e] at np;cases np
 ·intro D ds H1 nD s1 inj hA eD
  have K0:eR H1 D n ds (fun _=>True) (fun _=>[]):=⟨eD,inj,fun i hi=>(hA i hi).2,fun i hi _=>(hA i hi).1.1,fun i _=>lX.nil n⟩;have fr:∀i,i<n→H (ds i)=none:=fun i hi=>(hA i hi).1.2;dsimp only [cW];refine mR ⟨_,rfl,tp,_,_,_,rfl,rfl,.of (s1 _ _ eV),rfl,lt,rfl,⟨_,.of (s1 _ _ elt)⟩,?_⟩;refine OT (K:=K) (a:=lt) (xs:=us) (fun k σ Hc=>∃(f:Nat→List Nat) (v2 v3:Option V),σ=[some (.ref tp),some (.ref D),v2,v3]∧af H Hc∧eR Hc D n ds (fun _=>True) f∧mV n (L.take k) f) ⟨_,_,_,rfl,s1,K0,mV.nil n⟩ (fun k σ Hc _ ⟨_,_,_,_,sc,_⟩=>.of (sc _ _ elt)) ?_ ?_
  ·rintro k x σ Hc hx ⟨f,v2,v3,rfl,sc,KL,nb⟩
   have hk:k<L.length:=by rw [←hL.1];exact (bQ.mp hx).1
   obtain ⟨b,rfl,eb⟩:=hL.2 k x L[k] hx (by simp [hk])
   have pk:=ok L[k] (dj hk);have tk:L.take (k+1)=L.take k++[L[k]]:=by rw [nG,b6 hk];rfl
   generalize L[k]=p at eb pk tk;obtain ⟨p1,p2⟩:=p;dsimp only at pk eb;obtain ⟨i,rfl⟩:=w_ pk.1;obtain ⟨j,rfl⟩:=w_ pk.2.2.1;have hi:i<n:=by lia
   have hj:j<n:=by lia
   refine ⟨b,_,rfl,.of (sc _ _ eb),rfl,_,_,rfl,_,_,rfl,rfl,?_⟩;obtain ⟨q1,K1⟩:=KL.put hi hj trivial n9;obtain ⟨q2,K2⟩:=K1.put hj hi trivial n9;refine ⟨_,rfl,_,rfl,D,_,_,_,rfl,rfl,.of KL.lst,KL.ix hi,_,rfl,_,_,rfl,q1,?_⟩;refine ⟨_,rfl,_,rfl,D,_,_,_,rfl,rfl,.of K1.lst,K1.ix hj,_,rfl,_,_,rfl,q2,?_⟩;have off:∀(Hx:Hp) (i:Nat) (o:HO),i<n→af H Hx→af H (upd Hx (ds i) o):=fun Hx i o hi sx a u e=>by
    rw [aK (fun z=>by rw [z,fr i hi] at e;cases e)]
    exact sx _ _ e
   exact ⟨_,_,_,rfl,off _ _ _ hj (off _ _ _ hi sc),K2,by rw [tk];exact nb.more hi hj⟩
  ·rintro σ Hc ⟨f,v2,v3,rfl,sc,KL,nb⟩
   rw [hL.1,kA] at nb;exact ⟨_,rfl,kk _ _ _ _ sc nD fr KL nb⟩
theorem Xd:bD ["many"] ["many"] (aP Ba):=bM
theorem Xe(T:Txt K mg t):bh P w K mg base b5 1 t.qt t.uy ["many"] TB:=by have S:=Xd;refine T.vA.cm S (fun _ _ _ _ H _ _ _ hr h=>?_);obtain ⟨m,rfl,m1,k⟩:=h;refine ⟨_,(ay (ba (aB d_ (aB d_ (aB gz (pv 0) (pv 0)) (aB gz ah (pv 0))) ah))),?_⟩;exact ⟨_,rfl,_,rfl,_,_,rfl,rfl,.inl ⟨by lia,by lia⟩,_,rfl,_,_,rfl,rfl,.inl ⟨by lia,by lia⟩,_,_,rfl,rfl,_,_,rfl,rfl,k⟩
theorem Xf:bD ["thing","n"] ["thing","n"] (aP A6):=bM
theorem Xg(T:Txt K mg t):bh P w K mg base b5 2 t.qk t.ur ["thing","n"] S0:=by
 have S:=Xf;refine T.vv.cm S (fun _ _ _ _ H _ _ _ hr h=>?_);obtain ⟨a,zs,n,rfl,ea,yI,n1,k⟩:=h;have i7:=hr.units
 refine ⟨_,(aq (cu (PW.pt (pw_or (xl (nO (cM (xD (K:=K)) rfl T.v9 boot_isinstance (aa (pv 0) (aa (xj (v:=.ty "list") rfl T.rM boot_list rfl) ae))))) (pw_or1 (xl (nO (cM (QS (K:=K) rfl) rfl T.MD boot_all (aa (gQ (N:=["place"]) (ρ:=(fun σ=>[])) (eA [] rfl) rfl (fD (pv 0)) (fun _ _ _=>.nil) (fun _ _ _=>(aI (MN T) hr T.Fe T.rB.kp T.Fb aM (aa (pv 0) ae)))) ae))))))) (ay (ba kJ)) cH)
  (ay (ba (nV (JP i7) (cM JN rfl T.Fw PyProof.Rows.boot_sorted (aa (pv 0) ae)) (lN (QW rfl) rfl T.rM boot_list (aa (lN QU rfl T.fM QX (aa (pv 1) ae)) ae)))))),?_⟩
 refine ⟨_,rfl,_,_,_,true,rfl,rfl,.of (.lst ea),DN,true,rfl,cR ?_⟩;unfold HG tB;refine DX (Jd (xs:=zs.map V.int) (fun R h=>⟨_,rfl,a,rfl,⟨_,.of ea⟩,h _ _ (af.refl _) (ju (.of ea))⟩) (by rw [aJ];exact cN (by lia)) (fun _ i y _=>y=.bl true) (fun _ _ _ _ _ _ h _ _=>h) ?_ ?_)
 ·intro D i v hi Hc R sc _ kc
  obtain ⟨z,rfl⟩:∃z:Int,v=.int z:=by
   rw [cx] at hi;cases e:zs[i]? with
   | none=>rw [e] at hi;cases hi
   | some z=>rw [e] at hi;exact ⟨z,(Option.some.inj hi).symm⟩
  exact ⟨_,rfl,.int z,rfl,.int z,kc _ Hc (af.refl _) rfl⟩
 ·intro D ys Hc sc dE hP eD
  refine ⟨D,List.replicate ys.length true,rfl,.of (by rw [eD];exact gL _ (gL _ (Jk hP))),?_⟩
  rw [R6];refine ⟨true,rfl,cR ?_⟩;dsimp only [C8];have Ca:=sc _ _ ea;refine ⟨_,rfl,a,zs,rfl,Ca,yI,fun ws D2 p o n2=>?_⟩;refine ⟨_,rfl,(n:Int),rfl,fun p1 FI=>⟨p1,n,rfl,aA,by lia,fun l nl=>?_⟩⟩
  have d1:D2≠p1:=fun z=>by rw [←z,aA] at FI;cases FI
  have d2:D2≠l:=fun z=>by rw [←z,aK d1,aA] at nl;cases nl
  refine ⟨D2,l,ws,(List.range n).map iN,rfl,rfl,.of ?_,.of ?_,?_⟩;·rw [aK d2,aK d1,aA]
  ·rw [aA]
   unfold sZ;rw [d5];rfl
  ·rw [SY p o]
   exact k _ (Ak (Ak (Ak sc n2) FI) nl)
theorem Xh:bD ["order","n"] ["order","n"] (aP A7):=bM
theorem Xi(T:Txt K mg t):bh P w K mg base (dX P w) 3 t.ql t.uu ["order","n"] (S1 t.m_):=by
 have S:=Xh;refine T.vw.fI S (fun _ _ _ _ H _ _ _ hr h L=>?_);obtain ⟨a,zs,n,rfl,ea,yI,n1,kE,k⟩:=h;refine ⟨_,(ay (cu (xl (nO (aI (Xg T) hr T.LB T.vv.kp T.LA aM (aa (pv 0) (aa (pv 1) ae))))) (ay (nY L rfl nJ T.MM rfl T.MC (aa eN ae))) cH)),?_⟩;refine ⟨_,rfl,_,rfl,a,zs,n,rfl,ea,yI,n1,fun H1 s1=>⟨_,rfl,cS (fun hb=>?_) (fun hb=>?_)⟩⟩;·exact ⟨by show 1≤sizeLine;decide,kE (by simpa using hb) _ s1⟩
 ·exact k (by simpa using hb) _ s1
theorem Xj:bD ["order","turns","turn","place"] ["order"] (aP A8):=bM
theorem Xk(T:Txt K mg t):bh P w K mg base b5 1 t.qm t.uv ["order"] S9:=by
 have S:=Xj;refine T.vx.cm S (fun _ _ _ _ H _ _ _ hr h=>?_);obtain ⟨a,n,o,rfl,⟨ea,ho⟩,n1,kk⟩:=h;have lo:=cw ho;have lm:(o.map fun k:Nat=>V.int (k:Int)).length=n:=by rw [aJ,lo]
 refine ⟨_,(aq (putL 1 S.nd (aB II (gA (aa ah ae)) (cM gB rfl T.fL fN (aa (pv 0) ae))))
  (aq (fO dU rfl (Jq rfl T.Fu (aa (pv 0) ae)) (su rfl (iW (cX (i:=2) S.nd rfl (Or.inl rfl)) (iW (cX (i:=3) S.nd rfl (Or.inl rfl)) sq)))
   (ay (@iu _ _ _ _ _ _ (pv 2) (jh (pv 1) (pv 3) set_list) (by rfl) (by rfl) (by rfl))))
  (ay (ba (pv 1))))),?_⟩
 refine ⟨by show 1≤sizeLine;decide,fun l nl=>?_⟩
 have al:a≠l:=fun z=>by rw [z,nl] at ea;cases ea
 refine ⟨_,rfl,a,_,rfl,.inl (.of (by rw [aK al];exact ea)),l,_,_,rfl,rfl,aA,by lia,by rw [lm];lia,?_,fun c nc=>?_⟩
 ·rw [lm,eJ]
  show 1*n≤sizeLine;rw [sizeLine_eq];lia
 rw [lm,eJ,Tb n o];have MV:H c=none:=none_of (aS nl) nc;have s0:af H (upd (upd H l (.lst [.int 0])) c (.lst ((List.range n).map fun p=>V.int (jY o 0 p)))):=(aS nl).trans (aS nc);have e0:upd (upd H l (.lst [.int 0])) c (.lst ((List.range n).map fun p=>V.int (jY o 0 p))) c=_:=aA;generalize upd (upd H l (.lst [.int 0])) c (.lst ((List.range n).map fun p=>V.int (jY o 0 p)))=H0 at s0 e0 ⊢;dsimp only [cW];refine mR ⟨_,rfl,a,rfl,⟨_,.of (s0 _ _ ea)⟩,?_⟩
 refine Jr (K:=K) (l:=a) (xs:=o.map fun k:Nat=>V.int (k:Int)) (fun i σ Hc=>af H Hc∧∃(v2 v3:Option V),σ=[some (.ref a),some (.ref c),v2,v3]∧Hc c=some (.lst ((List.range n).map fun p=>V.int (jY o i p))))
  ⟨s0,_,_,rfl,e0⟩ (fun i σ Hc ⟨z,_⟩=>.of (z _ _ ea)) ?_ ?_
 ·rintro i x σ Hc Tt hx ⟨sc,v2,v3,rfl,ec⟩ nT
  have hi:i<o.length:=by have:=(bQ.mp hx).1;simpa using this
  have ex:x=.int ((o[i]:Nat):Int):=by rw [cx] at hx;simp [hi] at hx;exact hx.symm
  subst ex;have hp:o[i]<n:=(bF ho).mp (dj hi);have sT:af Hc (upd Hc Tt (.tup [.int (i:Int),.int ((o[i]:Nat):Int)])):=aS nT;have eT:upd Hc Tt (.tup [.int (i:Int),.int ((o[i]:Nat):Int)]) Tt=_:=aA;generalize upd Hc Tt (.tup [.int (i:Int),.int ((o[i]:Nat):Int)])=H1 at sT eT ⊢;refine ⟨Tt,_,rfl,.of eT,rfl,_,_,rfl,_,_,rfl,rfl,?_⟩;refine ⟨_,rfl,_,rfl,_,rfl,c,_,_,o[i],rfl,rfl,sT _ _ ec,by rw [aJ,dc];exact jX hp,?_⟩
  exact ⟨jv (sc.trans sT) MV,_,_,rfl,by rw [aA,Ta ho hi]⟩
 ·rintro σ Hc ⟨sc,v2,v3,rfl,ec⟩
  rw [aJ,Tc ho] at ec;exact ⟨_,rfl,kk c Hc sc MV ec⟩
theorem Xl:bD ["linked","places","one","other"] ["linked","places"] (aP A9):=bM
theorem Xm(T:Txt K mg t):bh P w K mg base b5 1 t.qo t.uw ["linked","places"] Te:=by
 have S:=Xl;refine T.vy.cm S (fun _ _ _ _ H _ _ _ hr h=>?_);obtain ⟨D,pl,n,ds,un,f,ps,rfl,KL,wg,FJ,n9,kk⟩:=h;have hu:=jH (Nat.add_le_add_left (show 1≤64 by decide) _) hr.units
 have cf:∀i,i<n→un i→pl≠ds i:=fun i hi ui z=>by rw [z,KL.at' i hi ui] at wg;cases wg
 have MW:∀{i:Nat} {x:V},(ps.map fun k:Nat=>V.int (k:Int))[i]?=some x→∃p:Nat,ps[i]?=some p∧x=.int (p:Int)∧p<n∧un p:=fun{i x} hx=>by
  rw [cx] at hx;cases e:ps[i]? with
  | none=>rw [e] at hx;cases hx
  | some p=>rw [e] at hx;exact ⟨p,rfl,(Option.some.inj hx).symm,FJ p (fZ e)⟩
 refine ⟨_,(ay (fO dU rfl (fD (pv 1)) (cX (i:=2) S.nd rfl (Or.inl rfl))
   (ay (fO dU rfl (fD (pv 1)) (cX (i:=3) S.nd rfl (Or.inl rfl))
   (ay (cu (bR jk (pv 2) (pv 3)) (ay (Eb hu (ax b8 (pv 0) (pv 2)) (pv 3) kJ rfl)) cH)))))),?_⟩
 refine ⟨_,rfl,pl,rfl,⟨_,.of wg⟩,?_⟩;refine mF (K:=K) (a:=pl) (xs:=ps.map fun k:Nat=>V.int (k:Int)) (fun i σ Hc=>∃(g:Nat→List Nat) (v2 v3:Option V),σ=[some (.ref D),some (.ref pl),v2,v3]∧ou n ds un H Hc∧eR Hc D n ds un g∧hX n f ps i 0 g) ⟨f,_,_,rfl,.refl,KL,hX.start n f ps⟩ (fun i σ Hc _ ⟨_,_,_,_,oc,_⟩=>.of (oc _ _ wg cf)) ?_ ?_
 ·rintro i x σ Hc hx ⟨g,v2,v3,rfl,oc,Kc,la⟩
  obtain ⟨p,hp,rfl,pn,up⟩:=MW hx;refine ⟨_,rfl,pl,rfl,⟨_,.of (oc _ _ wg cf)⟩,?_⟩;refine mF (K:=K) (a:=pl) (xs:=ps.map fun k:Nat=>V.int (k:Int)) (fun j σ Hd=>∃(g:Nat→List Nat) (v3:Option V),σ=[some (.ref D),some (.ref pl),some (.int (p:Int)),v3]∧ou n ds un H Hd∧eR Hd D n ds un g∧hX n f ps i j g) ⟨g,_,rfl,oc,Kc,la⟩ (fun i σ Hc _ ⟨_,_,_,oc,_⟩=>.of (oc _ _ wg cf)) ?_ ?_
  ·rintro j y σ Hd hy ⟨g,v3,rfl,od,Kd,la⟩
   obtain ⟨q,hq,rfl,qn,uq⟩:=MW hy;refine ⟨_,rfl,_,rfl,rfl,_,rfl,cS (fun hb=>?_) (fun hb=>?_)⟩
   ·have ne:p≠q:=fun z=>by subst z;rw [jU,da rfl] at hb;cases hb
    obtain ⟨q1,K1⟩:=Kd.put pn qn up n9;exact ⟨_,rfl,_,rfl,D,_,_,_,rfl,rfl,.of Kd.lst,Kd.ix pn,_,rfl,_,_,rfl,q1,_,_,rfl,od.put pn up,K1,la.put hp hq ne⟩
   ·have e:p=q:=by
     by_cases z:(p:Int)=(q:Int);·lia
     ·exact absurd (by rw [jU,cJ z];rfl) hb
    subst e;exact ⟨_,_,rfl,od,Kd,la.same hp hq⟩
  ·rintro σ Hd ⟨g,v3,rfl,od,Kd,la⟩
   rw [aJ] at la;exact ⟨g,_,_,rfl,od,Kd,la.row⟩
 ·rintro σ Hc ⟨g,v2,v3,rfl,oc,Kc,la⟩
  rw [aJ] at la;exact kk _ g oc Kc la.done
theorem Xn:bD ["shape","order","linked","turns","told","place"] ["shape","order"] (aP A_):=bM
theorem Xo(T:Txt K mg t):bh P w K mg base (dX P w) 4 t.qr t.ux ["shape","order"] (TC t.m_):=by
 have S:=Xn;refine T.vz.fI S (fun _ _ _ _ H _ _ _ hr h L=>?_);obtain ⟨tp,a,n,Lk,zs,rfl,hS,hL,ns,B8,ea,yI,kE,kk⟩:=h;obtain ⟨lt,us,eV,elt,DL⟩:=id hS
 refine ⟨_,(aq (kK (aI (Xi T) hr T.LD T.vw.kp T.LC (nX L) (aa (pv 1) (aa (ax a_ (pv 0) ah) ae))))
  (eZ.lH (aq (putL 2 S.nd (aI (Xb T) hr T.Lz T.vt.kp T.Ly aM (aa (pv 0) ae)))
  (aq (pP 3 S.nd (aI (Xk T) hr T.LG T.vx.kp T.LF aM (aa (pv 1) ae)))
  (aq (oq (i0:=4) (N:=["place"]) (ρ:=(fun σ=>[])) (eA [] rfl) rfl S.nd rfl (Or.inl rfl) (fD (pv 1)) (fun _ _ _=>.nil) (fun _ _ _=>(gA ae)))
  (aq (fO dU rfl (fD (pv 1)) (cX (i:=5) S.nd rfl (Or.inr rfl))
   (aq (@iu _ _ _ _ _ _ (cM JN rfl T.Fw PyProof.Rows.boot_sorted (aa (gQ (N:=["other","turns","place"]) (ρ:=(fun σ=>[σ[3]?.join,σ[5]?.join])) (eA [3,5] rfl) rfl (Sy (ax b8 (pv 2) (pv 5))) (fun _ _ _=>(.one (bR xq (ax (iH (K:=K)) (pv 1) (pv 0)) (ax (iH (K:=K)) (pv 1) (pv 2))))) (fun _ _ _=>(pv 0))) ae)) (jh (pv 4) (pv 5) set_list) (by rfl) (by rfl) (by rfl))
  (ay (kK (aI (Xm T) hr T.LI T.vy.kp T.LH aM (aa (pv 2) (aa (ax b8 (pv 4) (pv 5)) ae)))))))
  (ay (ba (pv 4))))))))),?_⟩
 refine ⟨_,rfl,_,rfl,tp,_,_,_,rfl,rfl,.of eV,rfl,a,zs,n,rfl,ea,yI,by lia,fun no H1 s1=>kE no H1 s1,fun yes H1 s1=>?_⟩
 obtain ⟨o,rfl,ho⟩:=To yes;have kk:=kk o rfl ho;have lo:=cw ho;have nd:=fk ho;have yJ:H a=some (.lst (o.map fun k:Nat=>V.int (k:Int))):=by rw [ea,d5];rfl
 have lm:(o.map fun k:Nat=>V.int (k:Int)).length=n:=by rw [aJ,lo]
 refine ⟨_,rfl,tp,n,Lk,rfl,⟨lt,us,s1 _ _ eV,s1 _ _ elt,DL.mono s1⟩,hL,by lia,fun H2 D ds f s2 nD Xp KL nb=>?_⟩
 have nD0:=none_of s1 nD;have MX:∀i,i<n→H (ds i)=none:=fun i hi=>none_of s1 (Xp i hi);have dB:=s1.trans s2;dsimp only [cW];refine ⟨_,rfl,a,n,o,rfl,⟨dB _ _ yJ,ho⟩,by lia,fun tr H3 s3 Xq e3=>?_⟩
 have mi:=dB.trans s3;have aeQ:=none_of dB Xq;have K3:=KL.mono s3;dsimp only [cW];refine mR (aY (pW (xs:=o.map fun k:Nat=>V.int (k:Int)) (n:=n) lm (fun R h=>⟨_,rfl,a,rfl,⟨_,.of (mi _ _ yJ)⟩,h _ _ (af.refl _) (ju (.of (mi _ _ yJ)))⟩) (cN (by lia)) (fun _ i y Hx=>H3 y=none) (fun _ _ _ _ _ _ h _ _ _=>h) ?_ ?_))
 ·intro D' i x hx Hc R sc _ kc
  refine ⟨by show 0≤sizeLine;exact b_ _,fun p np=>kc p _ (aS np) np ⟨_,aA⟩ (none_of sc np)⟩
 ·intro c Xr H4 nc s4 _ hA ec
  have yK:=mi.trans s4;have MY:=none_of mi nc;have K4:=K3.mono s4;have e4:=s4 _ _ e3;have cD:c≠D:=fun z=>by rw [z,K3.lst] at nc;cases nc
  have Xs:c≠tr:=fun z=>by rw [z,e3] at nc;cases nc
  dsimp only [cW];refine mR ⟨_,rfl,a,rfl,⟨_,.of (yK _ _ yJ)⟩,?_⟩
  refine mF (K:=K) (a:=a) (xs:=o.map fun k:Nat=>V.int (k:Int)) (fun k σ Hc=>∃(rs:Nat→Addr) (f g:Nat→List Nat) (v5:Option V),σ=[some (.ref tp),some (.ref a),some (.ref D),some (.ref tr),some (.ref c),v5]∧af H Hc∧eR Hc D n ds (fun p=>k≤o.idxOf p) f∧Hc tr=some (.lst ((List.range n).map fun p=>V.int (o.idxOf p:Int)))∧Hc c=some (.lst ((List.range n).map fun p=>V.ref (rs p))) ∧
    (∀p,p<n→o.idxOf p<k→H (rs p)=none∧rs p≠c∧Hc (rs p)=some (.lst ((g p).map fun k:Nat=>V.int (k:Int)))∧dO n o p (g p)∧dD n Lk o p (g p))∧pY n Lk o k f) ⟨Xr,f,fun _=>[],_,rfl,yK,K4.less (fun _ _ _=>trivial),e4,ec,fun p _ h=>absurd h (oQ _),pY.start nb ns⟩ (fun k σ Hc _ ⟨_,_,_,_,_,sc,_⟩=>.of (sc _ _ yJ)) ?_ ?_
  ·rintro k x σ Hc hx ⟨rs,f,g,v5,rfl,sc,Kc,FK,Cb,done,FL⟩
   have hk:k<o.length:=by have:=(bQ.mp hx).1;simpa using this
   have ex:x=.int ((o[k]:Nat):Int):=by rw [cx] at hx;simp [hk] at hx;exact hx.symm
   subst ex;have hp:o[k]<n:=(bF ho).mp (dj hk);have ip:o.idxOf o[k]=k:=hV nd hk;generalize o[k]=p at hp ip ⊢;dsimp only [cW];have MZ:=Kc.at' p hp (by lia)
   refine mR (aY (DX (Tx ⟨_,rfl,_,rfl,D,_,_,_,rfl,rfl,.of Kc.lst,Kc.ix hp,ds p,dk (f p),rfl,.inl ⟨MZ,fun ob=>?_⟩⟩)));have Kf:eR (upd Hc (ds p) (.cP ob (.dK (dk (f p))))) D n ds (fun q=>k+1≤o.idxOf q) f:=(Kc.less (fun i hi (ui:k+1≤o.idxOf i)=>show k≤o.idxOf i by lia)).upd (Kc.ne p hp) (fun i hi (ui:k+1≤o.idxOf i) z=>by have:=Kc.inj i p hi hp z;subst this;lia)
   have FN:∀{b:Addr} {xs:List V},Hc b=some (.lst xs)→b≠ds p:=fun{b xs} e z=>by rw [z,MZ] at e;cases e
   have Cc:upd Hc (ds p) (.cP ob (.dK (dk (f p)))) tr=_:=(aK (FN FK)).trans FK;have Cd:upd Hc (ds p) (.cP ob (.dK (dk (f p)))) c=_:=(aK (FN Cb)).trans Cb;have sf:af H (upd Hc (ds p) (.cP ob (.dK (dk (f p))))):=fun b u e=>by
    rw [aK (fun z=>by rw [z,MX p hp] at e;cases e)]
    exact sc _ _ e
   have FO:∀q,q<n→o.idxOf q<k→H (rs q)=none∧rs q≠c∧upd Hc (ds p) (.cP ob (.dK (dk (f p)))) (rs q)=some (.lst ((g q).map fun k:Nat=>V.int (k:Int)))∧dO n o q (g q)∧dD n Lk o q (g q):=fun q hq Ce=>by obtain ⟨d1,d2,d3,d4⟩:=done q hq Ce;exact ⟨d1,d2,(aK (FN d3)).trans d3,d4⟩
   have M0:upd Hc (ds p) (.cP ob (.dK (dk (f p)))) (ds p)=some (.cP ob (.dK (dk (f p)))):=aA;generalize upd Hc (ds p) (.cP ob (.dK (dk (f p))))=Hf at Kf Cc Cd sf FO M0 ⊢;have yL:=Kc.pl p hp;refine Tj M0 (fun q=>decide ((o.idxOf p:Int)<(o.idxOf q:Int))) (jH yL.len (cN (by lia))) ?_ ?_ ?_
   ·intro q hq Hx R sx hR
    have qn:=yL.2 q hq;exact ⟨_,rfl,_,rfl,tr,_,_,_,rfl,rfl,.of (sx _ _ Cc),cy qn,_,rfl,_,rfl,tr,_,_,_,rfl,rfl,.of (sx _ _ Cc),cy hp,_,_,rfl,rfl,_,rfl,hR⟩
   ·intro q hq Hx R hR
    exact ⟨_,rfl,hR⟩
   ·intro D1 H1 nj M3 Cf
    rw [Tv] at Cf;have fl:((f p).filter fun q=>decide (o.idxOf p<o.idxOf q)).length≤n:=bE (CT _ _) yL.len;refine ⟨D1,((f p).filter fun q=>decide (o.idxOf p<o.idxOf q)).map iN,rfl,by rw [Cf,d5];rfl,by rw [aJ];lia,fun ws D2 pw so FP=>?_⟩
    obtain ⟨ms,rfl,pm⟩:=JR pw;have dQ:=Tn yL pm so;have hm:∀q,q∈ms↔q∈f p∧k<o.idxOf q:=fun q=>by rw [pm.mem_iff,i8,wW,ip]
    have Xt:dD n Lk o p ms:=fun q=>by
     rw [hm q,ip];constructor
     ·rintro ⟨h1,h2⟩
      have qn:=yL.2 q h1;exact ⟨qn,h2,((FL p q hp qn (by lia) (by lia)).mp h1).2⟩
     ·rintro ⟨h1,h2,h3⟩
      exact ⟨(FL p q hp h1 (by lia) (by lia)).mpr ⟨fun e=>by subst e;lia,h3⟩,h2⟩
    have rP:af Hf (upd H1 D2 (.lst ((ms.map iN).map V.int))):=Ak M3 FP;have wm:upd H1 D2 (.lst ((ms.map iN).map V.int)) D2=some (.lst (ms.map fun k:Nat=>V.int (k:Int))):=by rw [aA,d5];rfl
    have FQ:Hf D2=none:=none_of M3 FP;have Xu:H D2=none:=none_of sf FQ;generalize upd H1 D2 (.lst ((ms.map iN).map V.int))=Hg at rP wm ⊢;have M4:D2≠c:=fun z=>by rw [z,Cd] at FQ;cases FQ
    refine ⟨_,rfl,_,rfl,c,_,_,p,rfl,rfl,rP _ _ Cd,by rw [aJ,dc];exact jX hp,?_⟩
    rw [Tq];have Kg:=Kf.mono rP;have Kh:eR (upd Hg c (.lst ((List.range n).map fun q=>V.ref (jZ rs p D2 q)))) D n ds (fun q=>k+1≤o.idxOf q) f:=Kg.upd cD (fun i hi ui z=>by have:=Kg.at' i hi ui;rw [z,rP _ _ Cd] at this;cases this)
    have sh:af H (upd Hg c (.lst ((List.range n).map fun q=>V.ref (jZ rs p D2 q)))):=jv (sf.trans rP) MY;have FR:upd Hg c (.lst ((List.range n).map fun q=>V.ref (jZ rs p D2 q))) c=_:=aA;have M5:upd Hg c (.lst ((List.range n).map fun q=>V.ref (jZ rs p D2 q))) tr=_:=(aK (Ne.symm Xs)).trans (rP _ _ Cc);have FT:upd Hg c (.lst ((List.range n).map fun q=>V.ref (jZ rs p D2 q))) D2=_:=(aK M4).trans wm;have M6:∀q,q<n→o.idxOf q<k→upd Hg c (.lst ((List.range n).map fun q=>V.ref (jZ rs p D2 q))) (rs q)=some (.lst ((g q).map fun k:Nat=>V.int (k:Int))):=fun q hq Ce=>by obtain ⟨d1,d2,d3,d4⟩:=FO q hq Ce;exact (aK d2).trans (rP _ _ d3)
    generalize upd Hg c (.lst ((List.range n).map fun q=>V.ref (jZ rs p D2 q)))=Hh at Kh sh FR M5 FT M6 ⊢;refine ⟨_,rfl,_,rfl,_,rfl,c,_,_,_,rfl,rfl,.of FR,cy hp,?_⟩;rw [JS];refine ⟨D,D2,n,ds,_,f,ms,rfl,Kh,FT,fun q hq=>⟨dQ.lt q hq,by have:=dQ.la q hq;lia⟩,by lia,fun H5 g5 off K5 con=>?_⟩
    have cf:∀{b:Addr} {xs:List V},Hh b=some (.lst xs)→H5 b=some (.lst xs):=fun{b xs} e=>off _ _ e fun i hi ui z=>by rw [z,Kh.at' i hi ui] at e;cases e
    refine ⟨jZ rs p D2,g5,gk g p ms,_,rfl,fun b u e=>off _ _ (sh _ _ e) (fun i hi _ z=>by rw [z,MX i hi] at e;cases e),K5,cf M5,cf FR,fun q hq Ce=>?_,FL.step ho hp ip hm dQ.lt con⟩
    by_cases e:q=p
    ·subst e
     rw [JS,Ts];exact ⟨Xu,M4,cf FT,dQ,Xt⟩
    ·rw [Tr e,Tu e]
     have ne:=tM ho hq hp e;have M7:o.idxOf q<k:=by lia
     obtain ⟨d1,d2,d3,d4⟩:=FO q hq M7;exact ⟨d1,d2,cf (M6 q hq M7),d4⟩
  ·rintro σ Hc ⟨rs,f,g,v5,rfl,sc,Kc,FK,Cb,done,_⟩
   rw [lm] at done;have lt:∀p,p<n→o.idxOf p<n:=fun p hp=>by have:=(cT ((bF ho).mpr hp)).1;lia
   exact ⟨_,rfl,kk Hc c rs g sc MY (fun p hp=>(done p hp (lt p hp)).1) ⟨Cb,fun p hp=>(done p hp (lt p hp)).2.2.1⟩ fun p hp=>(done p hp (lt p hp)).2.2.2⟩
theorem Xv:bD ["world","table","order","others","work","turn","place"] ["world","table","order"] (aP Bc):=bM
theorem Xw(T:Txt K mg t):bh P w K mg base b5 8 t.qv t.uA ["world","table","order"] (Ua t.bC t.m_):=by
 have S:=Xv;have wc:=Fx (P:=P) (w:=w) (base:=base) T;obtain ⟨dv,we,oF⟩:=T.BY;refine T.vC.cm S (fun _ _ _ _ H _ _ _ hr h=>?_);obtain ⟨z,a,d,q,B,X,n,au,o,M,D,rfl,hw,hq,hT,M8,ln,n1,ki,wd,ed,ho,dY,kS,kF⟩:=h;have i7:=hr.units;have hu:=jH (Nat.add_le_add_left (show 1≤64 by decide) _) hr.units
 have hu:=hr.zO;have lo:=cw ho;have J6:=fk ho
 refine ⟨_,(aq (putL 3 S.nd (aI (Xo T) hr T.LK T.vz.kp T.LJ lO (aa (aI (W5 T) hr T.Lx T.vq.kp T.Lw lO (aa (pv 0) (aa (pv 1) ae))) (aa (pv 2) ae))))
  (aq (oq (i0:=4) (N:=["row"]) (ρ:=(fun σ=>[])) (eA [] rfl) rfl S.nd rfl (Or.inl rfl) (fD (pv 1)) (fun _ _ _=>.nil) (fun _ _ _=>(lN (Jj (K:=K)) rfl T.rM boot_list (aa (pv 0) ae))))
  (aq (fO dU rfl (Jq rfl T.Fu (aa (pv 2) ae)) (su rfl (iW (cX (i:=5) S.nd rfl (Or.inl rfl)) (iW (cX (i:=6) S.nd rfl (Or.inl rfl)) sq)))
   (aq (cu (bR (I_ hu) (ax b8 (ax b8 (pv 4) (pv 6)) (pv 6)) (jP (pv 0) T.eG T.yv wc (hr.mono (by decide)) oF we lO (aa ah ae))) (ay (ba (eO (aa (pv 4) (aa (pv 3) (aa (aB d_ (pv 5) ah) ae)))))) cH)
  (ay (kK (aI (WQ T) hr T.LO T.vB.kp T.LN aM (aa (pv 0) (aa (pv 4) (aa (pv 6) (aa (ax b8 (pv 3) (pv 6)) ae)))))))))
  (ay (ba (eO (aa (pv 4) (aa (pv 3) (aa pz ae))))))))),?_⟩
 have lt:∀zz∈b7 n (bf au) n,0≤zz.1∧zz.1<zz.2∧zz.2<(n:Int):=Uc;have Xx:Ed n (b7 n (bf au) n):=fun zz hz=>by have:=lt zz hz;exact ⟨this.1,by lia,by lia,this.2.2⟩
 have ns:Ee (b7 n (bf au) n):=fun zz hz=>by have:=lt zz hz;lia
 refine aF fun _ hR=>aY ⟨_,rfl,_,rfl,z,a,q,B,au,n,rfl,hw,hq,hT,by lia,by lia,wd,fun ne=>absurd ln.symm ne,fun _ tp H1 s1 eF sh=>⟨_,rfl,tp,d,n,b7 n (bf au) n,o.map iN,rfl,sh,Xx,ns,by lia,by rw [s1 _ _ ed,d5];rfl,by rw [aJ];lia,fun no=>absurd (ho.map iN) no,fun o' ez lE H2 ot ls g s2 not nls la dA=>hR _ _ ?_⟩⟩
 have eo:o'=o:=by
  have inj:∀{a b:List Nat},a.map iN=b.map iN→a=b:=fun{a b} e=>by
   have:=gL (List.map Int.toNat) e;rw [d5,d5] at this;have Xy:(Int.toNat ∘ iN)=id:=by funext x;exact eJ x
   rwa [Xy,List.map_id,List.map_id] at this
  exact (inj ez).symm
 subst eo;have dB:=s1.trans s2;obtain ⟨ra,vf,ea,er,num⟩:=Ub (hT.mono dB) ln wd;have cq:((List.range n).map fun i=>V.ref (ra i)).length=n:=by rw [aJ,dc]
 refine aF fun _ hR=>aY (pW (xs:=(List.range n).map fun i=>V.ref (ra i)) (n:=n) cq (fun R h=>⟨_,rfl,a,rfl,⟨_,.of ea⟩,h _ _ (af.refl _) (ju (.of ea))⟩) (cN (by lia)) (fun _ i y Hx=>Hx y=some (.lst ((List.range n).map (vf i)))∧H2 y=none) ?_ ?_ ?_)
 ·intro D i y Ha Hb ys ⟨h1,h2⟩ hy e f
  exact ⟨f y _ hy h1,h2⟩
 ·intro D i x hx Hc R sc _ kc
  have hi:i<n:=by
   have:=(bQ.mp hx).1
   rwa [cq] at this
  have ex:x=.ref (ra i):=by rw [cx,ku hi] at hx;exact (Option.some.inj hx).symm
  subst ex;exact ⟨_,rfl,ra i,_,rfl,.inl (.of (sc _ _ (er i hi))),fun l nl=>kc l _ (aS nl) nl ⟨_,aA⟩ ⟨aA,none_of sc nl⟩⟩
 ·intro wk rs H3 Xz s3 inj hA XA
  refine hR _ _ ?_;have W3:WTab H3 wk n rs vf:=⟨XA,inj,fun i hi=>(hA i hi).2,fun i hi=>(hA i hi).1.1⟩;have jD:∀i,i<n→H2 (rs i)=none:=fun i hi=>(hA i hi).1.2;have mi:=dB.trans s3;have F3:fo X H3 q n vf (sT M D o' 0) (sU M D o' 0):=fun i j hi hj=>by
   have e1:sT M D o' 0 i j=M i j:=by unfold sT;rw [ak ⟨b_ _,b_ _⟩];exact gR
   have e2:sU M D o' 0 i j=D i:=by unfold sU;rw [ak ⟨b_ _,b_ _⟩];exact fW _
   have b:=dY.bd 0 i j (b_ _);rw [e1,e2] at b ⊢;exact Er ((num i j hi hj).mono s3) (dY.oz i j hi hj) (dY.dn i) b.1 b.2
  have nv:=DY hq;obtain ⟨dz,hz⟩:=id hw;have Ci:∀{Hc:Hp},fS n rs H3 Hc→af H2 Hc:=fun{Hc} oc b u e=>oc b u (fun i hi zz=>by rw [zz,jD i hi] at e;cases e) (s3 _ _ e)
  have sH:∀{Hc:Hp},fS n rs H3 Hc→af H Hc:=fun{Hc} oc=>dB.trans (Ci oc);have XB:∀i,i<n→ot≠rs i:=fun i hi zz=>by have h:=la.1;rw [zz,jD i hi] at h;cases h
  have M9:∀i,i<n→∀j,j<n→ls j≠rs i:=fun i hi j hj zz=>by have h:=la.2 j hj;rw [zz,jD i hi] at h;cases h
  have XC:∀i,i<n→z≠rs i:=fun i hi zz=>by have h:=hz;rw [zz,none_of dB (jD i hi)] at h;cases h
  have pack:∀{Hc:Hp} {vf:Nat→Nat→V} {k:Nat},fS n rs H3 Hc→WTab Hc wk n rs vf→fo X Hc q n vf (sT M D o' k) (sU M D o' k)→Ep H Hc q n X (b7 n (bf au) n) o' M D k wk ot rs vf ls g:=fun{Hc vf k} oc Wc Fc=>⟨Wc,⟨none_of dB Xz,fun i hi=>none_of dB (jD i hi)⟩,Fc,⟨Ci oc _ _ la.1,fun p hp=>Ci oc _ _ (la.2 p hp)⟩,dA,fun i hi=>⟨XB i hi,M9 i hi⟩⟩;refine aF fun _ hR=>⟨_,rfl,d,rfl,⟨_,.of (mi _ _ ed)⟩,?_⟩;refine Jr (K:=K) (l:=d) (xs:=az o') (fun k σ Hc=>∃(vf:Nat→Nat→V) (v5 v6:Option V),σ=[some (.ref z),some (.ref a),some (.ref d),some (.ref ot),some (.ref wk),v5,v6]∧fS n rs H3 Hc∧WTab Hc wk n rs vf∧fo X Hc q n vf (sT M D o' k) (sU M D o' k)∧aW q M (cO o' k)) ⟨vf,_,_,rfl,fS.refl _ _ _,W3,F3,trivial⟩ (fun k σ Hc ⟨_,_,_,_,oc,_⟩=>.of (sH oc _ _ ed)) ?_ ?_
  ·rintro k x σ Hc Tt hx ⟨vf,v5,v6,rfl,oc,Wc,Fc,gd⟩ nT
   obtain ⟨p,hk,rfl⟩:=int_at hx;have kl:k<o'.length:=(bQ.mp hk).1;have pk:o'[k]=p:=(bQ.mp hk).2;have hp:p<n:=(bF ho).mp (fZ hk);have ip:o'.idxOf p=k:=by rw [←pk];exact hV J6 kl
   have Cj:af Hc (upd Hc Tt (.tup [.int (k:Int),.int (p:Int)])):=aS nT;have eT:upd Hc Tt (.tup [.int (k:Int),.int (p:Int)]) Tt=some (.tup [.int (k:Int),.int (p:Int)]):=aA;generalize upd Hc Tt (.tup [.int (k:Int),.int (p:Int)])=H4 at Cj eT ⊢;have FU:=oc.same Cj;have W4:=Wc.mono Cj;have F4:fo X H4 q n vf (sT M D o' k) (sU M D o' k):=fun i j hi hj=>(Fc i j hi hj).mono Cj;refine ⟨Tt,_,rfl,.of eT,rfl,_,_,rfl,_,_,rfl,rfl,?_⟩;have M_:sT M D o' k p p=ao M (cO o' k) (M p) p:=by unfold sT;rw [ak ⟨by lia,by lia⟩]
   obtain ⟨x,m,h1,h2,h3⟩:=F4 p p hp hp;have FV:=sH FU _ _ hz;refine aF fun _ hR=>⟨_,rfl,_,rfl,wk,_,_,_,rfl,rfl,.of W4.lst,cy hp,_,rfl,rs p,_,_,_,rfl,rfl,.of (W4.at' p hp),cy hp,_,rfl,z,dz,_,rfl,FV,jV (by decide +kernel),z,q,0,1,rfl,⟨dz,FV⟩,hq,fe.of_lt (by decide) (by decide),fun h=>absurd h nv,fun _ v0 H5 s5 XD=>?_⟩
   refine Jl (h1.mono s5) (Ag (B:=1000) (by decide) XD hq (.inl rfl)) ⟨_,rfl,cS (fun hb=>?_) (fun hb=>?_)⟩
   ·have x0:x=0:=g6 hb
    have rQ:q∣ao M (cO o' k) (M p) p:=by rw [←M_];exact (Ao hq ⟨x,m,h1,h2,h3⟩).mpr ⟨x,m,h1,x0⟩
    have yM:=FU.same s5;refine iI ⟨_,rfl,_,rfl,_,rfl,_,_,rfl,rfl,by show 3≤sizeLine;decide,fun tp eF=>kS k kl gd (by rw [pk];exact rQ) tp wk ot _ rs ls vf g ((sH yM).trans (aS eF)) aA (pack (yM.same (aS eF)) ((W4.mono s5).mono (aS eF)) fun i j hi hj=>((F4 i j hi hj).mono s5).mono (aS eF))⟩
   ·have x0:¬x=0:=fun zz=>hb (da zz)
    have mY:¬q∣ao M (cO o' k) (M p) p:=fun rQ=>by rw [←M_] at rQ;obtain ⟨x',m',g1,g2⟩:=(Ao hq ⟨x,m,h1,h2,h3⟩).mp rQ;exact x0 ((J8 h1 g1).1.trans g2)
    refine hR _ _ ?_;have yM:=FU.same s5;have S5:=Ci yM;have gr:=T6 (L:=b7 n (bf au) n) (ms:=g p) (X:=X) hq ho hp ip gd mY dY.dn (fun a' b' ha hb ab na=>dY.zero a' b' ha hb (J7 ha hb ab na)) (dA p hp).2 dY.bd;have lk:=(dA p hp).1;refine ⟨_,rfl,_,rfl,_,rfl,_,rfl,_,rfl,ot,_,_,_,rfl,rfl,.of (S5 _ _ la.1),cy hp,z,wk,ls p,q,n,X,p,rs,vf,g p,sT M D o' k,sU M D o' k,sT M D o' (k+1),sU M D o' (k+1),rfl,⟨dz,s5 _ _ FV⟩,hq,W4.mono s5,S5 _ _ (la.2 p hp),fun i hi=>⟨M9 i hi p hp,XC i hi⟩,hp,fun m' gj=>⟨lk.lt m' gj,fun zz=>by have:=lk.la m' gj;rw [zz] at this;lia⟩,lk.up.imp (fun h=>dC h),by lia,dY.X1,dY.gG,fun i j hi hj=>(F4 i j hi hj).mono s5,fun i j _ _=>dY.bd k i j (by lia),gr,fun H6 XE off W6 F6=>?_⟩
    exact ⟨XE,_,_,rfl,fun b u nb e=>off b u nb (yM b u nb e),W6,F6,by rw [mZ kl,pk];exact ⟨gd,mY⟩⟩
  ·rintro σ Hc ⟨vf,v5,v6,rfl,oc,Wc,Fc,gd⟩
   refine hR _ _ ?_;have ll:(az o').length=n:=by unfold az;rw [aJ,lo]
   rw [ll] at Fc gd;refine iI ⟨_,rfl,_,rfl,by show 3≤sizeLine;decide,fun tp eF=>kF gd tp wk ot _ rs ls vf g ((sH oc).trans (aS eF)) aA (pack (oc.same (aS eF)) (Wc.mono (aS eF)) fun i j hi hj=>(Fc i j hi hj).mono (aS eF))⟩
theorem XF:bD ["world","work","others","order","aim","left","place","i"] ["world","work","others","order","aim"] (aP Bd):=bM
theorem XG(T:Txt K mg t):bh P w K mg base b5 5 t.qw t.uB ["world","work","others","order","aim"] (Ud t.bC):=by
 have S:=XF;have yE:=Fz (P:=P) (w:=w) (base:=base) T;have yF:=FA (P:=P) (w:=w) (base:=base) T;refine T.vD.cm S (fun _ _ _ _ H _ _ _ hr h=>?_);obtain ⟨z,wk,ot,d,e,q,X,n,L,o,M,D,rs,ls,vf,g,av,rfl,hw,hq,n1,ki,hW,hF,la,dA,ed,ho,ee,hA,gd,hD,zero,X1,gG,bd,bl,kk⟩:=h;have lo:=cw ho;obtain ⟨dz,hz⟩:=id hw;have iQ:X≤10 ^ 300:=bE gG (by decide +kernel)
 have XX:X*X≤10 ^ 300:=bE (gZ gG gG) (by decide +kernel)
 have yN:∀i j,i<n→j<n→¬q∣sU M D o n i j:=fun i j hi hj=>(hF i j hi hj).choose_spec.choose_spec.2.2;have yO:∀k i,k≤n→¬q∣sW M D o k i:=fun k i hk=>fR hq (hD i) (iK hq (j8 gd (by lia)))
 refine ⟨_,(aq (putL 5 S.nd (lN Dt rfl T.rM boot_list (aa (pv 4) ae)))
  (aq (fO dU rfl (fD (pv 3)) (cX (i:=6) S.nd rfl (Or.inl rfl))
   (ay (fO dU rfl (fD (ax b8 (pv 2) (pv 6))) (cX (i:=7) S.nd rfl (Or.inl rfl))
   (ay (@iu _ _ _ _ _ _ (jP (pv 0) T.eG T.vZ yE (hr.mono (by decide)) T.B0 .nil aM (aa (ax b8 (pv 5) (pv 7)) (aa (jP (pv 0) T.eG T.v8 yF (hr.mono (by decide)) T.B1 .nil aM (aa (ax b8 (ax b8 (pv 1) (pv 7)) (pv 6)) (aa (ax b8 (pv 5) (pv 6)) ae))) ae))) (jh (pv 5) (pv 7) set_list) (by rfl) (by rfl) (by rfl))))))
  (ay (ba (pv 5))))),?_⟩
 refine aF fun _ hR=>aY ⟨_,rfl,e,_,rfl,.inl (.of ee),fun r nr=>hR _ _ ?_⟩;have o1:aX r H (upd H r (.lst ((List.range n).map av))):=aX.of (aS nr);have e1:dy (upd H r (.lst ((List.range n).map av))) r n av:=aA;have F1:∀i,i<n→aO X (upd H r (.lst ((List.range n).map av))) q (av i) (sL M o n 0 i) (sW M D o 0 i):=fun i hi=>by
  have a1:sL M o n 0 i=M i n:=by unfold sL;rw [Nat.zero_min];exact gR
  have a2:sW M D o 0 i=D i:=by unfold sW;rw [Nat.zero_min];exact fW _
  rw [a1,a2];exact (hA i hi).mono (aS nr)
 generalize upd H r (.lst ((List.range n).map av))=H1 at o1 e1 F1 ⊢;have off:∀{Hc:Hp},aX r H Hc→∀b u,H b=some u→Hc b=some u:=fun{Hc} oc b u e=>oc b u (fun zz=>by rw [zz,nr] at e;cases e) e
 refine aF fun _ hR=>⟨_,rfl,d,rfl,⟨_,.of (off o1 _ _ ed)⟩,?_⟩;refine mF (K:=K) (a:=d) (xs:=az o) (fun k σ Hc=>∃(lv:Nat→V) (v6 v7:Option V),σ=[some (.ref z),some (.ref wk),some (.ref ot),some (.ref d),some (.ref e),some (.ref r),v6,v7]∧aX r H Hc∧dy Hc r n lv∧∀i,i<n→aO X Hc q (lv i) (sL M o n k i) (sW M D o k i)) ⟨av,_,_,rfl,o1,e1,F1⟩ (fun k σ Hc _ ⟨_,_,_,_,oc,_⟩=>.of (off oc _ _ ed)) ?_ ?_
 ·rintro k x σ Hc hx ⟨lv,v6,v7,rfl,oc,er,Fc⟩
  obtain ⟨p,hk,rfl⟩:=int_at hx;have kl:k<o.length:=(bQ.mp hk).1;have pk:o[k]=p:=(bQ.mp hk).2;have hp:p<n:=(bF ho).mp (fZ hk);have ip:o.idxOf p=k:=by rw [←pk];exact hV (fk ho) kl
  obtain ⟨m6,e8⟩:=Ue (D:=D) hq ho hp ip gd zero (dA p hp).2;have lk:=(dA p hp).1;have nd:(g p).Nodup:=lk.up.imp (fun h=>dC h);have pm:p∉g p:=fun zz=>by have:=lk.la p zz;lia
  dsimp only [cW];refine ⟨_,rfl,_,rfl,ot,_,_,_,rfl,rfl,.of (off oc _ _ la.1),cy hp,ls p,rfl,⟨_,.of (off oc _ _ (la.2 p hp))⟩,?_⟩;refine mF (K:=K) (a:=ls p) (xs:=az (g p)) (fun l σ Hd=>∃(lv:Nat→V) (v7:Option V),σ=[some (.ref z),some (.ref wk),some (.ref ot),some (.ref d),some (.ref e),some (.ref r),some (.int (p:Int)),v7]∧aX r H Hd∧dy Hd r n lv∧∀i,i<n→aO X Hd q (lv i) (if i∈(g p).take l then sL M o n (k+1) i else sL M o n k i) (if i∈(g p).take l then sW M D o (k+1) i else sW M D o k i)) ⟨lv,_,rfl,oc,er,fun i hi=>by simpa using Fc i hi⟩ (fun l σ Hd _ ⟨_,_,_,od,_⟩=>.of (off od _ _ (la.2 p hp))) ?_ ?_
  ·clear Fc er oc
   rintro l x σ Hd hx ⟨lv,v7,rfl,od,er,Fd⟩;obtain ⟨i,hi,rfl⟩:=int_at hx;have im:=fZ hi;have cC:=lk.lt i im;have il:=Aq nd hi;have pl:p∉(g p).take l:=fun zz=>pm (List.mem_of_mem_take zz);have wi:=Fd i cC;have wp:=Fd p hp;rw [aj il,aj il] at wi;rw [aj pl,aj pl] at wp;have sd:af H Hd:=off od;have wt:=(hF i p cC hp).mono sd;have gU:=sd _ _ hz;dsimp only [cW];refine aY ⟨_,rfl,z,dz,_,rfl,gU,jV (by decide +kernel),_,rfl,_,rfl,r,_,_,_,rfl,rfl,.of er,cy cC,_,rfl,z,dz,_,rfl,gU,jV (by decide +kernel),_,rfl,_,rfl,wk,_,_,_,rfl,rfl,.of (sd _ _ hW.lst),cy cC,_,rfl,rs i,_,_,_,rfl,rfl,.of (sd _ _ (hW.at' i cC)),cy hp,_,rfl,_,rfl,r,_,_,_,rfl,rfl,.of er,cy hp,?_⟩
   dsimp only [gg];show kW t.bC (fun x m y n=>x*y) (fun i j=>i*j) [.ref z,vf i p,lv p] _ _ _;refine Em (Y':=(sT M D o n i p*sL M o n k p).natAbs+(sU M D o n i p*sW M D o k p).natAbs) ⟨dz,gU⟩ hq wt wp iQ iQ (fR hq (yN i p cC hp) (yO k p (by lia))) (by lia) (by lia) fun v1 H2 s2 w1=>?_
   have w1:aO (X*X) H2 q v1 (sT M D o n i p*sL M o n k p) (sU M D o n i p*sW M D o k p):=w1.bd (by rw [gv];exact gZ (bd n i p (aG _)).1 (bl k p (by lia)).1) (by rw [gv];exact gZ (bd n i p (aG _)).2 (bl k p (by lia)).2)
   show kW t.bC (fun x m y n=>x*n-y*m) (fun i j=>i-j) [.ref z,lv i,v1] _ _ _;refine El (Y':=(sL M o n k i*(sU M D o n i p*sW M D o k p)-sT M D o n i p*sL M o n k p*sW M D o k i).natAbs+(sW M D o k i*(sU M D o n i p*sW M D o k p)).natAbs) ⟨dz,s2 _ _ gU⟩ hq (wi.mono s2) w1 iQ XX (fR hq (yO k i (by lia)) (fR hq (yN i p cC hp) (yO k p (by lia)))) (by lia) (by lia) fun v2 H3 s3 w2=>?_
   have w2:=(w2.eq hq (m6 i im) (yO (k+1) i (by lia))).bd (bl (k+1) i (by lia)).1 (bl (k+1) i (by lia)).2
   have rR:=s2.trans s3;have k8:=rR _ _ er;refine ⟨_,rfl,_,rfl,r,_,_,i,rfl,rfl,k8,by rw [aJ,dc];exact jX cC,?_⟩
   refine ⟨fun j=>if j=i then v2 else lv j,_,rfl,fun b u ne e=>by rw [aK ne];exact rR _ _ (od b u ne e),by unfold dy;rw [aA,map_set],fun j hj=>?_⟩
   rw [take_snoc hi];by_cases ej:j=i
   ·subst ej
    simp only [ak,lh,iR,or_true];exact w2.put k8
   ·have e3:(j∈(g p).take l++[i])↔j∈(g p).take l:=by simp [ej]
    simp only [aj ej,e3];exact ((Fd j hj).mono rR).put k8
  ·rintro σ Hd ⟨lv,v7,rfl,od,er,Fd⟩
   have ll:(az (g p)).length=(g p).length:=aJ _;rw [ll,kA] at Fd;refine ⟨lv,_,_,rfl,od,er,fun i hi=>?_⟩;have:=Fd i hi;by_cases h:i∈g p;·rwa [ak h,ak h] at this
   ·rw [aj h,aj h] at this
    exact (this.eq hq (e8 i hi h) (yO (k+1) i (by lia))).bd (bl (k+1) i (by lia)).1 (bl (k+1) i (by lia)).2
 ·rintro σ Hc ⟨lv,v6,v7,rfl,oc,er,Fc⟩
  refine hR _ _ ?_;have ll:(az o).length=n:=by unfold az;rw [aJ,lo]
  rw [ll] at Fc;exact ⟨_,rfl,kk r lv Hc (off oc) nr er Fc⟩
theorem XH:bD ["world","work","others","places","row","told","place","j"] ["world","work","others","places","row"] (aP Be):=bM
theorem Na(T:Txt K mg t):bh P w K mg base b5 5 t.qx t.uC ["world","work","others","places","row"] (Ug t.bC):=by
 have S:=XH;have yE:=Fz (P:=P) (w:=w) (base:=base) T;have yF:=FA (P:=P) (w:=w) (base:=base) T;have FC:=MP (P:=P) (w:=w) (base:=base) T;refine T.rC.cm S (fun _ A _ _ H _ _ _ hr h=>?_);obtain ⟨z,wk,ot,d,e,q,X,n,ps,Tw,U,rs,ls,vf,g,av,A,B,x,y,Sw,Rw,rfl,hw,hq,ki,hW,hF,hB,la,ed,nd,FJ,FW,ee,hA,X1,gG,rp,kk⟩:=h;obtain ⟨dz,hz⟩:=id hw;have iQ:X≤10 ^ 300:=bE gG (by decide +kernel)
 have XX:X*X≤10 ^ 300:=bE (gZ gG gG) (by decide +kernel)
 have yN:∀i j,i<n→j<n→¬q∣U i j:=fun i j hi hj=>(hF i j hi hj).choose_spec.choose_spec.2.2
 refine ⟨_,(aq (putL 5 S.nd (lN Dt rfl T.rM boot_list (aa (pv 4) ae)))
  (aq (fO dU rfl (T9 rfl T.MH (aa (pv 3) ae)) (cX (i:=6) S.nd rfl (Or.inl rfl))
   (aq (fO dU rfl (fD (ax b8 (pv 2) (pv 6))) (cX (i:=7) S.nd rfl (Or.inl rfl))
   (ay (@iu _ _ _ _ _ _ (jP (pv 0) T.eG T.vZ yE (hr.mono (by decide)) T.B0 .nil aM (aa (ax b8 (pv 5) (pv 6)) (aa (jP (pv 0) T.eG T.v8 yF (hr.mono (by decide)) T.B1 .nil aM (aa (ax b8 (ax b8 (pv 1) (pv 6)) (pv 7)) (aa (ax b8 (pv 5) (pv 7)) ae))) ae))) (jh (pv 5) (pv 6) set_list) (by rfl) (by rfl) (by rfl))))
  (ay (@iu _ _ _ _ _ _ (jP (pv 0) T.eG T.yA FC (hr.mono (by decide)) T.Fs .nil lO (aa (ax b8 (pv 5) (pv 6)) (aa (ax b8 (ax b8 (pv 1) (pv 6)) (pv 6)) ae))) (jh (pv 5) (pv 6) set_list) (by rfl) (by rfl) (by rfl)))))
  (ay (ba (pv 5))))),?_⟩
 refine aF fun _ hR=>aY ⟨_,rfl,e,_,rfl,.inl (.of ee),fun r nr=>hR _ _ ?_⟩;have o1:aX r H (upd H r (.lst ((List.range n).map av))):=aX.of (aS nr);have e1:dy (upd H r (.lst ((List.range n).map av))) r n av:=aA;have F1:∀i,i<n→aO X (upd H r (.lst ((List.range n).map av))) q (av i) (A i) (B i):=fun i hi=>(hA i hi).mono (aS nr);generalize upd H r (.lst ((List.range n).map av))=H1 at o1 e1 F1 ⊢;have off:∀{Hc:Hp},aX r H Hc→∀b u,H b=some u→Hc b=some u:=fun{Hc} oc b u e=>oc b u (fun zz=>by rw [zz,nr] at e;cases e) e
 have t_:(az ps).length=ps.length:=aJ _;refine aF fun _ hR=>⟨_,rfl,d,_,rfl,.of (off o1 _ _ ed),?_⟩;refine T_ (K:=K) (a:=d) (xs:=az ps) (fun k σ Hc=>∃(lv:Nat→V) (v6 v7:Option V),σ=[some (.ref z),some (.ref wk),some (.ref ot),some (.ref d),some (.ref e),some (.ref r),v6,v7]∧aX r H Hc∧dy Hc r n lv∧∀i,i<n→aO X Hc q (lv i) (if i∈ps.take (ps.length-k) then A i else x i) (if i∈ps.take (ps.length-k) then B i else y i)) ⟨av,_,_,rfl,o1,e1,fun i hi=>?_⟩ (fun k σ Hc _ ⟨_,_,_,_,oc,_⟩=>.of (off oc _ _ ed)) ?_ ?_
 ·rw [Nat.sub_zero,kA]
  by_cases h:i∈ps
  ·rw [ak h,ak h]
   exact F1 i hi
  ·rw [aj h,aj h,←(rp.xX i hi h).1,←(rp.xX i hi h).2]
   exact F1 i hi
 ·rintro k v σ Hc XI hx ⟨lv,v6,v7,rfl,oc,er,Fc⟩
  rw [t_] at XI hx;obtain ⟨p,hk,rfl⟩:=int_at hx;have pm:=fZ hk;obtain ⟨hp,hg⟩:=FJ p pm;have FW:=FW _ p hk;have ts:ps.take (ps.length-k)=ps.take (ps.length-1-k)++[p]:=by
   rw [show ps.length-k=(ps.length-1-k)+1 by lia]
   exact take_snoc hk
  have pt:p∉ps.take (ps.length-1-k):=Aq nd hk;have gt:∀j∈g p,j∉ps.take (ps.length-k):=fun j hj=>by
   have:=FW j hj
   rwa [show ps.length-1-k+1=ps.length-k by lia] at this
  dsimp only [cW];refine aF fun _ hR=>⟨_,rfl,_,rfl,ot,_,_,_,rfl,rfl,.of (off oc _ _ la.1),cy hp,ls p,rfl,⟨_,.of (off oc _ _ (la.2 p hp))⟩,?_⟩;refine mF (K:=K) (a:=ls p) (xs:=az (g p)) (fun l σ Hd=>∃(lv:Nat→V) (v7:Option V),σ=[some (.ref z),some (.ref wk),some (.ref ot),some (.ref d),some (.ref e),some (.ref r),some (.int (p:Int)),v7]∧aX r H Hd∧dy Hd r n lv∧aO X Hd q (lv p) (Sw p l) (Rw p l)∧∀i,i<n→i≠p→aO X Hd q (lv i) (if i∈ps.take (ps.length-k) then A i else x i) (if i∈ps.take (ps.length-k) then B i else y i)) ⟨lv,_,rfl,oc,er,?_,fun i hi _=>Fc i hi⟩ (fun l σ Hd _ ⟨_,_,_,od,_⟩=>.of (off od _ _ (la.2 p hp))) ?_ ?_
  ·have:=Fc p hp
   rw [ak (by rw [ts];simp),ak (by rw [ts];simp)] at this
   exact (this.eq hq (rp.s0 p pm) (rp.Et p pm 0)).bd (rp.bd.1 p pm 0 (b_ _)).1 (rp.bd.1 p pm 0 (b_ _)).2
  ·clear Fc er oc
   rintro l v σ Hd hx ⟨lv,v7,rfl,od,er,wp,Fd⟩;obtain ⟨j,hj,rfl⟩:=int_at hx;have jm:=fZ hj;have ll:=(bQ.mp hj).1;obtain ⟨fv,jp⟩:=hg j jm;have wj:=Fd j fv jp;rw [aj (gt j jm),aj (gt j jm)] at wj;have sd:af H Hd:=off od;have wt:=(hF p j hp fv).mono sd;have gU:=sd _ _ hz;dsimp only [cW];refine aY ⟨_,rfl,z,dz,_,rfl,gU,jV (by decide +kernel),_,rfl,_,rfl,r,_,_,_,rfl,rfl,.of er,cy hp,_,rfl,z,dz,_,rfl,gU,jV (by decide +kernel),_,rfl,_,rfl,wk,_,_,_,rfl,rfl,.of (sd _ _ hW.lst),cy hp,_,rfl,rs p,_,_,_,rfl,rfl,.of (sd _ _ (hW.at' p hp)),cy fv,_,rfl,_,rfl,r,_,_,_,rfl,rfl,.of er,cy fv,?_⟩
   dsimp only [gg];show kW t.bC (fun x m y n=>x*y) (fun i j=>i*j) [.ref z,vf p j,lv j] _ _ _;refine Em (Y':=(Tw p j*x j).natAbs+(U p j*y j).natAbs) ⟨dz,gU⟩ hq wt wj iQ iQ (fR hq (yN p j hp fv) (rp.Eu j)) (by lia) (by lia) fun v1 H2 s2 w1=>?_
   have w1:aO (X*X) H2 q v1 (Tw p j*x j) (U p j*y j):=w1.bd (by rw [gv];exact gZ (hB p j hp fv).1 (rp.bd.2 j).1) (by rw [gv];exact gZ (hB p j hp fv).2 (rp.bd.2 j).2)
   show kW t.bC (fun x m y n=>x*n-y*m) (fun i j=>i-j) [.ref z,lv p,v1] _ _ _;refine El (Y':=(Sw p l*(U p j*y j)-Tw p j*x j*Rw p l).natAbs+(Rw p l*(U p j*y j)).natAbs) ⟨dz,s2 _ _ gU⟩ hq (wp.mono s2) w1 iQ XX (fR hq (rp.Et p pm l) (fR hq (yN p j hp fv) (rp.Eu j))) (by lia) (by lia) fun v2 H3 s3 w2=>?_
   have w2:=(w2.eq hq (rp.x8 p pm l j hj) (rp.Et p pm (l+1))).bd (rp.bd.1 p pm (l+1) ll).1 (rp.bd.1 p pm (l+1) ll).2;have rR:=s2.trans s3;have k8:=rR _ _ er;refine ⟨_,rfl,_,rfl,r,_,_,p,rfl,rfl,k8,by rw [aJ,dc];exact jX hp,?_⟩
   refine ⟨fun i=>if i=p then v2 else lv i,_,rfl,fun b u ne e=>by rw [aK ne];exact rR _ _ (od b u ne e),by unfold dy;rw [aA,map_set],by dsimp only;rw [ak rfl];exact w2.put k8,fun i hi ip=>?_⟩
   dsimp only;rw [aj ip];exact ((Fd i hi ip).mono rR).put k8
  ·rintro σ Hd ⟨lv,v7,rfl,od,er,wp,Fd⟩
   have ll:(az (g p)).length=(g p).length:=aJ _;rw [ll] at wp;refine hR _ _ ?_;have sd:af H Hd:=off od;have wt:=(hF p p hp hp).mono sd;have gU:=sd _ _ hz;refine aY ⟨_,rfl,z,dz,_,rfl,gU,jV (by decide +kernel),_,rfl,_,rfl,r,_,_,_,rfl,rfl,.of er,cy hp,_,rfl,_,rfl,wk,_,_,_,rfl,rfl,.of (sd _ _ hW.lst),cy hp,_,rfl,rs p,_,_,_,rfl,rfl,.of (sd _ _ (hW.at' p hp)),cy hp,?_⟩
   dsimp only [gg];show Ab t.bC t.i6 [.ref z,lv p,vf p p] _ _ _;refine J2 (Y':=(Sw p (g p).length*U p p).natAbs+(Rw p (g p).length*Tw p p).natAbs) ⟨dz,gU⟩ hq wp wt iQ iQ (rp.mY p pm) (by lia) (by lia) fun v2 H3 s3 w2=>?_
   have w2:=(w2.eq hq (rp.fin p pm) (rp.Eu p)).bd (rp.bd.2 p).1 (rp.bd.2 p).2;have k8:=s3 _ _ er;refine ⟨_,rfl,_,rfl,r,_,_,p,rfl,rfl,k8,by rw [aJ,dc];exact jX hp,?_⟩
   refine ⟨fun i=>if i=p then v2 else lv i,_,_,rfl,fun b u ne e=>by rw [aK ne];exact s3 _ _ (od b u ne e),by unfold dy;rw [aA,map_set],fun i hi=>?_⟩
   rw [show ps.length-(k+1)=ps.length-1-k by lia]
   dsimp only;by_cases ip:i=p
   ·subst ip
    rw [ak rfl,aj pt,aj pt];exact w2.put k8
   ·have e3:i∈ps.take (ps.length-k)↔i∈ps.take (ps.length-1-k):=by rw [ts];simp [ip]
    have:=((Fd i hi ip).mono s3).put (o:=.lst (((List.range n).map lv).set p v2)) k8;simp only [e3] at this;rw [aj ip];exact this
 ·rintro σ Hc ⟨lv,v6,v7,rfl,oc,er,Fc⟩
  refine hR _ _ ?_;rw [t_] at Fc;refine ⟨_,rfl,kk r lv Hc (off oc) nr er fun i hi=>?_⟩;have:=Fc i hi;simpa using this
theorem XJ:bD ["world","work","others","order","many","start"] ["world","work","others","order","many"] (aP Bf):=bM
theorem XM(T:Txt K mg t):bh P w K mg base b5 6 t.qy t.uD ["world","work","others","order","many"] (Uo t.bC):=by
 have S:=XJ;have wc:=Fx (P:=P) (w:=w) (base:=base) T;obtain ⟨dv,we,oF⟩:=T.BY;refine T.vE.cm S (fun _ _ _ _ H _ _ _ hr h=>?_);obtain ⟨z,wk,ot,d,q,X,n,k,tt,L,o,M,D,rs,ls,vf,g,rfl,hw,hq,ki,hW,hF,la,dA,ed,ho,ht,it,gd,hD,zero,X1,gG,bd,b1,b2,kk⟩:=h;have lo:=cw ho;obtain ⟨dz,hz⟩:=id hw;have nv:=DY hq;have kl:k<o.length:=by rw [←it];exact (cT ((bF ho).mpr ht)).1
 have XN:o[k]=tt:=by have:=(cT ((bF ho).mpr ht)).2;simp only [it] at this;exact this
 have ln:(az o).length=n:=by unfold az;rw [aJ,lo]
 refine ⟨_,(aq (putL 5 S.nd (aB II (gA (aa (jP (pv 0) T.eG T.yv wc (hr.mono (by decide)) oF we lO (aa ah ae)) ae)) (cM gB rfl T.fL fN (aa (pv 3) ae))))
  (aq (@iu _ _ _ _ _ _ (jP (pv 0) T.eG T.yv wc (hr.mono (by decide)) oF we lO (aa ah ae)) (jh (pv 5) (ax b8 (pv 3) (aB jj (pv 4) ah)) set_list) (by rfl) (by rfl) (by rfl))
  (ay (ba (aI (Na T) hr T.Fg T.rC.kp T.Ff aM (aa (pv 0) (aa (pv 1) (aa (pv 2) (aa (PV P7 (pv 3) PQ (PR (aB jj (pv 4) ah))) (aa (pv 5) ae)))))))))),?_⟩
 refine aF fun _ hR=>aY ⟨_,rfl,z,dz,_,rfl,hz,jV (by decide +kernel),z,q,0,1,rfl,⟨dz,hz⟩,hq,fe.of_lt (by decide) (by decide),fun h=>absurd h nv,fun _ v0 H1 s1 XO=>?_⟩
 refine ⟨by show 1≤sizeLine;decide,fun l nl=>?_⟩
 have sl:af H1 (upd H1 l (.lst [v0])):=aS nl;have Nb:upd H1 l (.lst [v0]) l=some (.lst [v0]):=aA;have h0:=Ag (B:=X) (by lia) (XO.mono sl) hq (.inl rfl)
 generalize upd H1 l (.lst [v0])=H2 at sl Nb h0 ⊢;have s2:=s1.trans sl;refine ⟨_,rfl,d,_,rfl,.inl (.of (s2 _ _ ed)),?_⟩;rw [ln];refine ⟨l,(n:Int),[v0],rfl,rfl,Nb,by lia,by lia,?_,fun r nr=>hR _ _ ?_⟩
 ·rw [eJ]
  exact bE (show [v0].length*n≤40 by simp;exact ki) (by decide)
 rw [eJ,show (List.replicate n [v0]).flatten=(List.range n).map fun _=>v0 by
  refine fB (by simp) fun i h1 h2=>?_
  simp]
 have sr:af H2 (upd H2 r (.lst ((List.range n).map fun _=>v0))):=aS nr;have er:upd H2 r (.lst ((List.range n).map fun _=>v0)) r=some (.lst ((List.range n).map fun _=>v0)):=aA;generalize upd H2 r (.lst ((List.range n).map fun _=>v0))=H3 at sr er ⊢;have s3:=s2.trans sr;have XQ:H r=none:=none_of s2 nr;have Nc:=s3 _ _ hz;refine aF fun _ hR=>aY ⟨_,rfl,z,dz,_,rfl,Nc,jV (by decide +kernel),z,q,1,1,rfl,⟨dz,Nc⟩,hq,fe.of_lt (by decide) (by decide),fun h=>absurd h nv,fun _ v1 H4 s4 XR=>?_⟩
 have h1:=Ag (B:=X) (by lia) XR hq (.inr rfl)
 have FX:=s4 _ _ er;have ek:(az o)[k]?=some (.int (tt:Int)):=by unfold az;rw [cx,b6 kl,XN];rfl
 refine ⟨_,rfl,_,rfl,_,rfl,_,_,rfl,rfl,d,_,_,_,rfl,rfl,.of (s4 _ _ (s3 _ _ ed)),(by show iY (az o) ((k:Int)+1-1)=_;rw [show (k:Int)+1-1=(k:Int) by lia];exact iZ ek),r,_,_,tt,rfl,rfl,FX,by rw [aJ,dc];exact jX ht,hR _ _ ?_⟩
 have Nd:¬q∣ar M (cO o k):=iK hq gd;rw [map_set];have o5:∀b u,b≠r→H4 b=some u→upd H4 r (.lst ((List.range n).map fun j'=>if j'=tt then v1 else v0)) b=some u:=fun b u ne e=>by rw [aK ne];exact e
 have Nf:upd H4 r (.lst ((List.range n).map fun j'=>if j'=tt then v1 else v0)) r=some (.lst ((List.range n).map fun j'=>if j'=tt then v1 else v0)):=aA
 have w1:aO X (upd H4 r (.lst ((List.range n).map fun j'=>if j'=tt then v1 else v0))) q v1 (ar M (cO o k)) (ar M (cO o k)):=aO.put ⟨1,1,h1,by rw [nF,fW,mr];exact wY q,Nd⟩ FX
 have w0:aO X (upd H4 r (.lst ((List.range n).map fun j'=>if j'=tt then v1 else v0))) q v0 0 (ar M (cO o k)):=aO.put ⟨0,1,(h0.mono sr).mono s4,by rw [eY,eY,mr];exact wY q,Nd⟩ FX
 generalize upd H4 r (.lst ((List.range n).map fun j'=>if j'=tt then v1 else v0))=H5 at o5 Nf w1 w0 ⊢
 have s5:af H H5:=fun b u e=>o5 b u (fun zz=>by rw [zz,XQ] at e;cases e) (s4 _ _ (s3 _ _ e))
 refine iI ⟨_,rfl,_,rfl,_,rfl,_,rfl,_,rfl,_,_,rfl,rfl,_,rfl,d,_,rfl,.of (s5 _ _ ed),fun u nu=>?_⟩;have ec:pK (az o) none (some ((k:Int)+1-1))=az (o.take k):=by
  rw [show (k:Int)+1-1=(k:Int) by lia,Rb]
  unfold az;rw [wZ]
 rw [ec];have s6:af H5 (upd H5 u (.lst (az (o.take k)))):=aS nu;have eu:upd H5 u (.lst (az (o.take k))) u=some (.lst (az (o.take k))):=aA;generalize upd H5 u (.lst (az (o.take k)))=H6 at s6 eu ⊢;have rV:=s5.trans s6;have lt:∀{p},p∈o.take k→p<n∧o.idxOf p<k:=fun{p} hp=>(tO ho).mp hp;refine ⟨_,rfl,z,wk,ot,u,r,q,X,n,o.take k,sT M D o k,sU M D o k,rs,ls,vf,g,fun j'=>if j'=tt then v1 else v0,fun i=>if i=tt then ar M (cO o k) else 0,fun _=>ar M (cO o k),bN M o k tt,fun _=>ar M (cO o k),mS M o g k tt,fun p _=>D p*ar M (cO o (o.idxOf p))*ar M (cO o k),rfl,⟨dz,rV _ _ hz⟩,hq,ki,hW.mono rV,fun i j hi hj=>(hF i j hi hj).mono rV,fun i j _ _=>bd k i j (by lia),⟨rV _ _ la.1,fun p hp=>rV _ _ (la.2 p hp)⟩,eu,(wI k o).nodup (fk ho),fun p hp=>⟨(lt hp).1,fun j hj=>⟨(dA p (lt hp).1).1.lt j hj,fun zz=>by have:=(dA p (lt hp).1).1.la j hj;rw [zz] at this;lia⟩⟩,fun k' p dR j hj zz=>?_,s6 _ _ Nf,fun i hi=>?_,X1,gG,Um hq ho ht it gd hD zero dA b1 b2,fun r' lv H7 s7 XS XT F7=>kk r' lv H7 (rV.trans s7) (none_of rV XS) XT F7⟩
 ·have pm:=fZ dR
  have FY:=(bQ.mp dR).1;have e1:o[k']?=some p:=by
   rw [kr] at FY;rw [List.getElem?_take,ak (by lia)] at dR
   exact dR
  have ip:o.idxOf p=k':=by
   have:=hV (fk ho) (bQ.mp e1).1
   rwa [(bQ.mp e1).2] at this
  have XU:=(dA p (lt pm).1).1.la j hj;have jt:j∈o.take (k'+1):=by rw [List.take_take] at zz;exact (CV (Nat.min_le_left _ _)).subset zz
  have:=((tO ho).mp jt).2;lia
 ·dsimp only
  by_cases e:i=tt
  ·rw [ak e,ak e]
   exact w1.mono s6
  ·rw [aj e,aj e]
   exact w0.mono s6
def XW(N:Addr):Sp:=fun vs H Q E=>∃(n:Nat) (a:Addr) (xs:List V),vs=[.int (n:Int),.ref a]∧H a=some (.lst xs)∧(xs.length≠n→E (.ref N) none H)∧(xs.length=n→Q .aV H)
theorem XY:bD ["n","aim"] ["n","aim"] (aP AX):=bM
theorem XZ(T:Txt K mg t):bh P w K mg base (dX P w) 1 t.qd t.uc ["n","aim"] (XW t.me):=by
 have S:=XY;refine T.vk.fI S (fun _ _ _ _ H _ _ _ hr h L=>?_);obtain ⟨n,a,xs,rfl,ea,kE,k⟩:=h;refine ⟨_,(ay (cu (bR jk (cM gB rfl T.fL fN (aa (pv 1) ae)) (pv 0)) (ay (nY L rfl nJ T.B7 rfl T.B3 (aa eN ae))) cH)),?_⟩;refine ⟨_,rfl,a,xs,rfl,.inl (.of ea),_,rfl,rfl,_,rfl,cS (fun e_=>?_) (fun e_=>?_)⟩
 ·have e_:xs.length≠n:=fun z=>by
   have:(xs.length:Int)=(n:Int):=by lia
   rw [jU,da this] at e_;cases e_
  exact ⟨by show 1≤sizeLine;decide,kE e_⟩
 ·have heq:xs.length=n:=by
   by_cases z:(xs.length:Int)=(n:Int);·lia
   ·exact absurd (by rw [jU,cJ z];rfl) e_
  exact k heq
theorem X0:bD ["world","table","order","aim","told","work","others","answer"] ["world","table","order","aim"] (aP Bg):=bM
theorem Ck(T:Txt K mg t):bh P w K mg base b5 9 t.qz t.uE ["world","table","order","aim"] (Ka t.bC):=by
 have S:=X0;refine T.ng.cm S (fun _ _ _ _ H _ _ _ hr h=>?_);obtain ⟨z,a,d,e,q,B,X,n,au,o,M,D,av,rfl,hw,hq,hT,M8,ln,n1,ki,wd,ed,ho,dY,am,kS,kO⟩:=h;have i7:=hr.units;have lo:=cw ho
 refine ⟨_,(aq (kK (aI (XZ T) hr T.Lq T.vk.kp T.Lp lO (aa (cM gB rfl T.fL fN (aa (pv 1) ae)) (aa (pv 3) ae))))
  (aq (putL 4 S.nd (aI (Xw T) hr T.LQ T.vC.kp T.LP aM (aa (pv 0) (aa (pv 1) (aa (pv 2) ae)))))
  (aq (putL 5 S.nd (ax a_ (pv 4) ah))
  (aq (putL 6 S.nd (ax a_ (pv 4) ah))
  (aq (cu (bR OY (ax a_ (pv 4) ah) pz) (ay (ba (eO (aa eN (aa (ax a_ (pv 4) ah) (aa (aI (XM T) hr T.LV T.vE.kp T.LU aM (aa (pv 0) (aa (pv 5) (aa (pv 6) (aa (pv 2) (aa (ax a_ (pv 4) ah) ae)))))) ae)))))) cH)
  (aq (putL 7 S.nd (aI (Na T) hr T.Fg T.rC.kp T.Ff aM (aa (pv 0) (aa (pv 5) (aa (pv 6) (aa (pv 2) (aa (aI (XG T) hr T.LS T.vD.kp T.LR aM (aa (pv 0) (aa (pv 5) (aa (pv 6) (aa (pv 2) (aa (pv 3) ae)))))) ae)))))))
  (ay (ba (eO (aa eN (aa (pv 7) (aa (cM (RI (K:=K) rfl) rfl T.MI boot_sum (aa (gQ (N:=["each"]) (ρ:=(fun σ=>[])) (eA [] rfl) rfl (fD (pv 6)) (fun _ _ _=>.nil) (fun _ _ _=>(aI (Xe T) hr T.LM T.vA.kp T.LL aM (aa (cM (DW (K:=K)) rfl T.fL fN (aa (pv 0) ae)) ae)))) ae)) ae)))))))))))),?_⟩
 obtain ⟨Ng,ea,lvT,_⟩:=id hT;have zero:∀a' b',a'<n→b'<n→a'≠b'→¬aL n (b7 n (bf au) n) a' b'→M a' b'=0:=fun a' b' ha hb ab na=>dY.zero a' b' ha hb (J7 ha hb ab na);have gl:∀{g:Nat→List Nat},(∀p,p<n→dO n o p (g p)∧dD n (b7 n (bf au) n) o p (g p))→∀p,p<n→(g p).length≤n:=fun{g} dA p hp=>bE (Tz ho (dA p hp).1) (by lia)
 refine aF fun _ hR=>⟨_,rfl,a,Ng,rfl,.inl (.of ea),_,rfl,Ng.length,e,_,rfl,am.row,fun ne=>absurd (by rw [aJ,dc];lia) ne,fun _=>hR _ _ ?_⟩
 refine aF fun _ hR=>aY ⟨_,rfl,_,rfl,_,rfl,z,a,d,q,B,X,n,au,o,M,D,rfl,hw,hq,hT,M8,ln,n1,ki,wd,ed,ho,dY,fun k hk gd dv tp wk ot H1 rs ls vf g s1 eV pk=>hR _ _ ?_,fun gd tp wk ot H1 rs ls vf g s1 eV pk=>hR _ _ ?_⟩
 ·clear hR
  have ht:o[k]<n:=(bF ho).mp (dj hk);have it:o.idxOf o[k]=k:=hV (fk ho) hk;obtain ⟨dz,hz⟩:=id hw;refine aF fun _ hR=>aY ⟨_,rfl,tp,_,_,_,rfl,rfl,.of eV,rfl,hR _ _ ?_⟩;refine aF fun _ hR=>aY ⟨_,rfl,tp,_,_,_,rfl,rfl,.of eV,rfl,hR _ _ ?_⟩;refine aF fun _ hR=>⟨_,rfl,tp,_,_,_,rfl,rfl,.of eV,rfl,rfl,true,by simp,e9 (iI ⟨_,rfl,tp,_,_,_,rfl,rfl,.of eV,rfl,_,rfl,_,rfl,_,rfl,_,rfl,_,rfl,tp,_,_,_,rfl,rfl,.of eV,rfl,z,wk,ot,d,q,X,n,k,o[k],b7 n (bf au) n,o,M,D,rs,ls,vf,g,rfl,⟨dz,s1 _ _ hz⟩,hq,ki,pk.tab,pk.oz,pk.dQ,pk.ok,s1 _ _ ed,ho,ht,it,gd,dY.dn,zero,dY.X1,dY.gG,dY.bd,fun p l hp hl=>am.bt g (gl pk.ok) k o[k] p l (by lia) hp hl,fun p=>am.bm k o[k] p (by lia),fun r lv H2 s2 nr er F2=>⟨by show 3≤sizeLine;decide,fun FZ nk=>?_⟩⟩)⟩
  have dB:=s1.trans s2;exact kS k hk gd dv FZ r lv _ (dB.trans (aS nk)) (none_of s1 nr) (none_of dB nk) aA ((aS nk) _ _ er) fun i hi=>(F2 i hi).mono (aS nk)
 ·clear hR
  obtain ⟨dz,hz⟩:=id hw;refine aF fun _ hR=>aY ⟨_,rfl,tp,_,_,_,rfl,rfl,.of eV,rfl,hR _ _ ?_⟩;refine aF fun _ hR=>aY ⟨_,rfl,tp,_,_,_,rfl,rfl,.of eV,rfl,hR _ _ ?_⟩;refine aF fun _ hR=>⟨_,rfl,tp,_,_,_,rfl,rfl,.of eV,rfl,rfl,false,by simp,cR (hR _ _ ?_)⟩
  refine aF fun _ hR=>aY ⟨_,rfl,_,rfl,_,rfl,_,rfl,_,rfl,_,rfl,_,rfl,_,rfl,_,rfl,z,wk,ot,d,e,q,X,n,b7 n (bf au) n,o,M,D,rs,ls,vf,g,av,rfl,⟨dz,s1 _ _ hz⟩,hq,n1,ki,pk.tab,pk.oz,pk.dQ,pk.ok,s1 _ _ ed,ho,s1 _ _ am.row,fun i hi=>(am.oz i hi).mono s1,gd,dY.dn,zero,dY.X1,dY.gG,dY.bd,am.bl,fun r1 X3 H2 s2 nr1 X4 F1=>?_⟩;refine ⟨z,wk,ot,d,r1,q,X,n,o,sT M D o n,sU M D o n,rs,ls,vf,g,X3,sL M o n n,sW M D o n,cg M (cO o n) n,fun _=>ar M (cO o n),rS M o g (cO o n) n fun _=>ar M (cO o n),fun p _=>D p*ar M (cO o (o.idxOf p))*ar M (cO o n),rfl,⟨dz,s2 _ _ (s1 _ _ hz)⟩,hq,ki,pk.tab.mono s2,fun i j hi hj=>(pk.oz i j hi hj).mono s2,fun i j _ _=>dY.bd n i j (aG _),⟨s2 _ _ pk.dQ.1,fun p hp=>s2 _ _ (pk.dQ.2 p hp)⟩,s2 _ _ (s1 _ _ ed),fk ho,fun p hp=>⟨(bF ho).mp hp,fun j hj=>⟨(pk.ok p ((bF ho).mp hp)).1.lt j hj,fun zz=>by have:=(pk.ok p ((bF ho).mp hp)).1.la j hj;rw [zz] at this;lia⟩⟩,fun k' p dR j hj zz=>?_,X4,F1,dY.X1,dY.gG,Ui hq ho gd dY.dn zero pk.ok (fun p l hp hl=>am.bo g (gl pk.ok) p l hp hl) am.bc,fun r lv H3 s3 nr er F3=>hR _ _ ?_⟩
  ·have FY:=(bQ.mp dR).1
   have ip:o.idxOf p=k':=by
    have:=hV (fk ho) FY
    rwa [(bQ.mp dR).2] at this
   have pn:p<n:=(bF ho).mp (fZ dR);have XU:=(pk.ok p pn).1.la j hj;have:=((tO ho).mp zz).2;lia
  ·have mi:=s1.trans (s2.trans s3)
   have F0:tL H3 ot n ls g:=⟨s3 _ _ (s2 _ _ pk.dQ.1),fun p hp=>s3 _ _ (s2 _ _ (pk.dQ.2 p hp))⟩;have cq:((List.range n).map fun p=>V.ref (ls p)).length=n:=by rw [aJ,dc]
   refine iI ⟨_,rfl,?_⟩;dsimp only;refine Up (jW (xs:=(List.range n).map fun p=>V.ref (ls p)) (fun R h=>⟨_,rfl,ot,rfl,⟨_,.of F0.1⟩,h _ _ (af.refl _) (ju (.of F0.1))⟩) (by rw [cq];exact cN (by lia)) (fun _ i y _=>y=.int (((g i).length:Int)*(g i).length+3*(g i).length+1)) (fun _ _ _ _ _ _ h _ _=>h) ?_ ?_)
   ·intro D' k x hx Hc R sc _ kc
    have hk:k<n:=by
     have:=(bQ.mp hx).1
     rwa [cq] at this
    have ex:x=.ref (ls k):=by rw [cx,ku hk] at hx;exact (Option.some.inj hx).symm
    subst ex;have lg:=gl pk.ok k hk;refine ⟨_,rfl,ls k,_,rfl,.inl (.of (sc _ _ (F0.2 k hk))),(g k).length,by rw [aJ];rfl,by lia,kc _ Hc (af.refl _) rfl⟩
   ·intro D' ys Hc nD' sc cz dE X5
    rw [cq] at cz;have ey:ys=((List.range n).map fun i=>((g i).length:Int)*(g i).length+3*(g i).length+1).map V.int:=by
     refine fB (by simp [cz]) fun i h1 h2=>?_
     rw [d8,d8,ig];exact dE i _ (b6 h1)
    have es:((List.range n).map fun i=>((g i).length:Int)*(g i).length+3*(g i).length+1).sum=((gF n g:Nat):Int):=by
     unfold gF oy;generalize List.range n=l;clear ey dE cz
     induction l with
     | nil=>rfl
     | cons x l ih=>rw [cG,cK,cG,cK,ih];push_cast;rfl
    refine ⟨D',_,rfl,.of (by rw [X5,ey]),?_⟩
    rw [es];refine ⟨by show 3≤sizeLine;decide,fun FZ nk=>?_⟩
    have yK:=mi.trans sc;exact kO gd FZ r lv g _ (yK.trans (aS nk)) (none_of (s1.trans s2) nr) (none_of yK nk) pk.ok aA ((aS nk) _ _ (sc _ _ er)) fun i hi=>((F3 i hi).mono sc).mono (aS nk)
theorem X6:bD ["one","other"] ["one","other"] (aP Bt):=bM
theorem X7(T:Txt K mg t):bh P w K mg base b5 1 t.qM t.uT ["one","other"] Ux:=by
 have S:=X6;refine T.vN.cm S (fun _ _ _ _ H _ _ _ hr h=>?_);obtain ⟨a,b,rfl,k⟩:=h
 refine ⟨_,(aq (sA dU (bR jk (pv 1) ah) (ay (zE (i:=0) (j:=1) rfl S.nd rfl rfl (by decide) rfl rfl (aa (pv 1) (aa (aB OW (pv 0) (pv 1)) ae)) rfl)))
  (ay (ba (cM Dl rfl T.B4 boot_abs (aa (pv 0) ae))))),?_⟩
 refine mR ⟨fun m σ H'=>H'=H∧∃(x y:Int),σ=[some (.int x),some (.int y)]∧m=y.natAbs∧Int.gcd x y=Int.gcd a b,⟨b.natAbs,rfl,a,b,rfl,rfl,rfl⟩,?_⟩;rintro m σ H' ⟨rfl,x,y,rfl,em,hg⟩;refine ⟨_,rfl,rfl,_,rfl,cS (fun hy=>?_) (fun hy=>?_)⟩
 ·have hy:y≠0:=fun z=>by subst z;revert hy;decide
  refine ⟨fun σ' H2=>H2=H'∧σ'=[some (.int y),some (.int (x.fmod y))],?_,?_⟩
  ·rintro σ' H2 ⟨rfl,rfl⟩
   exact ⟨(x.fmod y).natAbs,by rw [em];exact Uw hy,rfl,y,x.fmod y,rfl,rfl,by rw [Kk];exact hg⟩
  ·exact ⟨_,rfl,_,rfl,_,rfl,_,_,rfl,rfl,hy,_,_,rfl,rfl,rfl⟩
 ·have y0:y=0:=by
   by_cases z:y=0;·exact z
   ·refine absurd ?_ hy
    rw [jU,cJ z];rfl
  subst y0;rw [Int.gcd_zero_right] at hg;refine ⟨_,rfl,x,rfl,?_⟩;rw [DO,hg];exact k
theorem X8:bD ["number","p","one","other","left","right","part"] ["number","p"] (aP Bu):=bM
theorem X9(T:Txt K mg t):bh P w K mg base b5 1 t.qN t.uU ["number","p"] Uy:=by
 have S:=X8;refine T.vO.cm S (fun _ _ _ _ H _ _ _ hr h=>?_);obtain ⟨c,p,rfl,p2,Nh,hp,nc,k⟩:=h;have pp:0<p:=by lia
 have m0:=gY c (show p≠0 by lia)
 have m1:=h_ c pp;have md:p∣c-c % p:=⟨c / p,by have:=zh c p;lia⟩
 have mz:1≤c % p:=by have:c % p≠0:=fun z=>nc (CS z);lia
 have g0:Int.gcd (c % p) p=1:=by rw [Int.gcd_comm];exact DQ p2 Nh hp mz m1
 refine ⟨_,(aq (zE (i:=2) (j:=3) rfl S.nd rfl rfl (by decide) rfl rfl (aa (aB gO (pv 0) (pv 1)) (aa (pv 1) ae)) rfl)
  (aq (@iu _ _ _ _ _ _ (eO (aa ah (aa ah ae))) (su rfl (iW (cX (i:=4) S.nd rfl (Or.inl rfl)) (iW (cX (i:=5) S.nd rfl (Or.inl rfl)) sq))) (by rfl) (by rfl) (by rfl))
  (aq (sA dU (bR jk (pv 3) ah) (aq (putL 6 S.nd (aB zI (pv 2) (pv 3)))
  (aq (zE (i:=2) (j:=3) rfl S.nd rfl rfl (by decide) rfl rfl (aa (pv 3) (aa (aB jj (pv 2) (aB gz (pv 6) (pv 3))) ae)) rfl)
  (ay (zE (i:=4) (j:=5) rfl S.nd rfl rfl (by decide) rfl rfl (aa (pv 5) (aa (aB jj (pv 4) (aB gz (pv 6) (pv 5))) ae)) rfl)))))
  (ay (ba (aB gO (pv 4) (pv 1))))))),?_⟩
 refine aF fun _ hR=>⟨_,rfl,_,rfl,_,_,rfl,rfl,pp,_,rfl,_,_,rfl,hR _ _ ?_⟩;refine aF fun _ hR=>aY ⟨by show 2≤sizeLine;decide,fun tq Cm=>⟨tq,_,rfl,.of aA,rfl,_,_,rfl,_,_,rfl,rfl,hR _ _ ?_⟩⟩
 have s1:af H (upd H tq (.tup [.int 1,.int 0])):=aS Cm;generalize upd H tq (.tup [.int 1,.int 0])=H1 at s1 ⊢;refine aF fun _ hR=>⟨fun m σ H'=>H'=H1∧∃(x y l r:Int) (v6:Option V),σ=[some (.int c),some (.int p),some (.int x),some (.int y),some (.int l),some (.int r),v6]∧m=y.natAbs∧0≤x∧x≤997∧0≤y∧y≤997∧p∣l*c-x∧p∣r*c-y∧Int.gcd x y=1,⟨_,rfl,c % p,p,1,0,_,rfl,rfl,m0,by lia,by lia,Nh,by rw [nF];exact md,by rw [eY,oT];exact Int.dvd_neg.mpr (jb p),g0⟩,?_⟩
 rintro m σ H' ⟨rfl,x,y,l,r,v6,rfl,em,x0,x1,y0,y1,hl,v_,hg⟩;refine ⟨_,rfl,rfl,_,rfl,cS (fun hy=>?_) (fun hy=>?_)⟩
 ·have hy:y≠0:=fun z=>by subst z;revert hy;decide
  have yp:0<y:=by lia
  have dm:=zh x y;have e0:=gY x hy;have e1:=h_ x yp;have d0:0≤x / y:=zp x0 y0;have d1:x / y≤997:=Int.le_trans (Int.ediv_le_self _ x0) x1;have ex:x-x / y*y=x % y:=by rw [dM];lia
  refine ⟨fun σ' H2=>H2=H'∧σ'=[some (.int c),some (.int p),some (.int y),some (.int (x-x / y*y)),some (.int r),some (.int (l-x / y*r)),some (.int (x / y))],?_,?_⟩
  ·rintro σ' H2 ⟨rfl,rfl⟩
   refine ⟨(x % y).natAbs,by lia,rfl,y,x-x / y*y,r,l-x / y*r,_,rfl,by rw [ex],y0,y1,by lia,by lia,v_,?_,?_⟩
   ·obtain ⟨a1,b1⟩:=hl
    obtain ⟨a2,b2⟩:=v_;exact ⟨a1-x / y*a2,by grind⟩
   ·rw [ex]
    have:=Kk x y;rw [Int.fmod_eq_emod,ak (.inl y0),Int.add_zero] at this;rw [this];exact hg
  ·refine aF fun _ hR=>aY ⟨_,rfl,_,rfl,_,_,rfl,rfl,⟨yp,by lia⟩,hR _ _ ?_⟩
   refine aF fun _ hR=>⟨_,rfl,_,rfl,_,rfl,_,rfl,_,_,rfl,rfl,.inl ⟨by lia,by lia⟩,_,_,rfl,rfl,_,_,rfl,hR _ _ ?_⟩
   exact ⟨_,rfl,_,rfl,_,rfl,_,rfl,_,_,rfl,rfl,.inl ⟨by lia,by lia⟩,_,_,rfl,rfl,_,_,rfl,rfl,rfl⟩
 ·have y0:y=0:=by
   by_cases z:y=0;·exact z
   ·refine absurd ?_ hy
    rw [jU,cJ z];rfl
  subst y0;rw [Int.gcd_zero_right] at hg;have x1:x=1:=by lia
  subst x1;refine hR _ _ ?_;refine ⟨_,rfl,_,rfl,_,_,rfl,rfl,pp,k _ _ s1 (gY _ (by lia)) (h_ _ pp) ?_⟩
  have:=zh l p;obtain ⟨a1,b1⟩:=hl;exact ⟨a1-l / p*c,by grind⟩
theorem X_:bD ["told","top","bottom","sign","shared"] ["told","top","bottom"] (aP Bv):=bM
theorem F5(T:Txt K mg t):bh P w K mg base b5 2 t.qO t.uV ["told","top","bottom"] Uz:=by
 have S:=X_;refine T.oJ.cm S (fun _ _ _ _ H _ _ _ hr h=>?_);obtain ⟨td,q,a,b,Y,rfl,tw,hq,nb,bA,bB,bY,k⟩:=h
 refine ⟨_,(aq (cu (bR fE (ax a_ (pv 0) ah) eN) (ay (ba (aB gO (aB gz (pv 1) (aI (X9 T) hr T.Mg T.vO.kp T.Mf aM (aa (pv 2) (aa (ax a_ (pv 0) ah) ae)))) (ax a_ (pv 0) ah)))) cH)
  (aq (putL 3 S.nd (aB jj ah (aB gz ah (lN Dm rfl T.yB boot_int (aa (nV sG (pv 2) ah) ae)))))
  (aq (putL 4 S.nd (aI (X7 T) hr T.Me T.vN.kp T.Md aM (aa (pv 1) (aa (pv 2) ae))))
  (ay (ba (eO (aa (aB z7 (aB gz (pv 3) (pv 1)) (pv 4)) (aa (aB z7 (aB gz (pv 3) (pv 2)) (pv 4)) ae)))))))),?_⟩
 rcases tw with ⟨rfl,tw⟩ | ⟨qn,tw⟩
 ·have b0:b≠0:=fun z=>nb (by rw [z];exact jb 0)
  refine aF fun _ hR=>⟨_,rfl,td,_,_,_,rfl,rfl,.of tw,rfl,rfl,false,by decide +kernel,cR (hR _ _ ?_)⟩
  have gp:0<Int.gcd a b:=Int.gcd_pos_of_ne_zero_right a b0;have Ya:Int.gcd a b≤b.natAbs:=Nat.le_of_dvd (by lia) (Int.ofNat_dvd.mp (by rw [Int.dvd_natAbs];exact jI a b))
  have cd:DI 0 (Int.gcd a b:Int):=⟨by lia,by show (Int.gcd a b:Int).natAbs<2 ^ 2048;rw [wN];exact jH (bE Ya (bE bB bY)) (by decide +kernel)⟩
  obtain ⟨sg,F8⟩:∃sg:Int,sg=if b<0 then -1 else 1:=⟨_,rfl⟩
  have sg1:sg=1∨sg=-1:=by rw [F8];split <;> simp
  refine aF fun _ hR=>aY ⟨_,rfl,_,_,rfl,rfl,.inr ⟨decide (b<0),rfl,_,_,rfl,rfl,.inl ⟨by decide,by decide⟩,_,_,rfl,rfl,hR _ _ ?_⟩⟩
  rw [show (fun i j=>V.int (i-j)) 1 (2*if decide (b<0)=true then 1 else 0)=V.int sg by
   show V.int _=_;rw [F8];by_cases h:b<0;·rw [ak (da h),ak h];rfl
   ·rw [aj (by simpa using h),aj h];rfl]
  refine aF fun _ hR=>aY ⟨_,rfl,_,rfl,a,b,rfl,hR _ _ ?_⟩;obtain ⟨lw,le⟩:=UA (a:=a) b0 sg F8;refine iI ⟨_,rfl,_,rfl,_,_,rfl,rfl,.inl ⟨by lia,by lia⟩,_,rfl,_,_,rfl,rfl,cd,_,rfl,_,rfl,_,_,rfl,rfl,.inl ⟨by lia,by lia⟩,_,rfl,_,_,rfl,rfl,cd,by show 2≤sizeLine;decide,fun tp eF=>k _ _ (aS eF) ?_⟩
  have W:aO (((sg*a).fdiv (Int.gcd a b:Int)).natAbs+((sg*b).fdiv (Int.gcd a b:Int)).natAbs) (upd H tp (.tup [.int ((sg*a).fdiv (Int.gcd a b:Int)),.int ((sg*b).fdiv (Int.gcd a b:Int))])) 0 (.ref tp) a b:=⟨_,_,.bU aA lw (by lia) (by lia),by rw [le,mr];exact jb 0,nb⟩
  exact W.bd bA bB
 ·have fG:2≤q∧q≤997∧hJ q=true:=by rcases hq with h | h;exact absurd h qn;exact h
  have qp:0<q:=by lia
  refine aF fun _ hR=>⟨_,rfl,td,_,_,_,rfl,rfl,.of tw,rfl,rfl,true,by decide +kernel,e9 ?_⟩
  refine ⟨_,rfl,_,rfl,_,rfl,td,_,_,_,rfl,rfl,.of tw,rfl,b,q,rfl,fG.1,fG.2.1,fG.2.2,nb,fun r H1 s1 r0 r1 rd=>?_⟩;refine ⟨_,_,rfl,rfl,.inr ⟨by lia,by lia⟩,_,rfl,td,_,_,_,rfl,rfl,.of (s1 _ _ tw),rfl,_,_,rfl,rfl,qp,k _ _ s1 ⟨_,1,.rem (gY _ (by lia)) (h_ _ qp) fG.2.1,?_,nb⟩⟩
  have c:Cg q (a*r % q*b) (a*r*b):=(DZ q _).mulR b;have c2:Cg q (a*r*b) (a*1):=(Cg.of_eq (show a*r*b=a*(r*b) by grind)).trans (Cg.mulL a rd)
  exact c.trans c2
theorem Yb:bD ["told"] ["told"] (aP By):=bM
theorem yP(T:Txt K mg t):bh P w K mg base b5 3 t.qR t.uY ["told"] Kl:=by have S:=Yb;refine T.mh.cm S (fun _ _ _ s H _ _ _ hr h=>?_);obtain ⟨td,q,rfl,tw,hq,k⟩:=h;refine ⟨_,(ay (ba (aI (F5 T) hr T.BU T.oJ.kp T.BS aM (aa (pv 0) (aa ah (aa ah ae)))))),?_⟩;exact ⟨_,rfl,td,q,0,1,1000,rfl,tw,hq,xT hq,by decide,by decide,by decide +kernel,fun v H' s w=>k v H' s (UB hq w (by decide))⟩
theorem Yc:bD ["script","k"] ["script","k"] (aP Bq):=bM
theorem Yd(T:Txt K mg t):bh P w K mg base b5 1 t.qJ t.uQ ["script","k"] (TR K):=by
 have S:=Yc;refine T.vM.cm S (fun _ _ _ _ H _ _ _ hr h=>?_);obtain ⟨a,ns,k,rfl,hS,kk⟩:=h
 refine ⟨_,(aq (cu (bR sG (pv 1) (cM gB rfl T.fL fN (aa (pv 0) ae))) (ay (ba (ax b8 (pv 0) (pv 1)))) cH)
  (ay (ba ah))),?_⟩
 refine aF fun _ hR=>⟨_,rfl,_,rfl,a,_,rfl,.inl hS,_,_,rfl,rfl,_,rfl,cS (fun hb=>?_) (fun hb=>hR _ _ (kk 0))⟩;have hb:=g6 hb;rw [aJ] at hb;have hk:k<ns.length:=by lia
 exact ⟨_,rfl,_,rfl,a,_,_,_,rfl,rfl,hS,iZ (by rw [cx,b6 hk];rfl),kk _⟩
theorem Ye:bD ["tape","many","found"] ["tape","many"] (aP Bs):=bM
theorem jE(T:Txt K mg t):bh P w K mg base b5 1 t.qL t.uS ["tape","many"] TV:=by
 have S:=Ye;refine T.gq.cm S (fun _ _ _ _ H _ _ _ hr h=>?_);obtain ⟨Tp,m,rfl,⟨x,e⟩,m1,m2,kk⟩:=h
 refine ⟨_,(aq (putL 2 S.nd (aB gO (ax b8 (pv 0) ah) (pv 1)))
  (aq (@iu _ _ _ _ _ _ (aB zI (ax b8 (pv 0) ah) (pv 1)) (jh (pv 0) ah set_list) (by rfl) (by rfl) (by rfl))
  (ay (ba (pv 2))))),?_⟩
 have p0:(0:Int)<(m:Int):=by lia
 refine aF fun _ hR=>aY ⟨_,rfl,Tp,_,_,_,rfl,rfl,.of e,rfl,_,rfl,_,_,rfl,rfl,p0,hR _ _ ?_⟩;refine aF fun _ hR=>⟨_,rfl,Tp,_,_,_,rfl,rfl,.of e,rfl,_,rfl,_,_,rfl,rfl,⟨p0,by lia⟩,_,rfl,Tp,_,0,0,rfl,rfl,e,rfl,hR _ _ ?_⟩
 have d0:=gY x (show (m:Int)≠0 by lia)
 have d1:=h_ x p0;obtain ⟨d,ed⟩:=w_ d0;refine ⟨_,rfl,?_⟩;dsimp only;rw [ed];exact kk d _ (by lia) aX.upd ⟨_,aA⟩
theorem Yf:bD ["script","k","cell","p","number","last","turn"] ["script","k"] (aP Br):=bM
theorem wo(T:Txt K mg t):bh P w K mg base b5 2 t.qK t.uR ["script","k"] (TU K):=by
 have S:=Yf;refine T.k7.cm S (fun _ _ _ _ H _ _ _ hr h=>?_);obtain ⟨a,ns,k,rfl,hS,k1,kk⟩:=h
 refine ⟨_,(aq (putL 2 S.nd (aI (Yd T) hr T.Mc T.vM.kp T.Mb aM (aa (pv 0) (aa (pv 1) ae))))
  (aq (cu (bR fE (aB gO (pv 2) ah) ah) (ay (ba (gA (aa (aB zI (pv 2) ah) ae)))) cH)
  (aq (putL 3 S.nd ah)
  (aq (putL 4 S.nd ah)
  (aq (putL 5 S.nd (aB gO (aB d_ (aB d_ (aB gz (aB gO (pv 2) (pv 3)) ah) (aB gz ah (pv 1))) ah) (pv 3)))
  (aq (fO dU rfl (gN rfl T.fM (aa ah ae)) (cX (i:=6) S.nd rfl (Or.inl rfl))
   (aq (putL 4 S.nd (aB d_ (aB gz (pv 4) (pv 3)) (pv 5)))
  (ay (putL 5 S.nd (aB gO (aB d_ (aB d_ (aB gz (pv 5) (pv 5)) (aB gz ah (pv 1))) (pv 6)) (pv 3))))))
  (ay (ba (gA (aa (pv 4) ae)))))))))),?_⟩
 have p2:(0:Int)<2:=by decide
 have pp:(0:Int)<2305843009213693951:=by decide
 refine aF fun _ hR=>aY ⟨_,rfl,_,rfl,a,ns,k,rfl,hS,fun z=>hR _ _ ?_⟩;refine aF fun _ hR=>⟨_,rfl,_,_,rfl,rfl,p2,rfl,_,rfl,cS (fun hb=>?_) (fun hb=>hR _ _ ?_)⟩
 ·refine ⟨_,rfl,_,_,rfl,rfl,⟨p2,by decide⟩,by show 1≤sizeLine;decide,fun Tp yQ=>?_⟩
  exact kk Tp _ (aS yQ) yQ ⟨_,aA⟩
 ·refine aF fun _ hR=>aY (hR _ _ ?_)
  refine aF fun _ hR=>aY (hR _ _ ?_);refine aF fun _ hR=>aY ⟨_,rfl,_,rfl,_,_,rfl,rfl,pp,_,_,rfl,rfl,.inr ⟨by decide,by decide⟩,_,rfl,_,_,rfl,rfl,.inl ⟨by decide,by decide⟩,_,_,rfl,rfl,_,_,rfl,rfl,_,rfl,_,_,rfl,rfl,pp,hR _ _ ?_⟩
  have l0:=gY (z % 2305843009213693951*48271+69621*(k:Int)+11) (show (2305843009213693951:Int)≠0 by decide)
  have l1:=h_ (z % 2305843009213693951*48271+69621*(k:Int)+11) pp;dsimp only;generalize (z % 2305843009213693951*48271+69621*(k:Int)+11) % 2305843009213693951=la at l0 l1 ⊢;refine aF fun _ hR=>⟨7,rfl,by decide,by decide,?_⟩
  refine sF (fun i σ Hc=>Hc=H∧∃(nu la:Int) (v6:Option V),σ=[some (.ref a),some (.int (k:Int)),some (.int z),some (.int 2305843009213693951),some (.int nu),some (.int la),v6]∧0≤la∧la<2305843009213693951) ⟨rfl,_,_,_,rfl,l0,l1⟩ ?_ ?_
  ·rintro i σ Hc hi ⟨rfl,nu,la,v6,rfl,l0,l1⟩
   dsimp only [cW];refine aF fun _ hR=>aY ⟨_,rfl,_,rfl,_,_,rfl,rfl,.inr ⟨by decide,by decide⟩,_,rfl,_,_,rfl,rfl,hR _ _ ?_⟩
   refine ⟨_,rfl,_,rfl,_,_,rfl,rfl,.inl ⟨by lia,by lia⟩,_,rfl,_,_,rfl,rfl,.inl ⟨by decide,by decide⟩,_,_,rfl,rfl,_,rfl,_,_,rfl,rfl,_,rfl,_,_,rfl,rfl,pp,?_⟩
   refine ⟨rfl,_,_,_,rfl,?_,?_⟩;·exact gY _ (by decide)
   ·exact h_ _ pp
  ·rintro σ Hc ⟨rfl,nu,la,v6,rfl,_,_⟩
   refine hR _ _ ?_;refine ⟨_,rfl,by show 1≤sizeLine;decide,fun Tp yQ=>?_⟩
   exact kk Tp _ (aS yQ) yQ ⟨_,aA⟩
theorem Yg:bD ["told","tape","top"] ["told","tape"] (aP Bx):=bM
theorem Cn(T:Txt K mg t):bh P w K mg base b5 3 t.qQ t.uX ["told","tape"] UC:=by
 have S:=Yg;refine T.nh.cm S (fun _ _ _ _ H _ _ _ hr h=>?_);obtain ⟨td,Tp,q,rfl,tw,hq,tc,k⟩:=h
 refine ⟨_,(aq (cu (PW.pt (pw_and (bR fE (ax a_ (pv 0) ah) eN) (pw_and1 (bR fE (aI (jE T) hr T.iP T.gq.kp T.iO aM (aa (pv 1) (aa ah ae))) ah)))) (ay (ba (aI (jE T) hr T.iP T.gq.kp T.iO aM (aa (pv 1) (aa (ax a_ (pv 0) ah) ae))))) cH)
  (aq (putL 2 S.nd (aB jj (aI (jE T) hr T.iP T.gq.kp T.iO aM (aa (pv 1) (aa ah ae))) ah))
  (aq (cu (bR fE (ax a_ (pv 0) ah) eN) (ay (ba (aB gO (pv 2) (ax a_ (pv 0) ah)))) cH)
  (ay (ba (aI (F5 T) hr T.BU T.oJ.kp T.BS aM (aa (pv 0) (aa (pv 2) (aa (ax b8 (gA (aa ah (aa ah (aa ah (aa ah (aa ah ae)))))) (aI (jE T) hr T.iP T.gq.kp T.iO aM (aa (pv 1) (aa ah ae)))) ae))))))))),?_⟩
 rcases id tw with ⟨q0,e0⟩ | ⟨qn,e0⟩
 ·refine aF fun _ hR=>⟨_,rfl,td,_,_,_,rfl,rfl,.of e0,rfl,rfl,false,by decide +kernel,cR (cR (hR _ _ ?_))⟩
  refine aF fun _ hR=>aY ⟨_,rfl,Tp,7,rfl,tc,by decide,by decide,fun d H1 d7 o1 t1=>⟨_,_,rfl,rfl,hR _ _ ?_⟩⟩
  have tw1:=tw.off o1 tc;obtain ⟨_,e1⟩ | ⟨qn,_⟩:=id tw1
  ·refine aF fun _ hR=>⟨_,rfl,td,_,_,_,rfl,rfl,.of e1,rfl,rfl,false,by decide +kernel,cR (hR _ _ ?_)⟩
   refine ⟨_,rfl,_,rfl,by show 5≤sizeLine;decide,fun l nl=>?_⟩
   have sl:af H1 (upd H1 l (.lst [.int 1,.int 1,.int 1,.int 2,.int 3])):=aS nl;have el:upd H1 l (.lst [.int 1,.int 1,.int 1,.int 2,.int 3]) l=some (.lst [.int 1,.int 1,.int 1,.int 2,.int 3]):=aA;have lT:l≠Tp:=t1.ne nl;generalize upd H1 l (.lst [.int 1,.int 1,.int 1,.int 2,.int 3])=H2 at sl el ⊢;have t2:=t1.mono sl;refine ⟨_,rfl,Tp,5,rfl,t2,by decide,by decide,fun j H3 j5 o3 t3=>?_⟩
   obtain ⟨b,eb,hb⟩:∃b:Int,iY [V.int 1,.int 1,.int 1,.int 2,.int 3] (j:Int)=some (.int b)∧(b=1∨b=2∨b=3):=by
    match j,j5 with
    | 0,_=>exact ⟨1,rfl,.inl rfl⟩
    | 1,_=>exact ⟨1,rfl,.inl rfl⟩
    | 2,_=>exact ⟨1,rfl,.inl rfl⟩
    | 3,_=>exact ⟨2,rfl,.inr (.inl rfl)⟩
    | 4,_=>exact ⟨3,rfl,.inr (.inr rfl)⟩
   have tw3:=(tw1.mono sl).off o3 t2;refine ⟨l,_,_,_,rfl,rfl,.of (o3 _ _ lT el),eb,td,q,(d:Int)-3,b,1000,rfl,tw3,hq,?_,by lia,by lia,by decide +kernel,fun v H4 s4 w4=>?_⟩
   ·rw [q0]
    intro z;have:=jc.mp z;lia
   ·obtain ⟨x,m,g1,g2,g3⟩:=Km w4 (by lia) (by lia) q0
    exact k v x m H4 (o1.trans ((aX.of sl).trans (o3.trans (aX.of s4)))) (t3.mono s4) g1 fun _=>⟨by lia,kz g3 (by rcases hb with rfl | rfl | rfl <;> decide)⟩
  ·exact absurd q0 qn
 ·have fG:2≤q∧q≤997∧hJ q=true:=by rcases hq with h | h;exact absurd h qn;exact h
  have qp:0<q:=by lia
  refine aF fun _ hR=>⟨_,rfl,td,_,_,_,rfl,rfl,.of e0,rfl,rfl,true,by decide +kernel,e9 ?_⟩
  refine ⟨_,rfl,Tp,4,rfl,tc,by decide,by decide,fun d H1 d4 o1 t1=>?_⟩
  have tw1:=tw.off o1 tc;obtain ⟨z,_⟩ | ⟨_,e1⟩:=id tw1;·exact absurd z qn
  refine ⟨rfl,_,rfl,cS (fun hb=>?_) (fun hb=>hR _ _ ?_)⟩
  ·refine ⟨_,rfl,_,rfl,td,_,_,_,rfl,rfl,.of e1,rfl,Tp,q.toNat,by show [V.ref Tp,V.int q]=_;rw [Int.toNat_of_nonneg (by lia)],t1,by lia,by lia,fun d2 H2 d2l o2 t2=>?_⟩
   exact k _ (d2:Int) 1 H2 (o1.trans o2) t2 (.rem (by lia) (by lia) fG.2.1) fun z=>absurd z qn
  ·refine aF fun _ hR=>aY ⟨_,rfl,Tp,7,rfl,t1,by decide,by decide,fun d2 H2 d7 o2 t2=>⟨_,_,rfl,rfl,hR _ _ ?_⟩⟩
   have tw2:=tw1.off o2 t1;obtain ⟨z,_⟩ | ⟨_,e2⟩:=id tw2;·exact absurd z qn
   refine aF fun _ hR=>⟨_,rfl,td,_,_,_,rfl,rfl,.of e2,rfl,rfl,true,by decide +kernel,e9 ?_⟩
   refine ⟨_,rfl,_,rfl,td,_,_,_,rfl,rfl,.of e2,rfl,_,_,rfl,rfl,qp,k _ _ 1 H2 (o1.trans o2) t2 (.rem (gY _ (by lia)) (h_ _ qp) fG.2.1) fun z=>absurd z qn⟩
theorem Yh:bD ["tape","way","wheels"] ["tape"] (aP Bw):=bM
theorem Yi(T:Txt K mg t):bh P w K mg base b5 2 t.qP t.uW ["tape"] UD:=by
 have S:=Yh;have Ni:=jE (P:=P) (w:=w) (base:=base) T;refine T.vP.cm S (fun _ _ _ _ H _ _ _ hr h=>?_);obtain ⟨Tp,rfl,tc,k⟩:=h
 refine ⟨_,(@aq _ _ _ _ _ (@z8 _ _ 1 _ _ _ _ (by rfl) (by first | exact .inl rfl | exact .inr rfl | assumption) S.nd rfl (Or.inl rfl) (Dq Ni (hr.mono (by decide)) rfl T.iP T.gq.kp T.iO .nil aM (@fj _ _ _ _ _ (by rfl) (pv 0) (@fj _ _ _ _ _ (by rfl) ah ae))))
   (@aq _ _ _ _ _ (@z8 _ _ 2 _ _ _ _ (by rfl) (by first | exact .inl rfl | exact .inr rfl | assumption) S.nd rfl (Or.inl rfl) (@gA _ _ _ _ (@fj _ _ _ _ _ (by rfl) ah (@fj _ _ _ _ _ (by rfl) ah (@fj _ _ _ _ _ (by rfl) ah (@fj _ _ _ _ _ (by rfl) ah (@fj _ _ _ _ _ (by rfl) ah (@fj _ _ _ _ _ (by rfl) ah (@fj _ _ _ _ _ (by rfl) ah (@fj _ _ _ _ _ (by rfl) (@xt _ _ _ _ _ _ _ b8 (@gA _ _ _ _ (@fj _ _ _ _ _ (by rfl) ah (@fj _ _ _ _ _ (by rfl) ah (@fj _ _ _ _ _ (by rfl) ah ae)))) (Dq Ni (hr.mono (by decide)) rfl T.iP T.gq.kp T.iO .nil aM (@fj _ _ _ _ _ (by rfl) (pv 0) (@fj _ _ _ _ _ (by rfl) ah ae))) (fun _ _=>rfl)) ae))))))))))
   (@ay _ _ _ (@ba _ _ _ _ (@xt _ _ _ _ _ _ _ b8 (@gA _ _ _ _ (@fj _ _ _ _ _ (by rfl) (@eO _ _ _ _ _ (@fj _ _ _ _ _ (by rfl) eN (@fj _ _ _ _ _ (by rfl) (@xt _ _ _ _ _ _ _ b8 (pv 2) (pv 1) (fun _ _=>rfl)) ae))) (@fj _ _ _ _ _ (by rfl) (@eO _ _ _ _ _ (@fj _ _ _ _ _ (by rfl) eN ae)) ae))) (lN Dm rfl T.yB boot_int (@fj _ _ _ _ _ (by rfl) (@Ia _ _ _ _ _ _ _ _ fE (@xt _ _ _ _ _ _ _ b8 (pv 2) (pv 1) (fun _ _=>rfl)) ah (Dj _)) ae)) (fun _ _=>rfl)))))),?_⟩
 refine aF fun _ hR=>aY ⟨_,rfl,Tp,8,rfl,tc,by decide,by decide,fun wy H1 w8 o1 t1=>hR _ _ ?_⟩
 refine aF fun _ hR=>aY ⟨by show 3≤sizeLine;decide,fun l1 n1=>?_⟩
 have s1:af H1 (upd H1 l1 (.lst [.int 97,.int 13,.int 11])):=aS n1;have e1:upd H1 l1 (.lst [.int 97,.int 13,.int 11]) l1=some (.lst [.int 97,.int 13,.int 11]):=aA;have lT:l1≠Tp:=t1.ne n1;generalize upd H1 l1 (.lst [.int 97,.int 13,.int 11])=H2 at s1 e1 ⊢;have t2:=t1.mono s1;refine ⟨_,rfl,Tp,3,rfl,t2,by decide,by decide,fun j H3 j3 o3 t3=>?_⟩
 obtain ⟨w3,ew,hw⟩:∃w3:Int,iY [V.int 97,.int 13,.int 11] (j:Int)=some (.int w3)∧(w3=97∨w3=13∨w3=11):=by
  match j,j3 with
  | 0,_=>exact ⟨97,rfl,.inl rfl⟩
  | 1,_=>exact ⟨13,rfl,.inr (.inl rfl)⟩
  | 2,_=>exact ⟨11,rfl,.inr (.inr rfl)⟩
 refine ⟨l1,_,_,_,rfl,rfl,.of (o3 _ _ lT e1),ew,by show 8≤sizeLine;decide,fun l2 n2=>hR _ _ ?_⟩
 have s3:af H3 (upd H3 l2 (.lst [.int 0,.int 2,.int 3,.int 5,.int 7,.int 0,.int 997,.int w3])):=aS n2;have e3:upd H3 l2 (.lst [.int 0,.int 2,.int 3,.int 5,.int 7,.int 0,.int 997,.int w3]) l2=some (.lst [.int 0,.int 2,.int 3,.int 5,.int 7,.int 0,.int 997,.int w3]):=aA;generalize upd H3 l2 (.lst [.int 0,.int 2,.int 3,.int 5,.int 7,.int 0,.int 997,.int w3])=H4 at s3 e3 ⊢;have t4:=t3.mono s3;have o4:aX Tp H H4:=o1.trans ((aX.of s1).trans (o3.trans (aX.of s3)));obtain ⟨q,Nj,hq⟩:∃q:Int,iY [V.int 0,.int 2,.int 3,.int 5,.int 7,.int 0,.int 997,.int w3] (wy:Int)=some (.int q)∧EA q=true:=by
  match wy,w8 with
  | 0,_=>exact ⟨0,rfl,by decide⟩
  | 1,_=>exact ⟨2,rfl,by decide⟩
  | 2,_=>exact ⟨3,rfl,by decide⟩
  | 3,_=>exact ⟨5,rfl,by decide⟩
  | 4,_=>exact ⟨7,rfl,by decide⟩
  | 5,_=>exact ⟨0,rfl,by decide⟩
  | 6,_=>exact ⟨997,rfl,by decide⟩
  | 7,_=>exact ⟨w3,rfl,by rcases hw with rfl | rfl | rfl <;> decide⟩
 have hq:=UE hq;refine ⟨_,rfl,_,rfl,l2,_,_,_,rfl,rfl,.of e3,Nj,by show 2≤sizeLine;decide,fun a1 m1=>?_⟩
 have s5:af H4 (upd H4 a1 (.tup [.str (Str.ofString "wheel"),.int q])):=aS m1;have e5:upd H4 a1 (.tup [.str (Str.ofString "wheel"),.int q]) a1=some (.tup [sV "wheel",.int q]):=aA;generalize upd H4 a1 (.tup [.str (Str.ofString "wheel"),.int q])=H5 at s5 e5 ⊢;refine ⟨by show 1≤sizeLine;decide,fun a2 m2=>?_⟩
 have s6:af H5 (upd H5 a2 (.tup [.str (Str.ofString "fractions")])):=aS m2;have e6:upd H5 a2 (.tup [.str (Str.ofString "fractions")]) a2=some (.tup [sV "fractions"]):=aA;generalize upd H5 a2 (.tup [.str (Str.ofString "fractions")])=H6 at s6 e6 ⊢;refine ⟨by show 2≤sizeLine;decide,fun l3 n3=>?_⟩
 have s7:af H6 (upd H6 l3 (.lst [.ref a1,.ref a2])):=aS n3;have e7:upd H6 l3 (.lst [.ref a1,.ref a2]) l3=some (.lst [.ref a1,.ref a2]):=aA;generalize upd H6 l3 (.lst [.ref a1,.ref a2])=H7 at s7 e7 ⊢;have F9:=s5.trans (s6.trans s7);have o7:aX Tp H H7:=o4.trans (aX.of F9);have t7:=t4.mono F9;refine ⟨_,rfl,_,rfl,l2,_,_,_,rfl,rfl,.of (F9 _ _ e3),Nj,rfl,.inr ⟨decide (V.int q=V.int 0),rfl,?_⟩⟩;by_cases z:q=0
 ·rw [ak (by rw [z];decide)]
  exact ⟨l3,_,_,_,rfl,rfl,.of e7,rfl,k a2 q H7 o7 t7 (.inl ⟨z,s7 _ _ e6⟩) hq⟩
 ·rw [aj (by rw [jU,cJ z];exact dI)]
  exact ⟨l3,_,_,_,rfl,rfl,.of e7,rfl,k a1 q H7 o7 t7 (.inr ⟨z,s7 _ _ (s6 _ _ e5)⟩) hq⟩
theorem Yj:bD ["told","tape","size"] ["told","tape","size"] (aP BC):=bM
theorem Nk(T:Txt K mg t):bh P w K mg base b5 4 t.qV t.u4 ["told","tape","size"] UH:=by
 have S:=Yj;refine T.rK.cm S (fun _ _ _ _ H _ _ _ hr h=>?_);obtain ⟨td,Tp,q,n,rfl,tw,hq,tc,B8,k⟩:=h;refine ⟨_,(ay (ba (gQ (N:=["j","told","tape"]) (ρ:=(fun σ=>[σ[0]?.join,σ[1]?.join])) (eA [0,1] rfl) rfl (gN rfl T.fM (aa (pv 2) ae)) (fun _ _ _=>.nil) (fun _ _ _=>(aI (Cn T) hr T.yt T.nh.kp T.yr aM (aa (pv 1) (aa (pv 2) ae))))))),?_⟩;refine iI (UG (n:=n) (cN (by lia)) tc (fun R h=>⟨_,rfl,(n:Int),rfl,by lia,by lia,by rw [eJ];exact h⟩) (fun _ i y Hx=>∃x m,bj 1000 Hx q y x m∧j_ q x m) (fun D i y Ha Hb ys ⟨x,m,h1,h2⟩ t e f=>⟨x,m,h1.off t e f,h2⟩) (fun D i hi Hc R oc eW _ _ _ kR=>⟨_,rfl,_,rfl,td,Tp,q,rfl,tw.off oc tc,hq,eW,fun v x m H' o' t' nu sm=>kR v H' o' t' ⟨x,m,nu,sm⟩⟩) fun D ys Hc DT nD oc eW ly hP eD=>?_)
 have ex:∃ps:List (Int×Int),ps.length=n∧∀i,i<n→bj 1000 Hc q (ys.getD i .aV) (ps.getD i (0,1)).1 (ps.getD i (0,1)).2∧j_ q (ps.getD i (0,1)).1 (ps.getD i (0,1)).2:=by
  have one:∀i,i<n→∃p:Int×Int,bj 1000 Hc q (ys.getD i .aV) p.1 p.2∧j_ q p.1 p.2:=fun i hi=>by
   have hy:i<ys.length:=by lia
   obtain ⟨x,m,h1,h2⟩:=hP i ys[i] (b6 hy);exact ⟨(x,m),by rw [getD_at hy];exact h1,h2⟩
  refine ⟨(List.range n).map fun i=>if h:i<n then (one i h).choose else (0,1),by simp,fun i hi=>?_⟩
  have e:((List.range n).map fun i=>if h:i<n then (one i h).choose else (0,1)).getD i (0,1)=(one i hi).choose:=by rw [gX,cx,ku hi];simp [hi]
  rw [e];exact (one i hi).choose_spec
 obtain ⟨ps,lp,hp⟩:=ex;refine k D ps Hc oc eW nD ⟨ys,eD,by lia,fun i v p h1 h2=>?_⟩ lp fun p Yk=>?_
 ·have i1:=(bQ.mp h1).1
  have i2:=(bQ.mp h2).1;have:=(hp i (by lia)).1
  rwa [getD_at i1,getD_at i2,(bQ.mp h1).2,(bQ.mp h2).2] at this
 ·obtain ⟨i,hi,e⟩:=List.getElem_of_mem Yk
  have:=(hp i (by lia)).2
  rwa [getD_at hi,e] at this
theorem Yl:bD ["tape","size","links","often","j","i"] ["tape","size"] (aP BA):=bM
theorem Nl(T:Txt K mg t):bh P w K mg base b5 2 t.qT t.u0 ["tape","size"] UI:=by
 have S:=Yl;refine T.rJ.cm S (fun _ _ _ _ H _ _ _ hr h=>?_);obtain ⟨Tp,n,rfl,tc,p7,k⟩:=h
 refine ⟨_,(aq (putL 2 S.nd (gA ae))
  (aq (putL 3 S.nd (aB d_ ah (aI (jE T) hr T.iP T.gq.kp T.iO aM (aa (pv 0) (aa ah ae)))))
  (aq (fO dU rfl (gN rfl T.fM (aa (pv 1) ae)) (cX (i:=4) S.nd rfl (Or.inl rfl))
   (ay (fO dU rfl (gN rfl T.fM (aa (pv 4) ae)) (cX (i:=5) S.nd rfl (Or.inl rfl))
   (ay (cu (bR sG (aI (jE T) hr T.iP T.gq.kp T.iO aM (aa (pv 0) (aa ah ae))) (pv 3)) (ay (kK (jR jK xa xb nW (pv 2) (aa (eO (aa (pv 5) (aa (pv 4) ae))) ae)))) cH)))))
  (ay (ba (pv 2)))))),?_⟩
 refine aF fun _ hR=>aY ⟨b_ _,fun D nD=>hR _ _ ?_⟩;have DT:D≠Tp:=tc.ne nD;have o1:aX Tp H (upd H D (.lst [])):=aX.of (aS nD);have t1:bW (upd H D (.lst [])) Tp:=tc.mono (aS nD);have e1:upd H D (.lst []) D=some (.lst []):=aA;generalize upd H D (.lst [])=H1 at o1 t1 e1 ⊢;refine aF fun _ hR=>aY ⟨_,rfl,Tp,4,rfl,t1,by decide,by decide,fun of H2 of4 o2 t2=>⟨_,_,rfl,rfl,hR _ _ ?_⟩⟩
 have e2:=o2 _ _ DT e1;refine aF fun _ hR=>⟨_,rfl,(n:Int),rfl,by lia,by lia,?_⟩
 rw [eJ];refine sF (fun j σ Hc=>∃(us:List V) (L:bS) (v4 v5:Option V),σ=[some (.ref Tp),some (.int (n:Int)),some (.ref D),some (.int (1+(of:Int))),v4,v5]∧aX Tp H Hc∧bW Hc Tp∧Hc D=some (.lst us)∧eB Hc us L∧(∀z∈L,0≤z.1∧z.1<z.2∧z.2<(n:Int))∧L.length≤20*j) ⟨[],[],_,_,rfl,o1.trans o2,t2,e2,eB.nil _,(fun z hz=>nomatch hz),b_ _⟩ ?_ ?_
 ·rintro j σ Hc hj ⟨us,L,v4,v5,rfl,oc,eW,ec,hL,lt,ll⟩
  dsimp only [cW];refine ⟨_,rfl,0+(j:Int),rfl,by lia,by lia,?_⟩
  rw [show (0+(j:Int)).toNat=j by lia]
  refine sF (fun i σ Hd=>∃(us:List V) (L:bS) (v5:Option V),σ=[some (.ref Tp),some (.int (n:Int)),some (.ref D),some (.int (1+(of:Int))),some (.int (0+(j:Int))),v5]∧aX Tp H Hd∧bW Hd Tp∧Hd D=some (.lst us)∧eB Hd us L∧(∀z∈L,0≤z.1∧z.1<z.2∧z.2<(n:Int))∧L.length≤20*j+i) ⟨us,L,_,rfl,oc,eW,ec,hL,lt,ll⟩ ?_ ?_
  ·clear hL ec lt ll oc eW
   rintro i σ Hd hi ⟨us,L,v5,rfl,od,Co,ed,hL,lt,ll⟩;dsimp only [cW];refine ⟨_,rfl,Tp,4,rfl,Co,by decide,by decide,fun d H3 d4 o3 t3=>?_⟩
   have Cp:=o3 _ _ DT ed;have Nm:=hL.iL Co o3;have Nn:=od.trans o3;refine ⟨_,rfl,_,_,rfl,rfl,_,rfl,cS (fun hb=>?_) (fun hb=>⟨us,L,_,rfl,Nn,t3,Cp,Nm,lt,by lia⟩)⟩
   have lu:=hL.1;refine ⟨_,rfl,.inl ⟨rfl,_,.of Cp⟩,_,rfl,_,rfl,by show 2≤sizeLine;decide,fun tq Cm=>⟨D,us,_,rfl,rfl,(aS Cm) _ _ Cp,cN (by lia),?_⟩⟩
   have st:af H3 (upd H3 tq (.tup [.int (0+(i:Int)),.int (0+(j:Int))])):=aS Cm;have Np:upd H3 tq (.tup [.int (0+(i:Int)),.int (0+(j:Int))]) tq=some (.tup [.int (i:Int),.int (j:Int)]):=by rw [aA,iS,iS]
   generalize upd H3 tq (.tup [.int (0+(i:Int)),.int (0+(j:Int))])=He at st Np ⊢;refine ⟨us++[.ref tq],L++[((i:Int),(j:Int))],_,rfl,fun b u ne e=>by rw [aK (fun zz=>by rw [zz,nD] at e;cases e)];exact st _ _ (Nn b u ne e),?_,aA,?_,fun z hz=>?_,by rw [gu,CI];lia⟩
   ·obtain ⟨x,ex⟩:=t3.mono st
    exact ⟨x,(aK (Ne.symm DT)).trans ex⟩
   ·exact ((Nm.mono st).cat (show eB He [.ref tq] [((i:Int),(j:Int))] from ⟨rfl,fun k v p h1 h2=>by
     match k,h1,h2 with
     | 0,h1,h2=>cases h1;cases h2;exact ⟨tq,rfl,Np⟩
     | k+1,h1,h2=>simp at h1⟩)).cf (st _ _ Cp) fun b o nb e=>by rw [aK nb];exact e
   ·rcases lh.mp hz with hz | hz
    ·exact lt z hz
    ·rw [iR.mp hz]
     dsimp only;lia
  ·rintro σ Hd ⟨us,L,v5,rfl,od,Co,ed,hL,lt,ll⟩
   exact ⟨us,L,_,_,rfl,od,Co,ed,hL,lt,by lia⟩
 ·rintro σ Hc ⟨us,L,v4,v5,rfl,oc,eW,ec,hL,lt,ll⟩
  exact hR _ _ ⟨_,rfl,k D us L Hc oc eW nD ec hL lt (by lia)⟩
theorem Ym:bD ["tape","size","order","k"] ["tape","size"] (aP BB):=bM
theorem F_(T:Txt K mg t):bh P w K mg base b5 2 t.qU t.u3 ["tape","size"] T5:=by
 have S:=Ym;refine T.oK.cm S (fun _ _ _ _ H _ _ _ hr h=>?_);obtain ⟨Tp,n,rfl,tc,B8,kk⟩:=h
 refine ⟨_,(aq (putL 2 S.nd (gA ae))
  (aq (fO dU rfl (gN rfl T.fM (aa (pv 1) ae)) (cX (i:=3) S.nd rfl (Or.inl rfl))
   (ay (kK (jR jK PySem.F.slot_list_insert PySem.F.type_list_insert TZ (pv 2) (aa (aI (jE T) hr T.iP T.gq.kp T.iO aM (aa (pv 0) (aa (aB d_ (pv 3) ah) ae))) (aa (pv 3) ae))))))
  (ay (ba (pv 2))))),?_⟩
 refine aF fun _ hR=>aY ⟨b_ _,fun D nD=>hR _ _ ?_⟩;have DT:D≠Tp:=tc.ne nD;have o1:aX Tp H (upd H D (.lst [])):=aX.of (aS nD);have t1:bW (upd H D (.lst [])) Tp:=tc.mono (aS nD);have e1:upd H D (.lst []) D=some (.lst (nI [])):=aA;generalize upd H D (.lst [])=H1 at o1 t1 e1 ⊢;refine aF fun _ hR=>⟨_,rfl,(n:Int),rfl,by lia,by lia,?_⟩
 rw [eJ];refine sF (fun k σ Hc=>∃(o:List Nat) (v3:Option V),σ=[some (.ref Tp),some (.int (n:Int)),some (.ref D),v3]∧aX Tp H Hc∧bW Hc Tp∧Hc D=some (.lst (nI o))∧o.Perm (List.range k)) ⟨[],_,rfl,o1,t1,e1,List.Perm.refl _⟩ ?_ ?_
 ·rintro k σ Hc hk ⟨o,v3,rfl,oc,eW,eD,pm⟩
  dsimp only [cW];refine ⟨_,rfl,.inl ⟨rfl,_,.of eD⟩,_,rfl,_,rfl,_,_,rfl,rfl,Tp,k+1,by show [V.ref Tp,V.int ((0+(k:Int))+1)]=_;rw [show (0+(k:Int))+1=((k+1:Nat):Int) by lia],eW,by lia,by lia,fun d H2 hd od td=>?_⟩
  have wm:=od _ _ DT eD;have lo:(nI o).length=k:=by unfold nI;rw [aJ,pm.length_eq,dc]
  refine ⟨_,rfl,D,nI o,d,_,_,rfl,rfl,rfl,wm,by lia,by lia,?_⟩
  have pk:(o.take d++k::o.drop d).Perm (List.range (k+1)):=by rw [List.range_succ];refine List.perm_middle.trans ?_;rw [List.take_append_drop];exact ((List.Perm.cons k pm).trans (List.perm_append_comm (l₁:=[k])))
  refine ⟨o.take d++k::o.drop d,_,rfl,fun b u ne e=>?_,?_,?_,pk⟩
  ·rw [aK (fun z=>by rw [z,nD] at e;cases e)]
   exact (oc.trans od) b u ne e
  ·obtain ⟨x,ex⟩:=td
   exact ⟨x,(aK (Ne.symm DT)).trans ex⟩
  ·rw [aA]
   unfold nI;rw [ie,cG,wZ,List.map_drop,iS]
 ·rintro σ Hc ⟨o,v3,rfl,oc,eW,eD,pm⟩
  exact hR _ _ ⟨_,rfl,kk D o _ oc eW nD eD pm⟩
theorem Yn:bD ["told","tape","size","links","table","i","j","way"] ["told","tape","size","links"] (aP Bz):=bM
theorem Nq(T:Txt K mg t):bh P w K mg base b5 6 t.qS t.uZ ["told","tape","size","links"] UL:=by
 have S:=Yn;refine T.rH.cm S (fun _ _ _ _ H _ _ _ hr h=>?_);obtain ⟨td,Tp,lk,q,n,us,L,rfl,tw,hq,tc,B8,lT,mj,hL,bV,kk⟩:=h;have hu:=hr.zO
 refine ⟨_,(aq (oq (i0:=4) (N:=["i","size","told"]) (ρ:=(fun σ=>[σ[2]?.join,σ[0]?.join])) (eA [2,0] rfl) rfl S.nd rfl (Or.inl rfl) (gN rfl T.fM (aa (pv 2) ae)) (fun _ _ _=>.nil) (fun _ _ _=>(gQ (N:=["j","told"]) (ρ:=(fun σ=>[σ[2]?.join])) (eA [2] rfl) rfl (gN rfl T.fM (aa (pv 1) ae)) (fun _ _ _=>.nil) (fun _ _ _=>(aI (yP T) hr T.vR T.mh.kp T.vQ aM (aa (pv 1) ae))))))
  (aq (fO dU rfl (gN rfl T.fM (aa (pv 2) ae)) (cX (i:=5) S.nd rfl (Or.inl rfl))
   (aq (@iu _ _ _ _ _ _ (aI (Cn T) hr T.yt T.nh.kp T.yr aM (aa (pv 0) (aa (pv 1) ae))) (jh (ax b8 (pv 4) (pv 5)) (pv 5) set_list) (by rfl) (by rfl) (by rfl))
  (ay (cu (PW.pt (pw_and (bR (I_ hu) (ax b8 (ax b8 (pv 4) (pv 5)) (pv 5)) (aI (yP T) hr T.vR T.mh.kp T.vQ aM (aa (pv 0) ae))) (pw_and1 (bR xq (aI (jE T) hr T.iP T.gq.kp T.iO aM (aa (pv 1) (aa ah ae))) ah)))) (ay (@iu _ _ _ _ _ _ (aI (F5 T) hr T.BU T.oJ.kp T.BS aM (aa (pv 0) (aa ah (aa ah ae)))) (jh (ax b8 (pv 4) (pv 5)) (pv 5) set_list) (by rfl) (by rfl) (by rfl))) cH))))
  (aq (fO dU rfl (fD (pv 3)) (su rfl (iW (cX (i:=5) S.nd rfl (Or.inl rfl)) (iW (cX (i:=6) S.nd rfl (Or.inl rfl)) sq)))
   (aq (putL 7 S.nd (aI (jE T) hr T.iP T.gq.kp T.iO aM (aa (pv 1) (aa ah ae))))
  (aq (cu (bR jk (pv 7) ah) (ay (@iu _ _ _ _ _ _ (aI (Cn T) hr T.yt T.nh.kp T.yr aM (aa (pv 0) (aa (pv 1) ae))) (jh (ax b8 (pv 4) (pv 5)) (pv 6) set_list) (by rfl) (by rfl) (by rfl))) cH)
  (ay (cu (bR jk (pv 7) ah) (ay (@iu _ _ _ _ _ _ (aI (Cn T) hr T.yt T.nh.kp T.yr aM (aa (pv 0) (aa (pv 1) ae))) (jh (ax b8 (pv 4) (pv 6)) (pv 5) set_list) (by rfl) (by rfl) (by rfl))) cH)))))
  (ay (ba (pv 4)))))),?_⟩
 have cq:((List.range n).map fun i:Nat=>V.int (0+(i:Int))).length=n:=by rw [aJ,dc]
 refine aF fun _ hR=>aY (pW (xs:=(List.range n).map fun i:Nat=>V.int (0+(i:Int))) (n:=n) cq (fun R h=>⟨_,rfl,(n:Int),rfl,by lia,by lia,by rw [eJ];exact h _ _ (af.refl _) kX⟩) (cN (by lia)) (fun _ i y Hx=>(∃ys,Hx y=some (.lst ys)∧ys.length=n∧∀(j:Nat) (v:V),ys[j]?=some v→bj 1000 Hx q v 0 1)∧H y=none) ?_ ?_ ?_)
 ·intro D i y Ha Hb ys ⟨⟨zs,h1,h3,h4⟩,h2⟩ hy e f
  exact ⟨⟨zs,f y _ hy h1,h3,fun j v hv=>(h4 j v hv).cf e f⟩,h2⟩
 ·intro D i x hx Hc R sc _ kc
  refine jW (xs:=(List.range n).map fun i:Nat=>V.int (0+(i:Int))) (fun R h=>⟨_,rfl,(n:Int),rfl,by lia,by lia,by rw [eJ];exact h _ _ (af.refl _) kX⟩) (by rw [cq];exact cN (by lia)) (fun _ j y Hx=>bj 1000 Hx q y 0 1) (fun D' i' y' Ha Hb ys' h e f=>h.cf e f) ?_ ?_
  ·intro D1 j x' HL Hd R' sd _ kd
   exact ⟨_,rfl,td,q,rfl,tw.mono (sc.trans sd),hq,fun v0 H2 s2 h0=>kd v0 H2 s2 h0⟩
  ·intro D1 ys Hd nj sd cz dE eD
   rw [cq] at cz;exact kc D1 Hd sd nj ⟨_,eD⟩ ⟨⟨ys,eD,cz,dE⟩,none_of sc nj⟩
 ·intro D rs H1 nD s1 inj hA eD
  refine hR _ _ ?_;have jD:∀i,i<n→H (rs i)=none:=fun i hi=>(hA i hi).1.2;have row:∀i,i<n→∃f:Nat→V,H1 (rs i)=some (.lst ((List.range n).map f))∧∀j,j<n→bj 1000 H1 q (f j) 0 1:=fun i hi=>by
   obtain ⟨ys,h1,h2,h3⟩:=(hA i hi).1.1;refine ⟨fun j=>ys.getD j .aV,?_,fun j hj=>?_⟩
   ·rw [h1]
    congr 2
    refine fB (by simp [h2]) fun j g1 g2=>?_
    rw [d8,ig,getD_at g1]
   ·have fq:j<ys.length:=by lia
    dsimp only;rw [getD_at fq];exact h3 j _ (b6 fq)
  obtain ⟨vf,hv⟩:∃vf:Nat→Nat→V,∀i,i<n→H1 (rs i)=some (.lst ((List.range n).map (vf i)))∧∀j,j<n→bj 1000 H1 q (vf i j) 0 1:=⟨fun i=>if h:i<n then (row i h).choose else fun _=>.aV,fun i hi=>by dsimp only;rw [dif_pos hi];exact (row i hi).choose_spec⟩
  have W1:WTab H1 D n rs vf:=⟨eD,inj,fun i hi=>(hA i hi).2,fun i hi=>(hv i hi).1⟩;have F1:ke H1 q n vf:=fun i j hi hj=>⟨0,1,(hv i hi).2 j hj,fun _=>⟨by decide,by decide⟩⟩
  clear hA row hv eD inj;have DT:=tc.ne nD;have rT:∀i,i<n→rs i≠Tp:=fun i hi=>tc.ne (jD i hi);have o1:aX Tp H H1:=aX.of s1;have t1:=tc.mono s1;have step:∀{Ha Hb:Hp} {vf:Nat→Nat→V} {i j:Nat} {v:V} {x d:Int},i<n→j<n→aX Tp H Ha→WTab Ha D n rs vf→ke Ha q n vf→bW Ha Tp→aX Tp Ha Hb→bW Hb Tp→bj 1000 Hb q v x d→j_ q x d→aX Tp H (upd Hb (rs i) (.lst (((List.range n).map (vf i)).set j v)))∧bW (upd Hb (rs i) (.lst (((List.range n).map (vf i)).set j v))) Tp∧WTab (upd Hb (rs i) (.lst (((List.range n).map (vf i)).set j v))) D n rs (l4 vf i j v)∧ke (upd Hb (rs i) (.lst (((List.range n).map (vf i)).set j v))) q n (l4 vf i j v):=fun{Ha Hb vf i j v x d} hi hj oa Wa Fa ta ob tb nu sm=>by
   have Wb:WTab Hb D n rs vf:=Wa.cf fun b o hb e=>ob b o (by rcases hb with rfl | ⟨k,hk,rfl⟩;exact DT;exact rT k hk) e
   refine ⟨fun b o ne e=>?_,?_,Wb.put v hi,fun i' j' fm fq=>?_⟩
   ·rw [aK (fun z=>by rw [z,jD i hi] at e;cases e)]
    exact ob b o ne (oa b o ne e)
   ·obtain ⟨x,ex⟩:=tb
    exact ⟨x,by rw [aK (Ne.symm (rT i hi))];exact ex⟩
   ·have up:∀{v:V} {x d:Int},bj 1000 Hb q v x d→bj 1000 (upd Hb (rs i) (.lst (((List.range n).map (vf i)).set j v))) q v x d:=fun{v x d} h=>h.cf (Wb.at' i hi) fun b o ne e=>by rw [aK ne];exact e
    unfold l4
    split
    ·exact ⟨x,d,nu.cf (Wb.at' i hi) fun b o ne e=>by rw [aK ne];exact e,sm⟩
    ·obtain ⟨x',d',h1,h2⟩:=Fa i' j' fm fq
     exact ⟨x',d',(h1.iL ta ob).cf (Wb.at' i hi) fun b o ne e=>by rw [aK ne];exact e,h2⟩
  have cf:∀{Ha Hb:Hp} {vf:Nat→Nat→V},WTab Ha D n rs vf→ke Ha q n vf→bW Ha Tp→aX Tp Ha Hb→WTab Hb D n rs vf∧ke Hb q n vf:=fun{Ha Hb vf} Wa Fa ta ob=>⟨Wa.cf fun b o hb e=>ob b o (by rcases hb with rfl | ⟨k,hk,rfl⟩;exact DT;exact rT k hk) e,fun i j hi hj=>by obtain ⟨x',d',h1,h2⟩:=Fa i j hi hj;exact ⟨x',d',h1.iL ta ob,h2⟩⟩
  refine aF fun _ hR=>⟨_,rfl,(n:Int),rfl,by lia,by lia,?_⟩
  rw [eJ];refine sF (fun k σ Hc=>∃(vf:Nat→Nat→V) (v5 v6 v7:Option V),σ=[some (.ref td),some (.ref Tp),some (.int (n:Int)),some (.ref lk),some (.ref D),v5,v6,v7]∧aX Tp H Hc∧bW Hc Tp∧WTab Hc D n rs vf∧ke Hc q n vf) ⟨vf,_,_,_,rfl,o1,t1,W1,F1⟩ ?_ ?_
  ·clear W1 F1 o1 t1
   rintro k σ Hc hk ⟨vf,v5,v6,v7,rfl,oc,eW,Wc,Fc⟩;dsimp only [cW];rw [iS];refine aF fun _ hR=>aY ⟨_,rfl,_,rfl,td,Tp,q,rfl,tw.off oc tc,hq,eW,fun v x d H2 o2 t2 nu sm=>?_⟩;obtain ⟨W2,F2⟩:=cf Wc Fc eW o2;obtain ⟨o3,t3,W3,F3⟩:=step hk hk oc Wc Fc eW o2 t2 nu sm;refine ⟨_,rfl,_,rfl,D,_,_,_,rfl,rfl,.of W2.lst,cy hk,_,rfl,rs k,_,_,k,rfl,rfl,W2.at' k hk,by rw [aJ,dc];exact jX hk,hR _ _ ?_⟩
   generalize upd H2 (rs k) (.lst (((List.range n).map (vf k)).set k v))=H3 at o3 t3 W3 F3 ⊢;generalize l4 vf k k v=vf3 at W3 F3;clear W2 F2 o2 t2 nu;obtain ⟨x3,d3,h3,_⟩:=F3 k k hk hk;refine ⟨_,rfl,_,rfl,D,_,_,_,rfl,rfl,.of W3.lst,cy hk,_,rfl,rs k,_,_,_,rfl,rfl,.of (W3.at' k hk),cy hk,_,rfl,td,q,rfl,tw.off o3 tc,hq,fun v0 H4 s4 h0=>Jl (h3.mono s4) h0 ⟨_,rfl,cS (fun hb=>?_) (fun hb=>?_)⟩⟩
   ·refine ⟨_,rfl,Tp,3,rfl,t3.mono s4,by decide,by decide,fun g H5 g3 o5 t5=>⟨_,_,rfl,rfl,_,rfl,cS (fun hb=>?_) (fun hb=>?_)⟩⟩
    ·have yR:=(aX.of s4:aX Tp H3 H4).trans o5
     refine aY ⟨_,rfl,td,q,1,1,1000,rfl,tw.off (o3.trans yR) tc,hq,xT hq,by decide,by decide,by decide +kernel,fun v' H6 s6 w6=>?_⟩
     obtain ⟨x6,d6,n6,Yo⟩:=UK hq w6;have Nr:=yR.trans (aX.of s6);obtain ⟨W6,F6⟩:=cf W3 F3 t3 Nr;obtain ⟨o7,t7,W7,F7⟩:=step hk hk o3 W3 F3 t3 Nr (t5.mono s6) n6 Yo;exact ⟨_,rfl,_,rfl,D,_,_,_,rfl,rfl,.of W6.lst,cy hk,_,rfl,rs k,_,_,k,rfl,rfl,W6.at' k hk,by rw [aJ,dc];exact jX hk,⟨_,_,_,_,rfl,o7,t7,W7,F7⟩⟩
    ·have yR:=(aX.of s4:aX Tp H3 H4).trans o5
     obtain ⟨W6,F6⟩:=cf W3 F3 t3 yR;exact ⟨_,_,_,_,rfl,o3.trans yR,t5,W6,F6⟩
   ·obtain ⟨W6,F6⟩:=cf W3 F3 t3 (aX.of s4)
    exact ⟨_,_,_,_,rfl,o3.trans (aX.of s4),t3.mono s4,W6,F6⟩
  ·rintro σ Hc ⟨vf,v5,v6,v7,rfl,oc,eW,Wc,Fc⟩
   refine hR _ _ ?_;refine aF fun _ hR=>⟨_,rfl,lk,rfl,⟨_,.of (oc _ _ lT mj)⟩,?_⟩;refine mF (K:=K) (a:=lk) (xs:=us) (fun k σ Hc=>∃(vf:Nat→Nat→V) (v5 v6 v7:Option V),σ=[some (.ref td),some (.ref Tp),some (.int (n:Int)),some (.ref lk),some (.ref D),v5,v6,v7]∧aX Tp H Hc∧bW Hc Tp∧WTab Hc D n rs vf∧ke Hc q n vf) ⟨vf,_,_,_,rfl,oc,eW,Wc,Fc⟩ (fun k σ Hc _ ⟨_,_,_,_,_,oc,_⟩=>.of (oc _ _ lT mj)) ?_ ?_
   ·clear Wc Fc oc eW
    rintro k x σ Hc hx ⟨vf,v5,v6,v7,rfl,oc,eW,Wc,Fc⟩;have hk:k<L.length:=by rw [←hL.1];exact (bQ.mp hx).1
    obtain ⟨b,rfl,eb⟩:=(hL.iL tc oc).2 k x L[k] hx (b6 hk);obtain ⟨z1,z2,z3⟩:=bV L[k] (dj hk);obtain ⟨i,ei⟩:=w_ z1;obtain ⟨j,ej⟩:=w_ (show 0≤(L[k]).2 by lia)
    rw [ei,ej] at eb;have hi:i<n:=by lia
    have hj:j<n:=by lia
    dsimp only [cW];refine ⟨b,_,rfl,.of eb,rfl,_,_,rfl,_,_,rfl,rfl,?_⟩;refine aF fun _ hR=>aY ⟨_,rfl,Tp,5,rfl,eW,by decide,by decide,fun wy H1 _ o1 t1=>hR _ _ ?_⟩
    obtain ⟨W1,F1⟩:=cf Wc Fc eW o1;have Ga:=oc.trans o1;clear Wc Fc;refine aF fun R hR=>?_;have next:∀(vf:Nat→Nat→V) (Hd:Hp),aX Tp H Hd→bW Hd Tp→WTab Hd D n rs vf→ke Hd q n vf→R [some (.ref td),some (.ref Tp),some (.int (n:Int)),some (.ref lk),some (.ref D),some (.int (i:Int)),some (.int (j:Int)),some (.int (wy:Int))] Hd:=fun vf Hd od Cq Wd Fd=>hR _ _ (by refine ⟨_,rfl,rfl,_,rfl,cS (fun hb=>?_) (fun hb=>⟨_,_,_,_,rfl,od,Cq,Wd,Fd⟩)⟩;refine aY ⟨_,rfl,_,rfl,td,Tp,q,rfl,tw.off od tc,hq,Cq,fun v x d H2 o2 t2 nu sm=>?_⟩;obtain ⟨W2,F2⟩:=cf Wd Fd Cq o2;obtain ⟨o3,t3,W3,F3⟩:=step hj hi od Wd Fd Cq o2 t2 nu sm;exact ⟨_,rfl,_,rfl,D,_,_,_,rfl,rfl,.of W2.lst,cy hj,_,rfl,rs j,_,_,i,rfl,rfl,W2.at' j hj,by rw [aJ,dc];exact jX hi,⟨_,_,_,_,rfl,o3,t3,W3,F3⟩⟩)
    refine ⟨_,rfl,rfl,_,rfl,cS (fun hb=>?_) (fun hb=>next vf H1 Ga t1 W1 F1)⟩
    refine aY ⟨_,rfl,_,rfl,td,Tp,q,rfl,tw.off Ga tc,hq,t1,fun v x d H2 o2 t2 nu sm=>?_⟩;obtain ⟨W2,F2⟩:=cf W1 F1 t1 o2;obtain ⟨o3,t3,W3,F3⟩:=step hi hj Ga W1 F1 t1 o2 t2 nu sm;exact ⟨_,rfl,_,rfl,D,_,_,_,rfl,rfl,.of W2.lst,cy hi,_,rfl,rs i,_,_,j,rfl,rfl,W2.at' i hi,by rw [aJ,dc];exact jX hj,next _ _ o3 t3 W3 F3⟩
   ·rintro σ Hc ⟨vf,v5,v6,v7,rfl,oc,eW,Wc,Fc⟩
    exact hR _ _ ⟨_,rfl,kk D rs vf Hc oc eW nD jD Wc Fc⟩
theorem Yp:bD ["script","start","tape","told","size","order","links","table"] ["script","start"] (aP BD):=bM
theorem Yq(T:Txt K mg t):bh P w K mg base b5 7 t.qW t.u5 ["script","start"] (UY K):=by
 have S:=Yp;refine T.vS.cm S (fun _ _ _ s H vs _ _ hr h=>?_);obtain ⟨sc,ns,k,rfl,hS,ae0,kk⟩:=h
 refine ⟨_,(aq (putL 2 S.nd (aI (wo T) hr T.rF T.k7.kp T.rE aM (aa (pv 0) (aa (pv 1) ae))))
  (aq (putL 3 S.nd (aI (Yi T) hr T.Mi T.vP.kp T.Mh aM (aa (pv 2) ae)))
  (aq (putL 4 S.nd (aB d_ ah (aI (jE T) hr T.iP T.gq.kp T.iO aM (aa (pv 2) (aa ah ae)))))
  (aq (putL 5 S.nd (aI (F_ T) hr T.BW T.oK.kp T.BV aM (aa (pv 2) (aa (pv 4) ae))))
  (aq (putL 6 S.nd (aI (Nl T) hr T.Fn T.rJ.kp T.Fm aM (aa (aI (wo T) hr T.rF T.k7.kp T.rE aM (aa (pv 0) (aa (aB d_ (pv 1) ah) ae))) (aa (pv 4) ae))))
  (aq (putL 7 S.nd (aI (Nq T) hr T.Fl T.rH.kp T.Fj aM (aa (pv 3) (aa (aI (wo T) hr T.rF T.k7.kp T.rE aM (aa (pv 0) (aa (aB d_ (pv 1) ah) ae))) (aa (pv 4) (aa (pv 6) ae))))))
  (ay (ba (eO (aa (pv 3) (aa (pv 7) (aa (pv 5) (aa (aI (Nk T) hr T.Fp T.rK.kp T.Fo aM (aa (pv 3) (aa (aI (wo T) hr T.rF T.k7.kp T.rE aM (aa (pv 0) (aa (aB d_ (pv 1) ah) ae))) (aa (pv 4) ae)))) ae))))))))))))),?_⟩
 have join:∀{Ha Hb Hc:Hp} {T:Addr},af Ha Hb→Ha T=none→aX T Hb Hc→af Ha Hc:=fun{Ha Hb Hc T} s nT o b u e=>o b u (fun z=>by rw [z,nT] at e;cases e) (s _ _ e)
 refine aF fun _ hR=>aY ⟨_,rfl,_,rfl,sc,ns,k,rfl,hS,by lia,fun T1 H1 s1 Nt Yr=>hR _ _ ?_⟩
 refine aF fun _ hR=>aY ⟨_,rfl,T1,rfl,Yr,fun td q H2 o2 Nu tw hq=>hR _ _ ?_⟩;refine aF fun _ hR=>aY ⟨_,rfl,T1,6,rfl,Nu,by decide,by decide,fun d H3 d6 o3 Cr=>⟨_,_,rfl,rfl,hR _ _ ?_⟩⟩
 obtain ⟨n,en⟩:∃n,n=1+d:=⟨_,rfl⟩;have eI:(1:Int)+(d:Int)=(n:Int):=by lia
 dsimp only [L2.start,List.set_cons_zero,List.set_cons_succ];rw [eI];refine aF fun _ hR=>aY ⟨_,rfl,_,rfl,T1,n,rfl,Cr,by lia,fun od o H4 o4 Gb Ys Yt ho=>hR _ _ ?_⟩
 have S4:af H H4:=join s1 Nt (o2.trans (o3.trans o4));have tw4:gH H4 td q:=tw.off (o3.trans o4) Nu;have Yu:H od=none:=none_of (join s1 Nt (o2.trans o3)) Ys;refine aF fun _ hR=>aY ⟨_,rfl,_,rfl,_,_,rfl,rfl,sc,ns,k+1,rfl,S4.seq hS,by lia,fun T2 H5 s5 Yv Gd=>⟨_,rfl,T2,n,rfl,Gd,by lia,fun lk us L H6 o6 tc6 Yw mj hL bV hlen=>hR _ _ ?_⟩⟩
 have yS:af H4 H6:=join s5 Yv o6;have S6:=S4.trans yS;refine aF fun _ hR=>aY ⟨_,rfl,_,rfl,_,rfl,_,_,rfl,rfl,sc,ns,k+2,rfl,S6.seq hS,by lia,fun T3 H7 s7 yT Yx=>?_⟩
 refine ⟨_,rfl,_,rfl,td,T3,lk,q,n,us,L,rfl,(tw4.mono yS).mono s7,hq,Yx,by lia,(fun z=>by rw [z,yT] at mj;cases mj),s7 _ _ mj,hL.mono s7,bV,fun tab rs vf H8 o8 Ge Yy jD Wt Ft=>hR _ _ ?_⟩
 have Cs:af H6 H8:=join s7 yT o8;have S8:=S6.trans Cs;refine iI ⟨_,rfl,_,rfl,_,rfl,_,rfl,_,rfl,_,rfl,_,_,rfl,rfl,sc,ns,k+3,rfl,S8.seq hS,by lia,fun T4 H9 s9 Yz Gf=>?_⟩
 refine ⟨_,rfl,td,T4,q,n,rfl,((tw4.mono yS).mono Cs).mono s9,hq,Gf,by lia,fun am ps oM Ct Cu YA rg t_ yj=>?_⟩
 have Nv:af H8 oM:=join s9 Yz Ct;have yU:=S8.trans Nv;refine ⟨by show 4≤sizeLine;decide,fun tp eF=>?_⟩
 have kj:af oM (upd oM tp (.tup [.ref td,.ref tab,.ref od,.ref am])):=aS eF;have eV:upd oM tp (.tup [.ref td,.ref tab,.ref od,.ref am]) tp=some (.tup [.ref td,.ref tab,.ref od,.ref am]):=aA;generalize upd oM tp (.tup [.ref td,.ref tab,.ref od,.ref am])=yV at kj eV ⊢;obtain ⟨vs,yg,yh,yi⟩:=id rg;have Cv:=Nv.trans kj;have ra:dy yV am n (fun i=>vs.getD i .aV):=by
  unfold dy;rw [kj _ _ yg]
  congr 2
  refine fB (by simp;lia) fun j g1 g2=>?_
  rw [d8,ig,getD_at g1]
 have na:∀i,i<n→∃x m,bj 1000 yV q ((fun i=>vs.getD i V.aV) i) x m∧j_ q x m:=fun i hi=>by
  have g1:i<vs.length:=by lia
  have g2:i<ps.length:=by lia
  refine ⟨ps[i].1,ps[i].2,?_,yj _ (dj g2)⟩;dsimp only;rw [getD_at g1];exact (yi i _ _ (b6 g1) (b6 g2)).mono kj
 have YB:ke yV q n vf:=fun i j hi hj=>by obtain ⟨x,m,h1,h2⟩:=Ft i j hi hj;exact ⟨x,m,h1.mono Cv,h2⟩
 obtain ⟨f,f1,f2,f3⟩:=Kt YB na;exact kk tp td tab od am q n o rs vf _ f yV (yU.trans kj) eV (((tw4.mono yS).mono Cs).mono Cv) hq (by lia) (by lia) ⟨Wt.mono Cv,Cv _ _ (Cs _ _ (yS _ _ Yt)),ho,ra,f1,f2,f3⟩ (none_of (S6.trans s7) Yy) Yu (none_of (S8.trans s9) YA) fun i hi=>none_of (S6.trans s7) (jD i hi)
theorem YC:bD ["table","order","aim","names","size","back","lines"] ["table","order","aim","names"] (aP BE):=bM
theorem YD(T:Txt K mg t):bh P w K mg base b5 2 t.qX t.u6 ["table","order","aim","names"] Ve:=by
 have S:=YC;refine T.vT.cm S (fun _ _ _ _ H _ _ _ hr h=>?_);obtain ⟨tab,od,am,nm,q,n,o,νl,rt,vf,av,f,rfl,pc,k9,hν,ki,kk⟩:=h
 refine ⟨_,(aq (pP 4 S.nd (cM gB rfl T.fL fN (aa (pv 1) ae)))
  (aq (pP 5 S.nd (gQ (N:=["k","names"]) (ρ:=(fun σ=>[σ[3]?.join])) (eA [3] rfl) rfl (gN rfl T.fM (aa (pv 4) ae)) (fun _ _ _=>.nil) (fun _ _ _=>(U3 (K:=K) jK CW CY En (pv 1) (aa (pv 0) ae)))))
  (aq (RS (i0:=6) (N:=["i","size","table","back"]) (ρ:=(fun σ=>[σ[4]?.join,σ[0]?.join,σ[5]?.join])) ⟨rfl,rfl,(fun _=>rfl),(fun _=>rfl),by decide +kernel,(za.mpr ⟨rfl,(za.mpr ⟨rfl,(za.mpr ⟨rfl,(List.forall_mem_nil _)⟩)⟩)⟩),RL (by rfl),rfl,by decide +kernel,rfl,(fun σ j v h=>match j,h with | 0,h=>⟨4,_,rfl,rfl,join_some h,Or.inr (Or.inl rfl),.inl rfl,.inl rfl⟩ | 1,h=>⟨0,_,rfl,rfl,join_some h,Or.inr (Or.inl rfl),.inl rfl,.inl rfl⟩ | 2,h=>⟨5,_,rfl,rfl,join_some h,Or.inr (Or.inl rfl),.inl rfl,.inl rfl⟩ | j+3,h=>by cases h),(fun _ _=>rfl)⟩ rfl S.nd rfl (Or.inl rfl) (gN rfl T.fM (aa (pv 4) ae)) (fun _ _ _=>.nil) (fun _ _ _=>(gQ (N:=["j","table","back","i"]) (ρ:=(fun σ=>[σ[2]?.join,σ[3]?.join,σ[0]?.join])) (eA [2,3,0] rfl) rfl (gN rfl T.fM (aa (pv 1) ae)) (fun _ _ _=>.nil) (fun _ _ _=>(ax (iH (K:=K)) (ax (iH (K:=K)) (pv 1) (ax (iH (K:=K)) (pv 2) (pv 3))) (ax (iH (K:=K)) (pv 2) (pv 0)))))))
  (ay (ba (eO (aa (pv 6) (aa (gQ (N:=["k","names"]) (ρ:=(fun σ=>[σ[3]?.join])) (eA [3] rfl) rfl (fD (pv 1)) (fun _ _ _=>.nil) (fun _ _ _=>(ax (iH (K:=K)) (pv 1) (pv 0)))) (aa (gQ (N:=["i","aim","back"]) (ρ:=(fun σ=>[σ[2]?.join,σ[5]?.join])) (eA [2,5] rfl) rfl (gN rfl T.fM (aa (pv 4) ae)) (fun _ _ _=>.nil) (fun _ _ _=>(ax (iH (K:=K)) (pv 1) (ax (iH (K:=K)) (pv 2) (pv 0))))) ae))))))))),?_⟩
 have lo:=cw pc.cE;have ln:=cw hν;have ll:(az o).length=n:=by unfold az;rw [aJ,lo]
 have ez:az νl=(νl.map iN).map V.int:=by unfold az;rw [d5];rfl
 have cq:∀g:Nat→V,((List.range n).map g).length=n:=fun g=>by rw [aJ,dc]
 have bl:∀{k},k<n→νl.idxOf k<n:=fun{k} hk=>(m5 hν hk).2;refine aF fun _ hR=>aY ⟨_,rfl,od,_,rfl,.inl (.of pc.ord),hR _ _ ?_⟩;rw [ll];refine aF fun _ hR=>aY (jW (xs:=(List.range n).map fun i:Nat=>V.int (0+(i:Int))) (fun R h=>⟨_,rfl,(n:Int),rfl,by lia,by lia,by rw [eJ];exact h _ _ (af.refl _) kX⟩) (by rw [cq];exact cN (by lia)) (fun _ j y _=>y=.int ((νl.idxOf j:Nat):Int)) (fun _ _ _ _ _ _ h _ _=>h) ?_ ?_)
 ·intro D j x hx Hc R sc _ kc
  obtain ⟨hj,rfl⟩:=iM hx;obtain ⟨g1,g2⟩:=EH hν hj;rw [iS];exact ⟨_,rfl,.inl ⟨rfl,_,.of (sc _ _ k9)⟩,_,rfl,nm,νl.map iN,νl.idxOf j,_,rfl,rfl,by rw [←ez];exact sc _ _ k9,by rw [aJ];lia,g1,g2,kc _ Hc (af.refl _) rfl⟩
 ·intro bk ys H1 nbk s1 cz dE Gg
  refine hR _ _ ?_;have ey:ys=(List.range n).map fun j=>V.int ((νl.idxOf j:Nat):Int):=by
   refine fB (by simpa using cz) fun j h1 h2=>?_
   rw [d8,ig];exact dE j _ (b6 h1)
  rw [ey] at Gg;refine aF fun _ hR=>aY (pW (xs:=(List.range n).map fun i:Nat=>V.int (0+(i:Int))) (n:=n) (cq _) (fun R h=>⟨_,rfl,(n:Int),rfl,by lia,by lia,by rw [eJ];exact h _ _ (af.refl _) kX⟩) (cN (by lia)) (fun _ i y Hx=>Hx y=some (.lst ((List.range n).map fun j=>vf (νl.idxOf i) (νl.idxOf j)))∧H1 y=none) ?_ ?_ ?_)
  ·intro D i y Ha Hb ys ⟨h1,h2⟩ hy e f
   exact ⟨f y _ hy h1,h2⟩
  ·intro D i x hx Hc R sc _ kc
   obtain ⟨hi,rfl⟩:=iM hx;refine jW (xs:=(List.range n).map fun i:Nat=>V.int (0+(i:Int))) (fun R h=>⟨_,rfl,(n:Int),rfl,by lia,by lia,by rw [eJ];exact h _ _ (af.refl _) kX⟩) (by rw [cq];exact cN (by lia)) (fun _ j y _=>y=vf (νl.idxOf i) (νl.idxOf j)) (fun _ _ _ _ _ _ h _ _=>h) ?_ ?_
   ·intro D1 j x hx Hd R' sd _ kd
    obtain ⟨hj,rfl⟩:=iM hx;have S2:=s1.trans (sc.trans sd);have eb:=(sc.trans sd) _ _ Gg;rw [iS,iS];exact ⟨_,rfl,_,rfl,_,rfl,bk,_,_,_,rfl,rfl,.of eb,cy hi,tab,_,_,_,rfl,rfl,.of (S2 _ _ pc.tab.lst),cy (bl hi),_,rfl,_,rfl,bk,_,_,_,rfl,rfl,.of eb,cy hj,rt (νl.idxOf i),_,_,_,rfl,rfl,.of (S2 _ _ (pc.tab.at' _ (bl hi))),cy (bl hj),kd _ Hd (af.refl _) rfl⟩
   ·intro D1 ys Hd nj sd cz dE eD
    rw [cq] at cz;refine kc D1 Hd sd nj ⟨_,eD⟩ ⟨?_,none_of sc nj⟩;rw [eD]
    congr 2
    refine fB (by simp [cz]) fun j h1 h2=>?_
    rw [d8,ig];exact dE j _ (b6 h1)
  ·intro t2 r2 H2 nt2 s2 inj hA YE
   refine hR _ _ ?_;have W2:WTab H2 t2 n r2 (fun i j=>vf (νl.idxOf i) (νl.idxOf j)):=⟨YE,inj,fun i hi=>(hA i hi).2,fun i hi=>(hA i hi).1.1⟩;have dB:=s1.trans s2;have YF:∀{k:Nat} {x:V},(az o)[k]?=some x→∃c,c<n∧o[k]?=some c∧x=.int (c:Int):=fun{k x} h=>by obtain ⟨c,hc,rfl⟩:=int_at h;exact ⟨c,(bF pc.cE).mp (fZ hc),hc,rfl⟩
   refine iI ⟨_,rfl,?_⟩;refine KJ (jW (xs:=az o) (fun R h=>⟨_,rfl,od,rfl,⟨_,.of (dB _ _ pc.ord)⟩,h _ _ (af.refl _) (ju (.of (dB _ _ pc.ord)))⟩) (by rw [ll];exact cN (by lia)) (fun _ k y _=>∀c,o[k]?=some c→y=.int ((a8 νl c:Nat):Int)) (fun _ _ _ _ _ _ h _ _=>h) ?_ ?_)
   ·intro D k x hx Hc R sc _ kc
    obtain ⟨c,hc,hk,rfl⟩:=YF hx;have hl:c<νl.length:=by lia
    have e1:(az νl)[c]?=some (.int ((a8 νl c:Nat):Int)):=by unfold az a8;rw [cx,b6 hl,getD_at hl];rfl
    refine ⟨_,rfl,_,rfl,nm,_,_,_,rfl,rfl,.of (sc _ _ (dB _ _ k9)),iZ e1,kc _ Hc (af.refl _) fun c' d9=>?_⟩;rw [hk] at d9;cases d9;rfl
   ·intro o2 ys H3 no2 s3 cz dE yW
    rw [ll] at cz;have ey:ys=az (o.map (a8 νl)):=by
     unfold az;refine fB (by simp;lia) fun k h1 h2=>?_
     have hk:k<o.length:=by lia
     rw [d8,d8];exact dE k _ (b6 h1) o[k] (b6 hk)
    rw [ey] at yW;have mi:=dB.trans s3;refine KJ (jW (xs:=(List.range n).map fun i:Nat=>V.int (0+(i:Int))) (fun R h=>⟨_,rfl,(n:Int),rfl,by lia,by lia,by rw [eJ];exact h _ _ (af.refl _) kX⟩) (by rw [cq];exact cN (by lia)) (fun _ j y _=>y=av (νl.idxOf j)) (fun _ _ _ _ _ _ h _ _=>h) ?_ ?_)
    ·intro D j x hx Hc R sc _ kc
     obtain ⟨hj,rfl⟩:=iM hx;rw [iS];exact ⟨_,rfl,_,rfl,_,rfl,bk,_,_,_,rfl,rfl,.of (sc _ _ (s3 _ _ (s2 _ _ Gg))),cy hj,am,_,_,_,rfl,rfl,.of (sc _ _ (mi _ _ pc.tR)),cy (bl hj),kc _ Hc (af.refl _) rfl⟩
    ·intro a2 zs H4 na2 s4 Nw YG wq
     rw [cq] at Nw;have YH:zs=(List.range n).map fun j=>av (νl.idxOf j):=by
      refine fB (by simp [Nw]) fun j h1 h2=>?_
      rw [d8,ig];exact YG j _ (b6 h1)
     rw [YH] at wq;refine ⟨by show 3≤sizeLine;decide,fun tp eF=>?_⟩
     have s5:af H4 (upd H4 tp (.tup [.ref t2,.ref o2,.ref a2])):=aS eF;have Gh:=s3.trans (s4.trans s5);exact kk tp t2 o2 a2 r2 _ (dB.trans Gh) aA ((pc.mono (dB.trans Gh)).Vf hν (W2.mono Gh) (s5 _ _ (s4 _ _ yW)) (s5 _ _ wq))
theorem YI:bD ["found","other","names","at"] ["found","other","names"] (aP BF):=bM
theorem YJ(T:Txt K mg t):bh P w K mg base b5 2 t.qY t.u7 ["found","other","names"] Vg:=by
 have S:=YI;refine T.vU.cm S (fun _ _ _ _ H _ _ _ hr h=>?_);obtain ⟨fd,dZ,nm,r,r2,q,n,at',at2,o,νl,lv,eU,f,rfl,hq,n9,ho,hν,k9,out,rW,kk⟩:=h;have i7:=hr.units
 refine ⟨_,(aq (cu (bR jk (ax a_ (pv 0) ah) (ax a_ (pv 1) ah)) (ay (ba kJ)) cH)
  (aq (pP 3 S.nd (aB d_ ah (lN Dm rfl T.yB boot_int (aa (nV fE (ax a_ (pv 0) ah) eN) ae))))
  (aq (cu (bR jk (ax a_ (pv 1) (aB jj ah (pv 3))) (ax a_ (pv 0) (aB jj ah (pv 3)))) (ay (ba kJ)) cH)
  (ay (ba (nV (RR (n:=1) i7) (gQ (N:=["k","other","at","names"]) (ρ:=(fun σ=>[σ[1]?.join,σ[3]?.join,σ[2]?.join])) (eA [1,3,2] rfl) rfl (gN rfl T.fM (aa (cM gB rfl T.fL fN (aa (pv 2) ae)) ae)) (fun _ _ _=>.nil) (fun _ _ _=>(ax (iH (K:=K)) (ax (RW (K:=K)) (pv 1) (pv 2)) (ax (iH (K:=K)) (pv 3) (pv 0))))) (ax a_ (pv 0) (pv 3)))))))),?_⟩
 have lo:=cw ho;have ln:=cw hν;have lr:(o.map (a8 νl)).length=n:=by rw [aJ,lo]
 have lν:(az νl).length=n:=by unfold az;rw [aJ,ln]
 have cq:∀g:Nat→V,((List.range n).map g).length=n:=fun g=>by rw [aJ,dc]
 have Nx:(∀c,c<n→∃T U T' U':Int,aO (dh n 997) H q (eU (a8 νl c)) T U∧aO (dh n 997) H q (lv c) T' U'∧Cg q (T*U') (T'*U))→∀c,c<n→∃x m,bj (dh n 997) H q (eU (a8 νl c)) x m∧bj (dh n 997) H q (lv c) x m:=fun h c hc=>by obtain ⟨T1,U1,T2,U2,w1,w2,e⟩:=h c hc;exact Ks hq w1 w2 e
 cases out with
 | one g gd dQ e er ew ea=>
  obtain ⟨Gi,d',_⟩:=AB hq hν ho gd;cases rW with
  | fU k2 k6 g2 qa=>exact (tQ lr k6 qa Gi).elim
  | one g2 p_ Gj e2 wu wx wq=>
   have YK:=Vb hν ho dQ Gj;have lk:=Nx fun c hc=>⟨_,_,_,_,wx _ (fV hν hc).2,ew c hc,by rw [d'];exact (Vc hq hν ho gd c hc).mulR _⟩
   refine aF fun _ hR=>⟨_,rfl,fd,_,_,_,rfl,rfl,.of e,rfl,_,rfl,dZ,_,_,_,rfl,rfl,.of e2,rfl,rfl,false,by decide +kernel,cR (hR _ _ ?_)⟩
   refine aF fun _ hR=>aY ⟨_,rfl,fd,_,_,_,rfl,rfl,.of e,rfl,rfl,.inr ⟨_,rfl,_,_,rfl,rfl,hR _ _ ?_⟩⟩;rw [show decide (V.str (Str.ofString "one")=V.str (Str.ofString "stops"))=false by decide +kernel]
   refine aF fun _ hR=>⟨_,rfl,_,rfl,_,_,rfl,rfl,dZ,_,_,_,rfl,rfl,.of e2,rfl,_,rfl,_,rfl,_,_,rfl,rfl,fd,_,_,_,rfl,rfl,.of e,rfl,rfl,false,by rw [YK];simp,cR (hR _ _ ?_)⟩
   refine iI ?_;dsimp only [lL];refine jW (xs:=(List.range n).map fun i:Nat=>V.int (0+(i:Int))) (fun R h=>⟨_,rfl,nm,_,rfl,.inl (.of k9),_,rfl,by rw [lν];lia,by rw [lν];lia,by rw [lν,eJ];exact h _ _ (af.refl _) kX⟩) (by rw [cq];exact cN (by lia)) (fun _ c y _=>y=eU (a8 νl c)) (fun _ _ _ _ _ _ h _ _=>h) ?_ ?_
   ·intro D c x hx Hc R sc _ kc
    obtain ⟨hc,rfl⟩:=iM hx;rw [iS];have hl:c<νl.length:=by lia
    have e1:(az νl)[c]?=some (.int ((a8 νl c:Nat):Int)):=by unfold az a8;rw [cx,b6 hl,getD_at hl];rfl
    exact ⟨_,rfl,_,rfl,dZ,_,_,_,rfl,rfl,.of (sc _ _ e2),rfl,_,rfl,_,rfl,nm,_,_,_,rfl,rfl,.of (sc _ _ k9),iZ e1,r2,_,_,_,rfl,rfl,.of (sc _ _ wu),cy (fV hν hc).2,kc _ Hc (af.refl _) rfl⟩
   ·intro D ys Hc nD sc cz dE eD
    rw [cq] at cz;refine ⟨_,rfl,_,rfl,fd,_,_,_,rfl,rfl,.of (sc _ _ e),rfl,D,r,_,_,rfl,rfl,.of eD,.of (sc _ _ er),by rw [cz,cq],fun c x y hx hy=>?_,kk Hc sc⟩
    obtain ⟨hc,rfl⟩:=iM hy;rw [dE c x hx];obtain ⟨x1,m1,u1,u2⟩:=lk c hc;exact EF (u1.mono sc) (u2.mono sc)
 | fU k hk g d e er ew ea=>
  obtain ⟨Gi,d',YL,_⟩:=AB hq hν ho g;have ht:o[k]<n:=(bF ho).mp (dj hk);have dR:k<(o.map (a8 νl)).length:=by rw [aJ];exact hk
  have ek:(o.map (a8 νl))[k]=a8 νl o[k]:=d8 ..;have rQ:q∣ao (ag q n (cY n νl f)) (cO (o.map (a8 νl)) k) (ag q n (cY n νl f) (o.map (a8 νl))[k]) (o.map (a8 νl))[k]:=by rw [ek,YL _ _ ht ht];exact d
  cases rW with
  | one g2 p_=>exact (tQ lr dR rQ p_).elim
  | fU k2 k6 g2 qa e2 wu wx wq=>
   have YM:=Kr lr dR k6 Gi rQ g2 qa;subst YM;have lk:=Nx fun c hc=>⟨_,_,_,_,wx _ (fV hν hc).2,ew c hc,by rw [d'];exact (Vd hq hν ho hk dR g c hc).mulR _⟩
   refine aF fun _ hR=>⟨_,rfl,fd,_,_,_,rfl,rfl,.of e,rfl,_,rfl,dZ,_,_,_,rfl,rfl,.of e2,rfl,rfl,false,by decide +kernel,cR (hR _ _ ?_)⟩
   refine aF fun _ hR=>aY ⟨_,rfl,fd,_,_,_,rfl,rfl,.of e,rfl,rfl,.inr ⟨_,rfl,_,_,rfl,rfl,hR _ _ ?_⟩⟩;rw [show decide (V.str (Str.ofString "stops")=V.str (Str.ofString "stops"))=true by decide +kernel]
   refine aF fun _ hR=>⟨_,rfl,_,rfl,_,_,rfl,rfl,dZ,_,_,_,rfl,rfl,.of e2,rfl,_,rfl,_,rfl,_,_,rfl,rfl,fd,_,_,_,rfl,rfl,.of e,rfl,rfl,false,by simp,cR (hR _ _ ?_)⟩
   refine iI ?_;dsimp only [lL];refine jW (xs:=(List.range n).map fun i:Nat=>V.int (0+(i:Int))) (fun R h=>⟨_,rfl,nm,_,rfl,.inl (.of k9),_,rfl,by rw [lν];lia,by rw [lν];lia,by rw [lν,eJ];exact h _ _ (af.refl _) kX⟩) (by rw [cq];exact cN (by lia)) (fun _ c y _=>y=eU (a8 νl c)) (fun _ _ _ _ _ _ h _ _=>h) ?_ ?_
   ·intro D c x hx Hc R sc _ kc
    obtain ⟨hc,rfl⟩:=iM hx;rw [iS];have hl:c<νl.length:=by lia
    have e1:(az νl)[c]?=some (.int ((a8 νl c:Nat):Int)):=by unfold az a8;rw [cx,b6 hl,getD_at hl];rfl
    exact ⟨_,rfl,_,rfl,dZ,_,_,_,rfl,rfl,.of (sc _ _ e2),rfl,_,rfl,_,rfl,nm,_,_,_,rfl,rfl,.of (sc _ _ k9),iZ e1,r2,_,_,_,rfl,rfl,.of (sc _ _ wu),cy (fV hν hc).2,kc _ Hc (af.refl _) rfl⟩
   ·intro D ys Hc nD sc cz dE eD
    rw [cq] at cz;refine ⟨_,rfl,_,rfl,fd,_,_,_,rfl,rfl,.of (sc _ _ e),rfl,D,r,_,_,rfl,rfl,.of eD,.of (sc _ _ er),by rw [cz,cq],fun c x y hx hy=>?_,kk Hc sc⟩
    obtain ⟨hc,rfl⟩:=iM hy;rw [dE c x hx];obtain ⟨x1,m1,u1,u2⟩:=lk c hc;exact EF (u1.mono sc) (u2.mono sc)
theorem YN:bD ["told","one","other","nought","lines"] ["told","one","other"] (aP BG):=bM
theorem YO(T:Txt K mg t):bh P w K mg base b5 4 t.qZ t.u9 ["told","one","other"] Vv:=by
 have S:=YN;refine T.vV.cm S (fun _ _ _ _ H _ _ _ hr h=>?_);obtain ⟨td,a,b,q,n,m,ra,rb,vf,di,rfl,tw,hq,wa,wb,n9,m9,kk⟩:=h
 refine ⟨_,(aq (pP 3 S.nd (aI (yP T) hr T.vR T.mh.kp T.vQ aM (aa (pv 0) ae)))
  (aq (oq (i0:=4) (N:=["row","other","nought"]) (ρ:=(fun σ=>[σ[2]?.join,σ[3]?.join])) (eA [2,3] rfl) rfl S.nd rfl (Or.inl rfl) (fD (pv 1)) (fun _ _ _=>.nil) (fun _ _ _=>(aB pL (pv 0) (gQ (N:=["j","nought"]) (ρ:=(fun σ=>[σ[2]?.join])) (eA [2] rfl) rfl (Ji (K:=K) (pv 1)) (fun _ _ _=>.nil) (fun _ _ _=>(pv 1))))))
  (ay (ba (aB pL (pv 4) (gQ (N:=["row","one","nought"]) (ρ:=(fun σ=>[σ[1]?.join,σ[3]?.join])) (eA [1,3] rfl) rfl (fD (pv 2)) (fun _ _ _=>.nil) (fun _ _ _=>(aB pL (gQ (N:=["j","nought"]) (ρ:=(fun σ=>[σ[2]?.join])) (eA [2] rfl) rfl (Ji (K:=K) (pv 1)) (fun _ _ _=>.nil) (fun _ _ _=>(pv 1))) (pv 0))))))))),?_⟩
 have cq:∀(k:Nat) (g:Nat→V),((List.range k).map g).length=k:=fun k g=>by rw [aJ,dc]
 refine aF fun _ hR=>aY ⟨_,rfl,td,q,rfl,tw,hq,fun v0 H1 s1 h0=>hR _ _ ?_⟩;have same:∀{k:Nat} {g:Nat→V} {ys:List V},ys.length=((List.range k).map g).length→(∀(i:Nat) (y:V),ys[i]?=some y→y=v0)→ys=(List.range k).map fun _=>v0:=fun{k g ys} l h=>by
  refine fB (by simpa using l) fun j h1 h2=>?_
  rw [d8];exact h j _ (b6 h1)
 refine aF fun _ hR=>aY (pW (xs:=(List.range n).map fun i=>V.ref (ra i)) (n:=n) (cq _ _) (fun R h=>⟨_,rfl,a,rfl,⟨_,.of (s1 _ _ wa.lst)⟩,h _ _ (af.refl _) (ju (.of (s1 _ _ wa.lst)))⟩) (cN (by lia)) (fun _ i y Hx=>Hx y=some (.lst ((List.range n).map (vf i)++(List.range m).map fun _=>v0))∧H1 y=none) ?_ ?_ ?_)
 ·intro D i y Ha Hb ys ⟨h1,h2⟩ hy e f
  exact ⟨f y _ hy h1,h2⟩
 ·intro D i x hx Hc R sc _ kc
  obtain ⟨hi,rfl⟩:=iM hx;refine ⟨_,rfl,jW (xs:=(List.range m).map fun i=>V.ref (rb i)) (fun R h=>⟨_,rfl,b,rfl,⟨_,.of (sc _ _ (s1 _ _ wb.lst))⟩,h _ _ (af.refl _) (ju (.of (sc _ _ (s1 _ _ wb.lst))))⟩) (by rw [cq];exact cN (by lia)) (fun _ j y _=>y=v0) (fun _ _ _ _ _ _ h _ _=>h) ?_ ?_⟩
  ·intro D1 j x hx Hd R' sd _ kd
   exact ⟨_,rfl,kd _ Hd (af.refl _) rfl⟩
  ·intro D1 ys Hd nj sd cz dE eD
   rw [same cz dE] at eD;refine ⟨ra i,D1,_,_,rfl,rfl,sd _ _ (sc _ _ (s1 _ _ (wa.at' i hi))),eD,by rw [cq,cq];exact jF (cN (by lia)),fun p np=>kc p _ (sd.trans (aS np)) (none_of sd np) ⟨_,aA⟩ ⟨aA,none_of sc (none_of sd np)⟩⟩
 ·intro D1 A1 H2 nj s2 YQ Gk Cf
  refine hR _ _ ?_;have dB:=s1.trans s2;refine iI ⟨_,rfl,pW (xs:=(List.range m).map fun i=>V.ref (rb i)) (n:=m) (cq _ _) (fun R h=>⟨_,rfl,b,rfl,⟨_,.of (dB _ _ wb.lst)⟩,h _ _ (af.refl _) (ju (.of (dB _ _ wb.lst)))⟩) (cN (by lia)) (fun _ i y Hx=>Hx y=some (.lst (((List.range n).map fun _=>v0)++(List.range m).map (di i)))∧H2 y=none) ?_ ?_ ?_⟩
  ·intro D i y Ha Hb ys ⟨h1,h2⟩ hy e f
   exact ⟨f y _ hy h1,h2⟩
  ·intro D i x hx Hc R sc _ kc
   obtain ⟨hi,rfl⟩:=iM hx;refine jW (xs:=(List.range n).map fun i=>V.ref (ra i)) (fun R h=>⟨_,rfl,a,rfl,⟨_,.of (sc _ _ (dB _ _ wa.lst))⟩,h _ _ (af.refl _) (ju (.of (sc _ _ (dB _ _ wa.lst))))⟩) (by rw [cq];exact cN (by lia)) (fun _ j y _=>y=v0) (fun _ _ _ _ _ _ h _ _=>h) ?_ ?_
   ·intro D1 j x hx Hd R' sd _ kd
    exact ⟨_,rfl,kd _ Hd (af.refl _) rfl⟩
   ·intro D1 ys Hd nj sd cz dE eD
    rw [same cz dE] at eD;refine ⟨_,rfl,D1,rb i,_,_,rfl,rfl,eD,sd _ _ (sc _ _ (dB _ _ (wb.at' i hi))),by rw [cq,cq];exact jF (cN (by lia)),fun p np=>kc p _ (sd.trans (aS np)) (none_of sd np) ⟨_,aA⟩ ⟨aA,none_of sc (none_of sd np)⟩⟩
  ·intro D2 A2 H3 FP s3 YR Gm wm
   refine ⟨D1,D2,_,_,rfl,rfl,s3 _ _ Cf,wm,by rw [cq,cq];exact jF (cN (by lia)),fun p np=>?_⟩
   have s4:af H3 (upd H3 p (.lst (((List.range n).map fun i=>V.ref (A1 i))++(List.range m).map fun i=>V.ref (A2 i)))):=aS np;refine kk p _ v0 _ (dB.trans (s3.trans s4)) (h0.mono (s2.trans (s3.trans s4))) (WTab.join aA YQ YR (fun i j hi hj e=>?_) (fun i hi e=>?_) (fun i hi e=>?_) (fun i hi=>s4 _ _ (s3 _ _ (Gk i hi).1.1)) (fun i hi=>s4 _ _ (Gm i hi).1.1))
   ·have:=(Gk i hi).1.1
    rw [e,(Gm j hj).1.2] at this;cases this
   ·have:=s3 _ _ (Gk i hi).1.1
    rw [e,np] at this;cases this
   ·have:=(Gm i hi).1.1
    rw [e,np] at this;cases this
theorem YS:bD ["tape","order","other","left","right","found"] ["tape","order","other"] (aP BH):=bM
theorem YT(T:Txt K mg t):bh P w K mg base b5 2 t.q5 t.u_ ["tape","order","other"] Vy:=by
 have S:=YS;refine T.vW.cm S (fun _ _ _ _ H _ _ _ hr h=>?_);obtain ⟨Tp,od,ot,n,m,o,o2,rfl,tc,Ny,otT,eo,yW,po,p2,p7,tW,kk⟩:=h;have i7:=hr.units
 refine ⟨_,(aq (putL 3 S.nd (lN Jj rfl T.rM boot_list (aa (pv 1) ae)))
  (aq (oq (i0:=4) (N:=["k","order"]) (ρ:=(fun σ=>[σ[1]?.join])) (eA [1] rfl) rfl S.nd rfl (Or.inl rfl) (fD (pv 2)) (fun _ _ _=>.nil) (fun _ _ _=>(aB d_ (cM (DW (K:=K)) rfl T.fL fN (aa (pv 1) ae)) (pv 0))))
  (aq (putL 5 S.nd (gA ae))
  (aq (sA dU (PW.pt (pw_or (bR (D6 i7) (pv 3) (gA ae)) (pw_or1 (bR (D6 i7) (pv 4) (gA ae))))) (ay (cu (PW.pt (pw_or (bR (JP i7) (pv 4) (gA ae)) (pw_or1 (PW.pt (pw_and (bR (D6 i7) (pv 3) (gA ae)) (pw_and1 (bR fE (aI (jE T) hr T.iP T.gq.kp T.iO aM (aa (pv 0) (aa ah ae))) ah))))))) (ay (kK (jR jK xa xb nW (pv 5) (aa (jR jK PySem.F.slot_list_pop PySem.F.type_list_pop IH (pv 3) (aa ah ae)) ae)))) (ay (kK (jR jK xa xb nW (pv 5) (aa (jR jK PySem.F.slot_list_pop PySem.F.type_list_pop IH (pv 4) (aa ah ae)) ae)))))))
  (ay (ba (pv 5))))))),?_⟩
 have ll:(az o).length=n:=by unfold az;rw [aJ,cw po]
 have l2:(az o2).length=m:=by unfold az;rw [aJ,cw p2]
 refine aF fun _ hR=>aY ⟨_,rfl,od,_,rfl,.inl (.of eo),fun la Gn=>hR _ _ ?_⟩;have s1:af H (upd H la (.lst (az o))):=aS Gn;have e1:upd H la (.lst (az o)) la=some (.lst (az o)):=aA;generalize upd H la (.lst (az o))=H1 at s1 e1 ⊢;refine aF fun _ hR=>aY (jW (xs:=az o2) (fun R h=>⟨_,rfl,ot,rfl,⟨_,.of (s1 _ _ yW)⟩,h _ _ (af.refl _) (ju (.of (s1 _ _ yW)))⟩) (by rw [l2];exact cN (by lia)) (fun _ k y _=>∀c,o2[k]?=some c→y=.int ((n+c:Nat):Int)) (fun _ _ _ _ _ _ h _ _=>h) ?_ ?_)
 ·intro D k x hx Hc R sc _ kc
  obtain ⟨c,hc,rfl⟩:=int_at hx;refine ⟨_,rfl,od,_,rfl,.inl (.of (sc _ _ (s1 _ _ eo))),_,rfl,_,_,rfl,rfl,kc _ Hc (af.refl _) fun c' d9=>?_⟩;rw [hc] at d9;cases d9;rw [ll]
  congr 1
 ·intro ra ys H2 Gp s2 cz dE era
  refine hR _ _ ?_;have ey:ys=az (o2.map (n + ·)):=by
   unfold az at cz ⊢;refine fB (by simpa using cz) fun j h1 h2=>?_
   rw [aJ] at cz;have hj:j<o2.length:=by lia
   rw [d8,d8];exact dE j _ (b6 h1) _ (b6 hj)
  rw [ey] at era;refine aF fun _ hR=>aY ⟨b_ _,fun fa yX=>hR _ _ ?_⟩;have s3:af H2 (upd H2 fa (.lst [])):=aS yX;have e3:upd H2 fa (.lst []) fa=some (.lst []):=aA;generalize upd H2 fa (.lst [])=H3 at s3 e3 ⊢;have AA:AK H Tp la ra fa:=⟨Gn,none_of s1 Gp,none_of s1 (none_of s2 yX),fun z=>(by rw [z,Gp] at e1;cases e1),fun z=>(by have:=s2 _ _ e1;rw [z,yX] at this;cases this),fun z=>(by rw [z,yX] at era;cases era),tc.ne Gn,tc.ne (none_of s1 Gp),tc.ne (none_of s1 (none_of s2 yX))⟩
  have S3:=s1.trans (s2.trans s3);refine mR ⟨fun μ σ Hc=>∃(i j:Nat) (F:List Nat),σ=[some (.ref Tp),some (.ref od),some (.ref ot),some (.ref la),some (.ref ra),some (.ref fa)]∧μ=(n-i)+(m-j)∧gK H Hc Tp la ra fa n m o o2 i j F,⟨_,0,0,[],rfl,rfl,aX.of S3,tc.mono S3,s3 _ _ (s2 _ _ e1),s3 _ _ era,e3,rfl,rfl,b_ _,b_ _,rfl⟩,?_⟩;rintro μ σ Hc ⟨i,j,F,rfl,eμ,I⟩;refine ⟨_,rfl,b_ _,fun x1 YU=>?_⟩;have I1:=I.mono (aS (o:=.lst []) YU);refine ⟨la,x1,_,rfl,rfl,.of I1.el,aA,_,rfl,?_⟩;rw [E2 po];have hN:∀(σ':St) (H':Hp),(∃(i' j':Nat) (F':List Nat),σ'=[some (.ref Tp),some (.ref od),some (.ref ot),some (.ref la),some (.ref ra),some (.ref fa)]∧i'+j'=i+j+1∧gK H H' Tp la ra fa n m o o2 i' j' F')→∃m',m'<μ∧∃(i j:Nat) (F:List Nat),σ'=[some (.ref Tp),some (.ref od),some (.ref ot),some (.ref la),some (.ref ra),some (.ref fa)]∧m'=(n-i)+(m-j)∧gK H H' Tp la ra fa n m o o2 i j F:=by rintro σ' H' ⟨i',j',F',rfl,e,I'⟩;have:=I'.hi;have:=I'.hj;have:=I.hi;have:=I.hj;exact ⟨_,by lia,i',j',F',rfl,rfl,I'⟩
  by_cases hi:i<n
  ·rw [da hi]
   refine e9 (e9 ⟨_,hN,?_⟩);refine ⟨_,rfl,b_ _,fun x2 Gq=>?_⟩;have I2:=I1.mono (aS (o:=.lst []) Gq);refine ⟨ra,x2,_,[],rfl,rfl,.of (by rw [I2.er,AL]),.of aA,_,rfl,?_⟩
   rw [K_ p2];by_cases hj:j<m
   ·rw [cJ (fun z=>z hj)]
    refine cR ⟨_,rfl,b_ _,fun x3 Gr=>?_⟩;have I3:=I2.mono (aS (o:=.lst []) Gr);refine ⟨la,x3,_,rfl,rfl,.of I3.el,aA,_,rfl,?_⟩;rw [E2 po,da hi];refine e9 ⟨_,rfl,Tp,2,rfl,I3.AJ,by decide,by decide,fun d H4 hd o4 t4=>?_⟩
    have I4:=I3.dig AA o4 t4;refine ⟨rfl,_,rfl,cS (fun _=>?_) (fun _=>?_)⟩;·exact I4.K8 AA po p7 tW hi rfl rfl fun F' H' I'=>⟨_,_,F',rfl,by lia,I'⟩
    ·exact I4.K9 AA p2 p7 tW hj rfl rfl fun F' H' I'=>⟨_,_,F',rfl,by lia,I'⟩
   ·rw [da hj]
    refine e9 (e9 ?_);exact I2.K8 AA po p7 tW hi rfl rfl fun F' H' I'=>⟨_,_,F',rfl,by lia,I'⟩
  ·rw [cJ hi]
   refine cR ⟨_,rfl,b_ _,fun x2 Gq=>?_⟩;have I2:=I1.mono (aS (o:=.lst []) Gq);refine ⟨ra,x2,_,rfl,rfl,.of I2.er,aA,_,rfl,?_⟩;rw [VA p2];by_cases hj:j<m
   ·rw [da hj]
    refine e9 ⟨_,hN,?_⟩;refine ⟨_,rfl,b_ _,fun x3 Gr=>?_⟩;have I3:=I2.mono (aS (o:=.lst []) Gr);refine ⟨ra,x3,_,[],rfl,rfl,.of (by rw [I3.er,AL]),.of aA,_,rfl,?_⟩
    rw [K_ p2,cJ (fun z=>z hj)];refine cR ⟨_,rfl,b_ _,fun x4 YV=>?_⟩;have I4:=I3.mono (aS (o:=.lst []) YV);refine ⟨la,x4,_,rfl,rfl,.of I4.el,aA,_,rfl,?_⟩;rw [E2 po,cJ hi];refine cR (cR ?_);exact I4.K9 AA p2 p7 tW hj rfl rfl fun F' H' I'=>⟨_,_,F',rfl,by lia,I'⟩
   ·rw [cJ hj]
    refine cR ?_;exact ⟨_,rfl,kk fa F _ I2.off I2.AJ AA.nf I2.ef (I2.Vz po p2 hi hj)⟩
theorem YW:bD ["told","line","first","second","size","more","stops","mine"] ["told","line","first","second","size","more"] (aP BI):=bM
theorem YX(T:Txt K mg t):bh P w K mg base b5 4 t.q8 t.va ["told","line","first","second","size","more"] VU:=by
 have S:=YW;refine T.vX.cm S (fun _ _ _ _ H vs Q _ hr h=>?_);obtain ⟨td,ln,fd,dZ,r,r2,q,X,X2,n,m,a,a2,o,o2,line,f,f2,lv,eU,rfl,tw,hq,k_,la,n9,m9,out,rW,kk⟩:=h;have i7:=hr.units
 refine ⟨_,(aq (cu (PW.pt (pw_and (bR fE (ax a_ (pv 2) ah) eN) (pw_and1 (bR fE (ax a_ (pv 3) ah) eN)))) (ay (ba (eO (aa eN (aa (aB pL (ax a_ (pv 2) ah) (ax a_ (pv 3) ah)) (aa (aB d_ (ax a_ (pv 2) ah) (ax a_ (pv 3) ah)) ae)))))) cH)
  (aq (putL 6 S.nd (gA ae))
  (aq (cu (bR fE (ax a_ (pv 2) ah) eN) (aq (oq (i0:=7) (N:=["k","size"]) (ρ:=(fun σ=>[σ[4]?.join])) (eA [4] rfl) rfl S.nd rfl (Or.inl rfl) (fD (pv 1)) (fun _ _ _=>(.one (bR sG (pv 0) (pv 1)))) (fun _ _ _=>(pv 0)))
  (ay (kK (jR jK xa xb nW (pv 6) (aa (eO (aa (aB d_ (jR jK CW CY En (pv 1) (aa (ax b8 (pv 7) (aB jj (ax a_ (pv 2) ah) ah)) ae)) ah) (aa (aB pL (ax a_ (pv 2) ah) (gQ (N:=["k","told"]) (ρ:=(fun σ=>[σ[0]?.join])) (eA [0] rfl) rfl (gN rfl T.fM (aa (pv 5) ae)) (fun _ _ _=>.nil) (fun _ _ _=>(aI (yP T) hr T.vR T.mh.kp T.vQ aM (aa (pv 1) ae))))) ae))) ae))))) cH)
  (aq (cu (bR fE (ax a_ (pv 3) ah) eN) (aq (oq (i0:=7) (N:=["k","size"]) (ρ:=(fun σ=>[σ[4]?.join])) (eA [4] rfl) rfl S.nd rfl (Or.inl rfl) (fD (pv 1)) (fun _ _ _=>(.one (bR H_ (pv 0) (pv 1)))) (fun _ _ _=>(pv 0)))
  (ay (kK (jR jK xa xb nW (pv 6) (aa (eO (aa (aB d_ (jR jK CW CY En (pv 1) (aa (ax b8 (pv 7) (aB jj (ax a_ (pv 3) ah) ah)) ae)) ah) (aa (aB pL (gQ (N:=["k","told"]) (ρ:=(fun σ=>[σ[0]?.join])) (eA [0] rfl) rfl (gN rfl T.fM (aa (pv 4) ae)) (fun _ _ _=>.nil) (fun _ _ _=>(aI (yP T) hr T.vR T.mh.kp T.vQ aM (aa (pv 1) ae)))) (ax a_ (pv 3) ah)) ae))) ae))))) cH)
  (ay (ba (aB PZ (eO (aa eN ae)) (cM (VO rfl i7) rfl T.Fv boot_min (aa (pv 6) ae))))))))),?_⟩
 have lo:=cw la.po;have YY:=cw la.p2;have ll:=EX la;have Nz:(az line).length=n+m:=by unfold az;rw [aJ,ll]
 have cq:∀(k:Nat) (g:Nat→V),((List.range k).map g).length=k:=fun k g=>by rw [aJ,dc]
 have NA:∀{k:Nat} {H0:Hp} {Q':VK} {i:Nat} {σ:St},k≤9→af H H0→σ[i]?=some (some (.int (k:Int)))→σ[0]?.join=some (.ref td)→(∀(D:Addr) (ys:List V) (H':Hp),H0 D=none→af H0 H'→ys.length=k→(∀(j:Nat) (y:V),ys[j]?=some y→aO 1000 H' q y 0 1)→H' D=some (.lst ys)→Q' (.ref D) H')→iD (HP (iX (nM i) gg)) (fun σ=>[σ[0]?.join]) (fun _ H Q=>Q true H) (Dp Kl [] E0 (iX (nM 1) gg)) σ H0 Q':=fun{k H0 Q' i σ} hk s0 hi h0 kq=>by
  refine jW (xs:=(List.range k).map fun i:Nat=>V.int (0+(i:Int))) (fun R h=>⟨_,hi,(k:Int),rfl,by lia,by lia,by rw [eJ];exact h _ _ (af.refl _) kX⟩) (by rw [cq];exact cN (by lia)) (fun D _ y Hx=>aO 1000 Hx q y 0 1) (fun D _ y Ha Hb ys h e f=>Lg h e f) ?_ ?_
  ·intro D j x hx Hc R sc _ kc
   refine ⟨_,by show [σ[0]?.join][0]?=_;rw [h0];rfl,td,q,rfl,tw.mono (s0.trans sc),hq,fun v H' s' h'=>kc v H' s' ⟨0,1,h',by simp,xT hq⟩⟩
  ·intro D ys Hc nD sc cz dE eD
   rw [cq] at cz;exact kq D ys Hc nD sc cz dE eD
 refine aF fun R0 hR=>?_;have key:¬(aW q (ag q n f) (cO o n)∧aW q (ag q m f2) (cO o2 m))→R0 [some (.ref td),some (.ref ln),some (.ref fd),some (.ref dZ),some (.int (n:Int)),some (.int (m:Int)),none,none] H:=by
  intro nb;refine hR _ _ ?_;refine aF fun _ hR=>aY ⟨b_ _,fun sp Gs=>hR _ _ ?_⟩;have s0:af H (upd H sp (.lst [])):=aS Gs;have e0:upd H sp (.lst []) sp=some (.lst []):=aA;generalize upd H sp (.lst [])=H0 at s0 e0 ⊢;refine aF fun R1 hR=>?_;have k1:∀(v7:Option V) (vs:List V) (Hc:Hp),af H Hc→Hc sp=some (.lst vs)→t9 Hc sp q n m o line f vs→vs.length≤1→R1 [some (.ref td),some (.ref ln),some (.ref fd),some (.ref dZ),some (.int (n:Int)),some (.int (m:Int)),some (.ref sp),v7] Hc:=by
   intro v7 vs Hc sc ec m6 yh;refine hR _ _ ?_;refine aF fun R2 hR=>?_;have k2:∀(v7:Option V) (ws:List V) (Hd:Hp),af H Hd→Hd sp=some (.lst (vs++ws))→t9 Hd sp q n m o line f vs→yf Hd sp q n m o2 line f2 ws→R2 [some (.ref td),some (.ref ln),some (.ref fd),some (.ref dZ),some (.int (n:Int)),some (.int (m:Int)),some (.ref sp),v7] Hd:=by
    intro v7 ws Hd sd ed sa sb;refine hR _ _ ?_;refine iI ⟨by show 1≤sizeLine;decide,fun p np=>⟨_,rfl,?_⟩⟩
    have yY:af Hd (upd Hd p (.tup [.str (Str.ofString "stops")])):=aS np;have ep:upd Hd p (.tup [.str (Str.ofString "stops")]) p=some (.tup [.str (Str.ofString "stops")]):=aA;generalize upd Hd p (.tup [.str (Str.ofString "stops")])=He at yY ep ⊢;dsimp only [gg];refine V2 hq la (sa.off ed fun b u _ e=>yY b u e) (sb.off ed fun b u _ e=>yY b u e) nb (yY _ _ ed) fun t1 c1 xs ky e1 du=>?_;exact ⟨p,t1,_,_,rfl,rfl,.of ep,.of e1,(fun z=>nomatch z),by show 3≤sizeLine;decide,(fun z=>nomatch z),fun _ D nD=>kk D c1 xs _ (sd.trans (yY.trans (aS nD))) (du D _ (aS nD) aA)⟩
   cases rW with
   | one g gd dQ e er ew ea=>
    refine ⟨_,rfl,dZ,_,_,_,rfl,rfl,.of (sc _ _ e),rfl,rfl,false,by decide +kernel,cR ?_⟩
    exact k2 v7 [] Hc sc (by rw [lz];exact ec) m6 (.inl ⟨gd,rfl⟩)
   | fU k hk g d e er ew ea=>
    have hp:o2[k]<m:=(bF la.p2).mp (dj hk);refine ⟨_,rfl,dZ,_,_,_,rfl,rfl,.of (sc _ _ e),rfl,rfl,true,by decide +kernel,e9 ?_⟩
    refine aF fun _ hR=>aY (J5 (xs:=az line) (E5 n) (fun R h=>⟨_,rfl,ln,rfl,⟨_,.of (sc _ _ k_)⟩,h _ _ (af.refl _) (ju (.of (sc _ _ k_)))⟩) (by rw [Nz];exact cN (by lia)) ?_ (fun x Hc R h=>⟨_,rfl,h⟩) fun mn Hf YZ sf yZ=>hR _ _ ?_)
    ·intro x hx Hg R sg h
     obtain ⟨c,_,rfl⟩:=iT.mp hx;exact ⟨_,rfl,_,rfl,_,_,rfl,rfl,_,rfl,h⟩
    rw [VX,la.two] at yZ;have s1:=sc.trans sf;have ek:(az (o2.map (n + ·)))[k]?=some (.int ((n+o2[k]:Nat):Int)):=by unfold az;rw [cx,cx,b6 hk];rfl
    obtain ⟨i1,i2⟩:=EH la.cE (show n+o2[k]<n+m by lia)
    refine ⟨_,rfl,.inl ⟨rfl,_,.of (sf _ _ ec)⟩,_,rfl,.inl ⟨rfl,_,.of (s1 _ _ k_)⟩,_,rfl,_,rfl,dZ,_,_,_,rfl,rfl,.of (s1 _ _ e),rfl,_,_,rfl,rfl,mn,_,_,_,rfl,rfl,.of yZ,by rw [Int.add_sub_cancel];exact iZ ek,ln,line.map iN,line.idxOf (n+o2[k]),_,rfl,rfl,by rw [←AL];exact s1 _ _ k_,by rw [aJ];lia,i1,i2,_,_,rfl,rfl,?_⟩
    dsimp only [iX,lL];refine NA n9 s1 rfl rfl fun D ys Hg nD sg cz dE eD=>?_;have s2:=s1.trans sg;refine ⟨_,rfl,dZ,_,_,_,rfl,rfl,.of (s2 _ _ e),rfl,D,r2,_,_,rfl,rfl,eD,s2 _ _ er,by rw [cq,cz];exact jF (cN (by lia)),fun c1 rX=>?_⟩
    have s4:af Hg (upd Hg c1 (.lst (ys++(List.range m).map eU))):=aS rX;have e4:upd Hg c1 (.lst (ys++(List.range m).map eU)) c1=some (.lst (ys++(List.range m).map eU)):=aA;generalize upd Hg c1 (.lst (ys++(List.range m).map eU))=Hh at s4 e4 ⊢;refine ⟨by show 2≤sizeLine;decide,fun t1 Gu=>?_⟩
    have s5:af Hh (upd Hh t1 (.tup [.int ((line.idxOf (n+o2[k]):Int)+1),.ref c1])):=aS Gu;have e5:upd Hh t1 (.tup [.int ((line.idxOf (n+o2[k]):Int)+1),.ref c1]) t1=some (.tup [.int ((line.idxOf (n+o2[k]):Int)+1),.ref c1]):=aA;generalize upd Hh t1 (.tup [.int ((line.idxOf (n+o2[k]):Int)+1),.ref c1])=Hi at s5 e5 ⊢;have s6:=sg.trans (s4.trans s5);have ei:=s6 _ _ (sf _ _ ec);refine ⟨sp,_,_,rfl,rfl,ei,jH yh (by decide),?_⟩
    have of:∀b u,b≠sp→Hi b=some u→upd Hi sp (.lst (vs++[V.ref t1])) b=some u:=fun b u ne e=>(aK ne).trans e;have cs:c1≠sp:=fun z=>by have:=sg _ _ (sf _ _ ec);rw [←z,rX] at this;cases this
    have x8:ma Hi sp q (n+m) ((line.idxOf (n+o2[k]):Int)+1) (t6 q n m f2 o2 k o2[k]) (t8 q n m f2 o2 k) (.ref t1):=⟨t1,c1,_,rfl,e5,cs,s5 _ _ e4,by simp [cz],fun c x hx=>by
     unfold t6 t8;rcases E4 cz hx with ⟨hc,hx⟩ | ⟨hc,hx,_⟩
     ·rw [ak hc,ak hc]
      exact ⟨1000,(dE _ x hx).mono (s4.trans s5)⟩
     ·obtain ⟨hi,rfl⟩:=iM hx
      rw [aj hc,aj hc];exact ⟨X2,(ew _ hi).mono (s1.trans s6)⟩⟩
    exact k2 _ [.ref t1] _ (fun b u e=>of b u (fun z=>by rw [z,Gs] at e;cases e) ((s1.trans s6) b u e)) aA ((m6.off ec fun b u _ e=>(sf.trans s6) b u e).off ei of) (.inr ⟨k,hk,_,g,d,rfl,x8.off ei of⟩)
  cases out with
  | one g gd dQ e er ew ea=>
   refine ⟨_,rfl,fd,_,_,_,rfl,rfl,.of (s0 _ _ e),rfl,rfl,false,by decide +kernel,cR ?_⟩
   exact k1 _ [] H0 s0 e0 (.inl ⟨gd,rfl⟩) (by decide)
  | fU k hk g d e er ew ea=>
   have hp:o[k]<n:=(bF la.po).mp (dj hk);refine ⟨_,rfl,fd,_,_,_,rfl,rfl,.of (s0 _ _ e),rfl,rfl,true,by decide +kernel,e9 ?_⟩
   refine aF fun _ hR=>aY (J5 (xs:=az line) (Lf n) (fun R h=>⟨_,rfl,ln,rfl,⟨_,.of (s0 _ _ k_)⟩,h _ _ (af.refl _) (ju (.of (s0 _ _ k_)))⟩) (by rw [Nz];exact cN (by lia)) ?_ (fun x Hc R h=>⟨_,rfl,h⟩) fun mn Hf YZ sf yZ=>hR _ _ ?_)
   ·intro x hx Hg R sg h
    obtain ⟨c,_,rfl⟩:=iT.mp hx;exact ⟨_,rfl,_,rfl,_,_,rfl,rfl,_,rfl,h⟩
   rw [VW,la.one] at yZ;have s1:=s0.trans sf;have ek:(az o)[k]?=some (.int ((o[k]:Nat):Int)):=by unfold az;rw [cx,b6 hk];rfl
   obtain ⟨i1,i2⟩:=EH la.cE (show o[k]<n+m by lia)
   refine ⟨_,rfl,.inl ⟨rfl,_,.of (sf _ _ e0)⟩,_,rfl,.inl ⟨rfl,_,.of (s1 _ _ k_)⟩,_,rfl,_,rfl,fd,_,_,_,rfl,rfl,.of (s1 _ _ e),rfl,_,_,rfl,rfl,mn,_,_,_,rfl,rfl,.of yZ,by rw [Int.add_sub_cancel];exact iZ ek,ln,line.map iN,line.idxOf o[k],_,rfl,rfl,by rw [←AL];exact s1 _ _ k_,by rw [aJ];lia,i1,i2,_,_,rfl,rfl,?_⟩
   refine ⟨_,rfl,fd,_,_,_,rfl,rfl,.of (s1 _ _ e),rfl,NA m9 s1 rfl rfl fun D ys Hg nD sg cz dE eD=>?_⟩;refine ⟨r,D,_,_,rfl,rfl,sg _ _ (s1 _ _ er),eD,by rw [cq,cz];exact jF (cN (by lia)),fun c1 rX=>?_⟩
   have s4:af Hg (upd Hg c1 (.lst ((List.range n).map lv++ys))):=aS rX;have e4:upd Hg c1 (.lst ((List.range n).map lv++ys)) c1=some (.lst ((List.range n).map lv++ys)):=aA;generalize upd Hg c1 (.lst ((List.range n).map lv++ys))=Hh at s4 e4 ⊢;refine ⟨by show 2≤sizeLine;decide,fun t1 Gu=>?_⟩
   have s5:af Hh (upd Hh t1 (.tup [.int ((line.idxOf o[k]:Int)+1),.ref c1])):=aS Gu;have e5:upd Hh t1 (.tup [.int ((line.idxOf o[k]:Int)+1),.ref c1]) t1=some (.tup [.int ((line.idxOf o[k]:Int)+1),.ref c1]):=aA;generalize upd Hh t1 (.tup [.int ((line.idxOf o[k]:Int)+1),.ref c1])=Hi at s5 e5 ⊢;have s6:=sg.trans (s4.trans s5);have ei:=s6 _ _ (sf _ _ e0);refine ⟨sp,_,_,rfl,rfl,ei,by show 0<sizeLine;decide,?_⟩
   have of:∀b u,b≠sp→Hi b=some u→upd Hi sp (.lst ([]++[V.ref t1])) b=some u:=fun b u ne e=>(aK ne).trans e;have cs:c1≠sp:=fun z=>by have:=sg _ _ (sf _ _ e0);rw [←z,rX] at this;cases this
   have x8:ma Hi sp q (n+m) ((line.idxOf o[k]:Int)+1) (tY q n f o k o[k]) (tZ q n f o k) (.ref t1):=⟨t1,c1,_,rfl,e5,cs,s5 _ _ e4,by simp [cz],fun c x hx=>by
    unfold tY tZ;rcases E4 (n:=n) (by simp) hx with ⟨hc,hx⟩ | ⟨hc,hx,_⟩
    ·obtain ⟨hi,rfl⟩:=iM hx
     rw [ak hc,ak hc];exact ⟨X,(ew c hi).mono (s1.trans s6)⟩
    ·rw [aj hc,aj hc]
     exact ⟨1000,(dE _ x hx).mono (s4.trans s5)⟩⟩
   refine k1 _ [.ref t1] _ (fun b u e=>of b u (fun z=>by rw [z,Gs] at e;cases e) ((s1.trans s6) b u e)) aA (.inr ⟨k,hk,_,g,d,rfl,x8.off ei of⟩) (aG _)
 cases out with
 | fU k hk g d e er ew ea=>
  refine ⟨_,rfl,fd,_,_,_,rfl,rfl,.of e,rfl,rfl,false,by decide +kernel,cR (cR ?_)⟩
  exact key fun z=>tQ lo hk d z.1
 | one g gd dQ e er ew ea=>
  refine ⟨_,rfl,fd,_,_,_,rfl,rfl,.of e,rfl,rfl,true,by decide +kernel,e9 ?_⟩
  cases rW with
  | fU k hk g2 d2 e2 wu wx wq=>
   refine ⟨_,rfl,dZ,_,_,_,rfl,rfl,.of e2,rfl,rfl,false,by decide +kernel,cR ?_⟩
   exact key fun z=>tQ YY hk d2 z.2
  | one g2 p_ Gj e2 wu wx wq=>
   refine ⟨_,rfl,dZ,_,_,_,rfl,rfl,.of e2,rfl,rfl,true,by decide +kernel,e9 ?_⟩
   refine iI ⟨_,rfl,fd,_,_,_,rfl,rfl,.of e,rfl,_,rfl,dZ,_,_,_,rfl,rfl,.of e2,rfl,r,r2,_,_,rfl,rfl,er,wu,by rw [cq,cq];exact jF (cN (by lia)),fun c1 rX=>?_⟩
   have s1:af H (upd H c1 (.lst ((List.range n).map lv++(List.range m).map eU))):=aS rX;have e1:upd H c1 (.lst ((List.range n).map lv++(List.range m).map eU)) c1=some (.lst ((List.range n).map lv++(List.range m).map eU)):=aA;generalize upd H c1 (.lst ((List.range n).map lv++(List.range m).map eU))=H1 at s1 e1 ⊢;refine ⟨_,rfl,fd,_,_,_,rfl,rfl,.of (s1 _ _ e),rfl,_,rfl,dZ,_,_,_,rfl,rfl,.of (s1 _ _ e2),rfl,_,_,rfl,rfl,by show 3≤sizeLine;decide,fun D nD=>?_⟩
   have s2:=s1.trans (aS (o:=.tup [.str (Str.ofString "one"),.ref c1,.int ((gF n g:Int)+(gF m g2:Int))]) nD);exact kk D c1 _ _ s2 (VV hq la gd p_ dQ Gj (fun i hi=>(ew i hi).mono s2) (fun i hi=>(wx i hi).mono s2) aA ((aS nD) _ _ e1))
theorem Y0:bD ["script","start","told","table","order","aim","world","tape","found","names","called","more","links","second","turns","sums","line","due"] ["script"] (aP BJ):=bM
theorem Y1(T:Txt K mg t):bh P w K mg base b5 12 t.oG t.q_ ["script"] (z_ K):=by
 have S:=Y0;have Y2:=Ww (P:=P) (w:=w) (base:=base) T;refine T.vY.cm S (fun _ _ _ s H _ _ _ hr h=>?_);obtain ⟨a,ns,rfl,hS,hlen,kQ⟩:=h;have i7:=hr.units;have hu:=hr.zO
 refine ⟨_,(aq (fO dU rfl (UR rfl T.fM (aa ah (aa (cM (O2 rfl) rfl T.MG boot_max (aa ah (aa (cM (O3 rfl) rfl T.Fv boot_min (aa ah (aa (cM gB rfl T.fL fN (aa (pv 0) ae)) ae))) ae))) (aa ah ae)))) (cX (i:=1) S.nd rfl (Or.inl rfl))
   (aq (@iu _ _ _ _ _ _ (aI (Yq T) hr T.Ml T.vS.kp T.Mj aM (aa (pv 0) (aa (pv 1) ae))) (su rfl (iW (cX (i:=2) S.nd rfl (Or.inl rfl)) (iW (cX (i:=3) S.nd rfl (Or.inl rfl)) (iW (cX (i:=4) S.nd rfl (Or.inl rfl)) (iW (cX (i:=5) S.nd rfl (Or.inl rfl)) sq))))) (by rfl) (by rfl) (by rfl))
  (aq (putL 6 S.nd (Pw T.BX Y2 (hr.mono (by decide)) rfl T.MA T.Mx .nil lO (aa (pv 2) ae)))
  (aq (putL 7 S.nd (aI (wo T) hr T.rF T.k7.kp T.rE aM (aa (pv 0) (aa (aB d_ (pv 1) ah) ae))))
  (aq (putL 8 S.nd (aI (Ck T) hr T.yq T.ng.kp T.yo aM (aa (pv 6) (aa (pv 3) (aa (pv 4) (aa (pv 5) ae))))))
  (aq (putL 9 S.nd (aI (F_ T) hr T.BW T.oK.kp T.BV aM (aa (pv 7) (aa (cM gB rfl T.fL fN (aa (pv 4) ae)) ae))))
  (aq (putL 10 S.nd (aI (YD T) hr T.Mn T.vT.kp T.Mm aM (aa (pv 3) (aa (pv 4) (aa (pv 5) (aa (pv 9) ae))))))
  (aq (cu (xl (nO (aI (YJ T) hr T.Mp T.vU.kp T.Mo aM (aa (pv 8) (aa (aI (Ck T) hr T.yq T.ng.kp T.yo aM (aa (pv 6) (aa (ax a_ (pv 10) ah) (aa (ax a_ (pv 10) ah) (aa (ax a_ (pv 10) ah) ae))))) (aa (pv 9) ae)))))) (ay (ba kJ)) cH)
  (aq (putL 11 S.nd (aB d_ ah (aI (jE T) hr T.iP T.gq.kp T.iO aM (aa (pv 7) (aa ah ae)))))
  (aq (putL 12 S.nd (aI (Nl T) hr T.Fn T.rJ.kp T.Fm aM (aa (pv 7) (aa (pv 11) ae))))
  (aq (putL 13 S.nd (aI (Nq T) hr T.Fl T.rH.kp T.Fj aM (aa (pv 2) (aa (aI (wo T) hr T.rF T.k7.kp T.rE aM (aa (pv 0) (aa (aB d_ (pv 1) ah) ae))) (aa (pv 11) (aa (pv 12) ae))))))
  (aq (putL 14 S.nd (aI (F_ T) hr T.BW T.oK.kp T.BV aM (aa (pv 7) (aa (pv 11) ae))))
  (aq (putL 15 S.nd (aI (Nk T) hr T.Fp T.rK.kp T.Fo aM (aa (pv 2) (aa (pv 7) (aa (pv 11) ae)))))
  (aq (putL 16 S.nd (aI (YT T) hr T.Mt T.vW.kp T.Ms aM (aa (pv 7) (aa (pv 4) (aa (pv 14) ae)))))
  (aq (putL 17 S.nd (aI (YX T) hr T.Mv T.vX.kp T.Mu aM (aa (pv 2) (aa (pv 16) (aa (pv 8) (aa (aI (Ck T) hr T.yq T.ng.kp T.yo aM (aa (pv 6) (aa (pv 13) (aa (pv 14) (aa (pv 15) ae))))) (aa (cM gB rfl T.fL fN (aa (pv 4) ae)) (aa (pv 11) ae))))))))
  (ay (cu (bR (VT (n:=2) i7) (aI (Ck T) hr T.yq T.ng.kp T.yo aM (aa (pv 6) (aa (aI (YO T) hr T.Mr T.vV.kp T.Mq aM (aa (pv 2) (aa (pv 3) (aa (pv 13) ae)))) (aa (pv 16) (aa (aB pL (pv 5) (pv 15)) ae))))) (pv 17)) (ay (ba kJ)) cH)))))))))))))))))
  (ay (ba kJ))),?_⟩
 have join:∀{Ha Hb Hc:Hp} {T:Addr},af Ha Hb→Ha T=none→aX T Hb Hc→af Ha Hc:=fun{Ha Hb Hc T} s nT o b u e=>o b u (fun z=>by rw [z,nT] at e;cases e) (s _ _ e)
 refine aF fun _ hR=>⟨_,rfl,a,_,rfl,.inl hS,_,_,rfl,_,_,rfl,_,_,4,rfl,⟨by decide,by decide,by decide,by decide,?_,?_⟩,?_⟩
 ·split <;> split <;> lia
 ·split <;> split <;> lia
 refine US (fun i σ Hc=>∃(v:Nat→Option V),σ=[some (.ref a),v 1,v 2,v 3,v 4,v 5,v 6,v 7,v 8,v 9,v 10,v 11,v 12,v 13,v 14,v 15,v 16,v 17]∧af H Hc) ⟨fun _=>none,rfl,af.refl _⟩ ?_ ?_
 ·rintro i σ Hc hi ⟨v,rfl,sc⟩
  have i10:i≤40:=by
   revert hi
   unfold Builtin.Range.rangeSize;rw [ak (by decide)]
   split
   ·split <;> split <;> lia
   ·lia
  have NB:bZ K Hc a (ns.map V.int):=sc.seq hS;dsimp only [cW];have eI:(0:Int)+(i:Int)*4=((4*i:Nat):Int):=by lia
  rw [eI];refine aF fun _ hR=>aY ⟨_,rfl,_,rfl,a,ns,4*i,rfl,NB,by lia,fun tp td tab od am q n o rt vf av f H1 s1 eV tw hq n1 n6 pc _ _ _ _=>⟨tp,_,rfl,.of eV,rfl,_,_,rfl,_,_,rfl,_,_,rfl,_,_,rfl,rfl,hR _ _ ?_⟩⟩
  have lo:=cw pc.cE;simp only [List.set_cons_zero,List.set_cons_succ];refine aF fun _ hR=>aY ⟨_,rfl,fun z dz nz NC ne=>⟨z,dz,td,lU q,rfl,aA,?_,fun _=>⟨rfl,hR _ _ ?_⟩,fun hg=>absurd ((R7 hq).symm.trans hg) (by decide)⟩⟩
  ·have e:=tw.at
   rw [aK (je e nz),aK (je e NC)];exact e
  have s2:af H1 (upd (upd (upd H1 dz (.own z)) z (.ins t.bC dz [])) z (.ins t.bC dz [("prime",(lU q).prime)])):=fun b o e=>by rw [aK (je e nz),aK (je e nz),aK (je e NC)];exact e
  have hz:fJ t.bC (upd (upd (upd H1 dz (.own z)) z (.ins t.bC dz [])) z (.ins t.bC dz [("prime",(lU q).prime)])) z q:=⟨dz,by rw [aA,Ss]⟩
  generalize (upd (upd (upd H1 dz (.own z)) z (.ins t.bC dz [])) z (.ins t.bC dz [("prime",(lU q).prime)]))=H2 at s2 hz ⊢;have nq:=pc.mono s2;have tw2:=tw.mono s2;have ND:bZ K H2 a (ns.map V.int):=s2.seq (s1.seq NB);clear pc tw;refine aF fun _ hR=>aY ⟨_,rfl,_,rfl,_,_,rfl,rfl,a,ns,4*i+1,rfl,ND,by lia,fun T1 H3 s3 nT Cr=>hR _ _ ?_⟩
  refine aF fun _ hR=>aY ⟨_,rfl,_,rfl,_,rfl,_,rfl,?_⟩;dsimp only [gg,lz];refine AU (nq.mono s3) (hz.mono s3) hq n1 (by lia) fun fd r lv at' H4 s4 nr FH out=>hR _ _ ?_
  have rT:r≠T1:=Cr.ne nr;have Gb:=Cr.mono s4;have S4:=s3.trans s4;have ll:(az o).length=n:=by unfold az;rw [aJ,lo]
  refine aF fun _ hR=>aY ⟨_,rfl,_,rfl,od,_,rfl,.inl (.of (S4 _ _ nq.ord)),T1,n,by show [V.ref T1,V.int ((az o).length:Int)]=_;rw [ll],Gb,by lia,fun nm νl H5 o5 Gd nnm k9 hν=>hR _ _ ?_⟩
  have S5:af H2 H5:=join S4 nT o5;have NF:=out.iL Gb o5 rT;refine aF fun _ hR=>aY ⟨_,rfl,_,rfl,_,rfl,_,rfl,tab,od,am,nm,q,n,o,νl,rt,vf,av,f,rfl,nq.mono S5,k9,hν,by lia,fun ca t2 o2' a2 r2 H6 s6 Gv Y3=>hR _ _ ?_⟩
  refine aF fun _ hR=>⟨_,rfl,_,rfl,_,rfl,ca,_,_,_,rfl,rfl,.of Gv,rfl,_,rfl,ca,_,_,_,rfl,rfl,.of Gv,rfl,_,rfl,ca,_,_,_,rfl,rfl,.of Gv,rfl,?_⟩;have S6:=S5.trans s6;dsimp only [gg,lz];refine AU Y3 (hz.mono S6) hq n1 (by lia) fun Y4 rc Y5 Y6 H7 s7 _ _ Y7=>?_
  have Gw:=s6.trans s7;refine ⟨_,rfl,fd,Y4,nm,r,rc,q,n,at',Y6,o,νl,lv,Y5,f,rfl,hq,by lia,nq.cE,hν,Gw _ _ k9,NF.mono Gw,Y7,fun H8 s8=>⟨true,rfl,cR (hR _ _ ?_)⟩⟩
  have Gx:=Gw.trans s8;have S8:=S5.trans Gx;have Y8:=NF.mono Gx;have Ge:=Gd.mono Gx;refine aF fun _ hR=>aY ⟨_,rfl,T1,3,rfl,Ge,by decide,by decide,fun d H9 d3 o9 Gf=>⟨_,_,rfl,rfl,hR _ _ ?_⟩⟩
  obtain ⟨m,em⟩:∃m,m=1+d:=⟨_,rfl⟩;have eM:(1:Int)+(d:Int)=(m:Int):=by lia
  simp only [List.set_cons_zero,List.set_cons_succ];rw [eM];refine aF fun _ hR=>aY ⟨_,rfl,_,rfl,T1,m,rfl,Gf,by lia,fun lk us L oM Ct Cu Yw mj hL bV hlen=>hR _ _ ?_⟩
  have yU:af H2 oM:=join S8 nT (o9.trans Ct);have Y9:=Y8.iL Ge (o9.trans Ct) rT;refine aF fun _ hR=>aY ⟨_,rfl,_,rfl,_,rfl,_,_,rfl,rfl,a,ns,4*i+3,rfl,yU.seq ND,by lia,fun T3 yV kj yT Y_=>?_⟩
  refine ⟨_,rfl,_,rfl,td,T3,lk,q,m,us,L,rfl,(tw2.mono yU).mono kj,hq,Y_,by lia,(fun z=>by rw [z,yT] at mj;cases mj),kj _ _ mj,hL.mono kj,bV,fun sec AS di Za Zb ae_ nsec jD Wt Ft=>hR _ _ ?_⟩
  have Gy:af oM Za:=join kj yT Zb;have Gz:=yU.trans Gy;have Cw:=Cu.mono Gy;have Zc:=Y9.mono Gy;have Zd:sec≠T1:=(Cu.mono kj).ne nsec;have Ze:∀i,i<m→AS i≠T1:=fun i hi=>(Cu.mono kj).ne (jD i hi);refine aF fun _ hR=>aY ⟨_,rfl,_,rfl,T1,m,rfl,Cw,by lia,fun tn o2 Zf GA NG Zg NH pJ=>hR _ _ ?_⟩
  have Zh:af H2 Zf:=join Gz nT GA;have Cy:tn≠T1:=Cw.ne Zg;refine aF fun _ hR=>aY ⟨_,rfl,_,rfl,_,rfl,td,T1,q,m,rfl,tw2.mono Zh,hq,NG,by lia,fun sm ps Zi Cz NI Zj rg t_ yj=>hR _ _ ?_⟩
  have Zk:af H2 Zi:=join Gz nT (GA.trans Cz);have Zl:sm≠T1:=NG.ne Zj;have Ny:od≠T1:=fun z=>by have:=nq.ord;rw [z,nT] at this;cases this
  refine aF fun _ hR=>aY ⟨_,rfl,_,rfl,_,rfl,T1,od,tn,n,m,o,o2,rfl,NI,Ny,Cy,Zk _ _ nq.ord,Cz _ _ Cy NH,nq.cE,pJ,by lia,by lia,fun ln line Zm GB afa nln k_ la=>hR _ _ ?_⟩
  have CA:=GA.trans (Cz.trans GB);have NJ:af H2 Zm:=join Gz nT CA;have Zn:=Zc.iL Cw CA rT;obtain ⟨m7,f2,pp⟩:=V3 (Wt.iL CA Zd Ze) (fun i j hi hj=>let ⟨x,m',h1,h2⟩:=Ft i j hi hj;⟨x,m',h1.iL Cw CA,h2⟩) (GB _ _ Cy (Cz _ _ Cy NH)) pJ (rg.iL NI GB Zl) t_ yj
  refine aF fun _ hR=>aY ⟨_,rfl,_,rfl,_,rfl,_,rfl,_,rfl,_,rfl,_,rfl,?_⟩;dsimp only [gg,lz];refine AU pp (hz.mono NJ) hq (by lia) (by lia) fun dZ Zo eU at2 H16 CB _ _ rW=>?_
  have GC:=NJ.trans CB;refine ⟨_,rfl,od,_,rfl,.inl (.of (GC _ _ nq.ord)),_,rfl,td,ln,fd,dZ,r,Zo,q,dh n 997,dh m 997,n,m,at',at2,o,o2,line,f,f2,lv,eU,(by rw [←ll];rfl),tw2.mono GC,hq,CB _ _ k_,la,by lia,by lia,Zn.mono CB,rW,fun D r' xs H17 NK du=>hR _ _ ?_⟩
  have CD:=GC.trans NK;have NL:=CB.trans NK;have NM:=nq.mono CD;have NN:=pp.mono NL;refine ⟨_,rfl,_,rfl,_,rfl,_,rfl,td,tab,sec,q,n,m,rt,AS,vf,di,rfl,tw2.mono CD,hq,NM.tab,NN.tab,by lia,by lia,fun D3 E7 v0 CF GD h0 W3=>?_⟩
  have NO:=NM.mono GD;have NP:=NN.mono GD;refine ⟨_,rfl,_,rfl,_,rfl,am,sm,_,_,rfl,rfl,NO.tR,NP.tR,by simp only [aJ,dc];exact jF (cN (by lia)),fun c nc=>?_⟩
  have wz:af CF (upd CF c (.lst ((List.range n).map av++(List.range m).map m7))):=aS nc;have ec:upd CF c (.lst ((List.range n).map av++(List.range m).map m7)) c=some (.lst ((List.range n).map av++(List.range m).map m7)):=aA;generalize upd CF c (.lst ((List.range n).map av++(List.range m).map m7))=H19 at wz ec ⊢;have GF:=GD.trans wz;dsimp only [gg,lz];refine AU (fz.V4 hq (NO.mono wz) (NP.mono wz) (h0.mono wz) (W3.mono wz) (GF _ _ (NL _ _ k_)) la ec) (hz.mono (CD.trans GF)) hq (by lia) (by lia) fun Zp r3 lv3 at3 H20 Zq _ _ Zr=>?_
  have NQ:=GF.trans Zq;obtain ⟨x1,x2,x3,y1,y2,y3,e1,e2,l1,l2,l3⟩:=VQ (K:=K) hq la.cE Zr (du.mono NQ);refine ⟨_,rfl,Zp,D,_,_,rfl,rfl,.of e1,.of e2,rfl,(fun j x y hx hy=>by
   match j,hx,hy with
   | 0,hx,hy=>cases hx;cases hy;exact l1
   | 1,hx,hy=>cases hx;cases hy;exact l2
   | 2,hx,hy=>cases hx;cases hy;exact l3
   | j+3,hx,_=>cases hx),false,rfl,cR ?_⟩
  exact ⟨fun k=>List.getD [none,_,_,_,_,_,_,_,_,_,_,_,_,_,_,_,_,_] k none,rfl,sc.trans (s1.trans (s2.trans (CD.trans NQ)))⟩
 ·rintro σ Hc ⟨v,rfl,sc⟩
  exact hR _ _ (kQ _)
theorem Zs{l:PySem.W.OpenLaw}(T:Txt K mg t):∃fd:FuncData,(∀(s:Shared) (v:Value),BindsTo s fd ⟨[v],[]⟩ [("script",v)])∧∀base:Heap,K.In base→base.Ns mainGlobals mg→bh l.prog w K mg base b5 12 t.oG fd ["script"] (z_ K):=by obtain ⟨oc,od,kV,doc,pm,an,bq,ct,gh,e,lk,f9⟩:=T.vY.ex;refine ⟨t.q_,fun s v=>?_,fun base _ _=>Y1 T⟩;rw [e];exact .of_eq rfl
end
theorem walk{l:PySem.W.OpenLaw}{q:Program}{loose:List Str}{XP:(Str→Option Value)→Heap→Prop}{YP:World→Heap→Prop}{d:DefRec}{K:Params→PySem.W.Frag}(hn:l.most=some 63)(xy:d.params.defaults=[])
  (hY:∀(w:World) (h:Heap),YP w h→(K w.params).In h)
  (F:∀(w:World) (mg:dq) (fa:Addr) (h:Heap),(K w.params).In h→h.Ns mainGlobals mg→mg d.name=some (.ref fa)→
   ∃fd:FuncData,(∀(s:Shared) (u:Value),BindsTo s fd ⟨[u],[]⟩ [("script",u)])∧∀base:Heap,(K w.params).In base→base.Ns mainGlobals mg→bh l.prog w (K w.params) mg base b5 12 fa fd ["script"] (z_ (K w.params))) :
  PySem.W.WalkO q loose XP YP l.row.toRowW d [] (fun f vs=>PySem.call f vs):=
 L2.Qu (n:=63) (k:=12) (x:="script") (CX:=fun _=>b5) (sp:=fun w=>z_ (K w.params)) hn (by decide) xy ⟨rfl,by decide,by decide⟩ hY F (fun _ _ a ns hl _ hS=>⟨a,ns,rfl,hS,hl,fun _=>rfl⟩) fun _ _ _ _ _ z=>z
theorem Zt{K:aC}{h:Heap}{mg:dq}(X:K.In h)(G:h.Ns mainGlobals mg)
  {bC:Addr}
  {rA:Addr}
  {i6:Addr}
  {me:Addr}
  {m_:Addr}
  {m8:Addr} {Zu NR:Option Addr} {Zv:Array (Option Value)} {Zw NS NT NU GG NV:Value}
  {GH:Addr} {Zx:Tok} {Zy:Value} {Zz:Option Addr} {ZA:Nat} {ZC:Array (Option Value)}
  {ZD:Tok}
  {ZE:Tok}
  {qb qc qd qe ue qf qg qh qi qj qk ql qm qo qr qt qu qv qw qx qy qz qA qB qC qD qE qF qG qH qI qJ qK qL qM qN qO qP qQ qR qS qT qU qV qW qX qY qZ q5 q8 oG rh vd rj rq rz:Addr} {ua ub uc ud yk ug uh uj um uo ur uu uv uw ux uy uz uA uB uC uD uE uF uH uI uJ uK uM uN uO uP uQ uR uS uT uU uV uW uX uY uZ u0 u3 u4 u5 u6 u7 u9 u_ va q_ vc ym ve vg vh:FuncData}
  (GI:PySem.W.nsIn K mainGlobals "World"=some (some (.ref bC)))
  (GJ:PySem.W.nsIn K mainGlobals "NoWorld"=some (some (.ref rA)))
  (GK:PySem.W.nsIn K mainGlobals "NoOver"=some (some (.ref i6)))
  (GL:PySem.W.nsIn K mainGlobals "NoFit"=some (some (.ref me)))
  (GN:PySem.W.nsIn K mainGlobals "NoOrder"=some (some (.ref m_)))
  (ZF:mg "width"=some (.ref qb))
  (vi:aE K "width" AV qb ua)
  (ZG:mg "square_size"=some (.ref qc))
  (vj:aE K "square_size" AW qc ub)
  (ZH:mg "check_aim"=some (.ref qd))
  (vk:aE K "check_aim" AX qd uc)
  (ZI:mg "is_whole"=some (.ref qe))
  (rB:aE K "is_whole" AY qe ud)
  (ZJ:mg "shortened"=some (.ref ue))
  (BP:aE K "shortened" E8 ue yk)
  (ZK:mg "common_divisor"=some (.ref qf))
  (mf:aE K "common_divisor" AZ qf ug)
  (ZL:mg "is_prime"=some (.ref qg))
  (vo:aE K "is_prime" A0 qg uh)
  (ZM:mg "links_of_place"=some (.ref qh))
  (vp:aE K "links_of_place" A3 qh uj)
  (ZN:mg "shape_of"=some (.ref qi))
  (vq:aE K "shape_of" A4 qi um)
  (ZO:mg "neighbours"=some (.ref qj))
  (vt:aE K "neighbours" A5 qj uo)
  (ZP:mg "is_order"=some (.ref qk))
  (vv:aE K "is_order" A6 qk ur)
  (ZQ:mg "check_order"=some (.ref ql))
  (vw:aE K "check_order" A7 ql uu)
  (ZR:mg "turns_of"=some (.ref qm))
  (vx:aE K "turns_of" A8 qm uv)
  (ZS:mg "link_all"=some (.ref qo))
  (vy:aE K "link_all" A9 qo uw)
  (ZT:mg "later"=some (.ref qr))
  (vz:aE K "later" A_ qr ux)
  (ZU:mg "place_deeds"=some (.ref qt))
  (vA:aE K "place_deeds" Ba qt uy)
  (ZV:mg "undo_place"=some (.ref qu))
  (vB:aE K "undo_place" Bb qu uz)
  (ZW:mg "packed"=some (.ref qv))
  (vC:aE K "packed" Bc qv uA)
  (ZX:mg "lowered"=some (.ref qw))
  (vD:aE K "lowered" Bd qw uB)
  (ZY:mg "raised"=some (.ref qx))
  (rC:aE K "raised" Be qx uC)
  (ZZ:mg "tied_move"=some (.ref qy))
  (vE:aE K "tied_move" Bf qy uD)
  (Z0:mg "along"=some (.ref qz))
  (ng:aE K "along" Bg qz uE)
  (Z1:mg "ratio"=some (.ref qA))
  (vF:aE K "ratio" Bh qA uF)
  (Z2:mg "ratio_plus"=some (.ref qB))
  (vG:aE K "ratio_plus" Bi qB uH)
  (Z3:mg "ratio_minus"=some (.ref qC))
  (vH:aE K "ratio_minus" Bj qC uI)
  (Z4:mg "ratio_times"=some (.ref qD))
  (oH:aE K "ratio_times" Bk qD uJ)
  (Z5:mg "ratio_over"=some (.ref qE))
  (vI:aE K "ratio_over" Bl qE uK)
  (Z6:mg "remainder_back"=some (.ref qF))
  (vJ:aE K "remainder_back" Bm qF uM)
  (Z7:mg "remainder_over"=some (.ref qG))
  (rD:aE K "remainder_over" Bn qG uN)
  (Z8:mg "is_fractions"=some (.ref qH))
  (vK:aE K "is_fractions" Bo qH uO)
  (Z9:mg "is_wheel"=some (.ref qI))
  (vL:aE K "is_wheel" Bp qI uP)
  (Z_:mg "_law_acell"=some (.ref qJ))
  (vM:aE K "_law_acell" Bq qJ uQ)
  (aaa:mg "_law_atape"=some (.ref qK))
  (k7:aE K "_law_atape" Br qK uR)
  (aab:mg "_law_adigit"=some (.ref qL))
  (gq:aE K "_law_adigit" Bs qL uS)
  (aac:mg "_law_adivisor"=some (.ref qM))
  (vN:aE K "_law_adivisor" Bt qM uT)
  (aad:mg "_law_aturned"=some (.ref qN))
  (vO:aE K "_law_aturned" Bu qN uU)
  (aae:mg "_law_anumber"=some (.ref qO))
  (oJ:aE K "_law_anumber" Bv qO uV)
  (aaf:mg "_law_aworld"=some (.ref qP))
  (vP:aE K "_law_aworld" Bw qP uW)
  (aag:mg "_law_asome"=some (.ref qQ))
  (nh:aE K "_law_asome" Bx qQ uX)
  (aah:mg "_law_anought"=some (.ref qR))
  (mh:aE K "_law_anought" By qR uY)
  (aai:mg "_law_atable"=some (.ref qS))
  (rH:aE K "_law_atable" Bz qS uZ)
  (aaj:mg "_law_alinks"=some (.ref qT))
  (rJ:aE K "_law_alinks" BA qT u0)
  (aak:mg "_law_aorder"=some (.ref qU))
  (oK:aE K "_law_aorder" BB qU u3)
  (aal:mg "_law_arow"=some (.ref qV))
  (rK:aE K "_law_arow" BC qV u4)
  (aam:mg "_law_apiece"=some (.ref qW))
  (vS:aE K "_law_apiece" BD qW u5)
  (aan:mg "_law_acalled"=some (.ref qX))
  (vT:aE K "_law_acalled" BE qX u6)
  (aao:mg "_law_asame_called"=some (.ref qY))
  (vU:aE K "_law_asame_called" BF qY u7)
  (aap:mg "_law_abeside"=some (.ref qZ))
  (vV:aE K "_law_abeside" BG qZ u9)
  (aaq:mg "_law_alaid"=some (.ref q5))
  (vW:aE K "_law_alaid" BH q5 u_)
  (aar:mg "_law_atogether"=some (.ref q8))
  (vX:aE K "_law_atogether" BI q8 va)
  (aas:mg "law"=some (.ref oG))
  (vY:aE K "law" BJ oG q_)
  (BX:Mk K bC rh)
  (yu:eP K "__init__" "World.__init__" BK rh vc)
  (GO:PySem.W.findIn K (.ref bC) "of"=some (some (.ref m8)))
  (GP:PySem.W.isFn K (.ref m8)=true)
  (wA:K.lookup m8=some ⟨Zw,Zu,.func (PySem.W.fnOf "of" "World.of" (jq kh) (gC kh) (aP kh) (.ref GH) NS NT NU NR GG NV),Zv⟩)
  (wB:PySem.W.codeIn K GG "World.of"=true)
  (rY:PySem.W.keepIn K (.ref m8)=true)
  (wC:K.lookup GH=some ⟨Zy,Zz,.seq #[.int 1 Zx] ZA,ZC⟩)
  (Fq:Meth K bC "plus" vd)
  (BZ:eP K "plus" "World.plus" E9 vd ym)
  (vZ:Meth K bC "minus" rj)
  (yw:eP K "minus" "World.minus" BL rj ve)
  (v8:Meth K bC "times" rq)
  (yy:eP K "times" "World.times" BM rq vg)
  (yA:Meth K bC "over" rz)
  (yz:eP K "over" "World.over" BN rz vh)
  (GQ:PySem.W.plainGet K bC Str.empty=true)
  (GR:PySem.W.hasDictIn K bC=true)
  (GS:PySem.W.plainOver K bC=true)
  (GU:PySem.W.findIn K (.ref bC) "__setattr__"=some (some (.builtin "object.__setattr__")))
  (GV:PySem.W.findIn K (.ref bC) "prime"=some none)
  (GW:PySem.W.nsIn K mainGlobals "ValueError"=some none)
  (GX:PySem.W.nsIn K mainGlobals "abs"=some none)
  (GY:PySem.W.nsIn K mainGlobals "all"=some none)
  (GZ:PySem.W.nsIn K mainGlobals "any"=some none)
  (G0:PySem.W.nsIn K mainGlobals "bool"=some none)
  (G1:PySem.W.nsIn K mainGlobals "enumerate"=some none)
  (G2:PySem.W.nsIn K mainGlobals "int"=some none)
  (G3:PySem.W.nsIn K mainGlobals "isinstance"=some none)
  (G4:PySem.W.nsIn K mainGlobals "len"=some none)
  (G5:PySem.W.nsIn K mainGlobals "list"=some none)
  (G6:PySem.W.nsIn K mainGlobals "max"=some none)
  (G7:PySem.W.nsIn K mainGlobals "min"=some none)
  (G8:PySem.W.nsIn K mainGlobals "range"=some none)
  (G9:PySem.W.nsIn K mainGlobals "reversed"=some none)
  (G_:PySem.W.nsIn K mainGlobals "sorted"=some none)
  (Hj:PySem.W.nsIn K mainGlobals "sum"=some none)
  (Hl:PySem.W.nsIn K mainGlobals "tuple"=some none)
  (Ho:PySem.W.nsIn K mainGlobals "zip"=some none)
  (Hq:PySem.W.nsIn K mainGlobals "GREATEST_PRIME"=some (some (.int 997 ZD)))
  (Hr:PySem.W.nsIn K mainGlobals "LONG"=some (some (.int 2048 ZE)))
  (Hs:PySem.W.excIn K rA [.type "ValueError",.type "Exception",.type "BaseException",.type "object"] "ValueError.__new__"=true)
  (Ht:PySem.W.excIn K i6 [.type "ValueError",.type "Exception",.type "BaseException",.type "object"] "ValueError.__new__"=true)
  (Hu:PySem.W.excIn K me [.type "ValueError",.type "Exception",.type "BaseException",.type "object"] "ValueError.__new__"=true)
  (Hv:PySem.W.excIn K m_ [.type "ValueError",.type "Exception",.type "BaseException",.type "object"] "ValueError.__new__"=true)
  : ∃t:E_,Txt K mg t:=by
 refine ⟨⟨qb,ua,qc,ub,qd,uc,qe,ud,ue,yk,qf,ug,qg,uh,qh,uj,qi,um,qj,uo,qk,ur,ql,uu,qm,uv,qo,uw,qr,ux,qt,uy,qu,uz,qv,uA,qw,uB,qx,uC,qy,uD,qz,uE,qA,uF,qB,uH,qC,uI,qD,uJ,qE,uK,qF,uM,qG,uN,qH,uO,qI,uP,qJ,uQ,qK,uR,qL,uS,qM,uT,qN,uU,qO,uV,qP,uW,qQ,uX,qR,uY,qS,uZ,qT,u0,qU,u3,qV,u4,qW,u5,qX,u6,qY,u7,qZ,u9,q5,u_,q8,va,oG,q_,rh,vc,m8,PySem.W.fnOf "of" "World.of" (jq kh) (gC kh) (aP kh) (.ref GH) NS NT NU NR GG NV,vd,ym,rj,ve,rq,vg,rz,vh,bC,rA,i6,me,m_⟩,?_⟩
 exact {
  vi:=vi
  Ll:=vi.bJ
  Lm:=ZF
  vj:=vj
  Ln:=vj.bJ
  Lo:=ZG
  vk:=vk
  Lp:=vk.bJ
  Lq:=ZH
  rB:=rB
  Fb:=rB.bJ
  Fe:=ZI
  BP:=BP
  V8:=BP.bJ
  V9:=ZJ
  mf:=mf
  vm:=mf.bJ
  vn:=ZK
  vo:=vo
  Lr:=vo.bJ
  Ls:=ZL
  vp:=vp
  Lu:=vp.bJ
  Lv:=ZM
  vq:=vq
  Lw:=vq.bJ
  Lx:=ZN
  vt:=vt
  Ly:=vt.bJ
  Lz:=ZO
  vv:=vv
  LA:=vv.bJ
  LB:=ZP
  vw:=vw
  LC:=vw.bJ
  LD:=ZQ
  vx:=vx
  LF:=vx.bJ
  LG:=ZR
  vy:=vy
  LH:=vy.bJ
  LI:=ZS
  vz:=vz
  LJ:=vz.bJ
  LK:=ZT
  vA:=vA
  LL:=vA.bJ
  LM:=ZU
  vB:=vB
  LN:=vB.bJ
  LO:=ZV
  vC:=vC
  LP:=vC.bJ
  LQ:=ZW
  vD:=vD
  LR:=vD.bJ
  LS:=ZX
  rC:=rC
  Ff:=rC.bJ
  Fg:=ZY
  vE:=vE
  LU:=vE.bJ
  LV:=ZZ
  ng:=ng
  yo:=ng.bJ
  yq:=Z0
  vF:=vF
  LW:=vF.bJ
  LX:=Z1
  vG:=vG
  LY:=vG.bJ
  LZ:=Z2
  vH:=vH
  L0:=vH.bJ
  L3:=Z3
  oH:=oH
  BQ:=oH.bJ
  BR:=Z4
  vI:=vI
  L4:=vI.bJ
  L5:=Z5
  vJ:=vJ
  L6:=vJ.bJ
  L7:=Z6
  rD:=rD
  Fh:=rD.bJ
  Fi:=Z7
  vK:=vK
  L8:=vK.bJ
  L9:=Z8
  vL:=vL
  L_:=vL.bJ
  Ma:=Z9
  vM:=vM
  Mb:=vM.bJ
  Mc:=Z_
  k7:=k7
  rE:=k7.bJ
  rF:=aaa
  gq:=gq
  iO:=gq.bJ
  iP:=aab
  vN:=vN
  Md:=vN.bJ
  Me:=aac
  vO:=vO
  Mf:=vO.bJ
  Mg:=aad
  oJ:=oJ
  BS:=oJ.bJ
  BU:=aae
  vP:=vP
  Mh:=vP.bJ
  Mi:=aaf
  nh:=nh
  yr:=nh.bJ
  yt:=aag
  mh:=mh
  vQ:=mh.bJ
  vR:=aah
  rH:=rH
  Fj:=rH.bJ
  Fl:=aai
  rJ:=rJ
  Fm:=rJ.bJ
  Fn:=aaj
  oK:=oK
  BV:=oK.bJ
  BW:=aak
  rK:=rK
  Fo:=rK.bJ
  Fp:=aal
  vS:=vS
  Mj:=vS.bJ
  Ml:=aam
  vT:=vT
  Mm:=vT.bJ
  Mn:=aan
  vU:=vU
  Mo:=vU.bJ
  Mp:=aao
  vV:=vV
  Mq:=vV.bJ
  Mr:=aap
  vW:=vW
  Ms:=vW.bJ
  Mt:=aaq
  vX:=vX
  Mu:=vX.bJ
  Mv:=aar
  vY:=vY
  V_:=vY.bJ
  Mw:=aas
  yu:=yu
  Mx:=yu.bJ
  BX:=BX
  Mz:=(Ac (st:=kh) (i:=1) wA wB rY wC)
  We:=jr.binds (ps:=["self","top","bottom"]) (Ac (st:=kh) (i:=1) wA wB rY wC) fun s dT kV doc pm an bq ct tk o n us ho hd hl=>match us,hl with | [_,_,_],_=>.of_defaults rfl ho hd rfl rfl
  BY:=jr.Rt (ps:=["self","top","bottom"]) (Ac (st:=kh) (i:=1) wA wB rY wC) fun s dT kV doc pm an bq ct tk o n us ho hd hl=>match us,hl with | [_,_],_=>.of_defaults rfl ho hd rfl rfl
  Wf:=jr.Ru (ps:=["self","top","bottom"]) (y:="bottom") (Ac (st:=kh) (i:=1) wA wB rY wC) fun s dT kV doc pm an bq ct tk o n us ws ho hd hw hl=>match ws,us,hw,hl with | [_],[_,_],_,_=>.of_defaults rfl ho hd rfl rfl
  yv:=⟨GO,GP,rY⟩
  BZ:=BZ
  Wg:=BZ.bJ
  Fq:=Fq
  yw:=yw
  B0:=yw.bJ
  vZ:=vZ
  yy:=yy
  B1:=yy.bJ
  v8:=v8
  yz:=yz
  Fs:=yz.bJ
  yA:=yA
  eG:=⟨GQ,GR,GS,GU⟩
  MA:=bH X G GI
  jC:=GV
  MB:=bH X G GJ
  B2:=bH X G GK
  B3:=bH X G GL
  MC:=bH X G GN
  Wh:=gw X G GW
  B4:=gw X G GX
  MD:=gw X G GY
  ME:=gw X G GZ
  MF:=gw X G G0
  Fu:=gw X G G1
  yB:=gw X G G2
  v9:=gw X G G3
  fL:=gw X G G4
  rM:=gw X G G5
  MG:=gw X G G6
  Fv:=gw X G G7
  fM:=gw X G G8
  MH:=gw X G G9
  Fw:=gw X G G_
  MI:=gw X G Hj
  B5:=gw X G Hl
  Wi:=gw X G Ho
  MJ:=⟨_,bH X G Hq,_,rfl⟩
  MK:=⟨_,bH X G Hr,_,rfl⟩
  ML:=Hs
  B6:=Ht
  B7:=Hu
  MM:=Hv
 }
end My
namespace PySem.W.Fast
def tw8376571552552963257:Unit:=()
def tw9716499038502589978:Unit:=()
def tw13814334669357673676:Unit:=()
def tw15148848882125526520:Unit:=()
def tw15594187391161834865:Unit:=()
def tw3897376428847833709:Unit:=()
def tw10799193918394387236:Unit:=()
def tw12537765298971222834:Unit:=()
def tw1994143514633520435:Unit:=()
def tw12633798074252519532:Unit:=()
def tw5305485480579420940:Unit:=()
def tw15653746617257820989:Unit:=()
def tw18432074176049279404:Unit:=()
def tw9691471126981404105:Unit:=()
def tw17178874340731913584:Unit:=()
def tw4606442625453270361:Unit:=()
def tw11933698859388036160:Unit:=()
def tw9596383560399046025:Unit:=()
def tw16746407024912935637:Unit:=()
def tw5198851549799117535:Unit:=()
def tw9355745522808414238:Unit:=()
def tw4363493927145248389:Unit:=()
def tw2590759119989397708:Unit:=()
def tw9869661865646131671:Unit:=()
def tw16730377654284629712:Unit:=()
def tw9225967044775630621:Unit:=()
def tw11003702111140332356:Unit:=()
def tw11029596693683705449:Unit:=()
def tw18411996082453829627:Unit:=()
def tw14189497670722102651:Unit:=()
def tw6173453028472179756:Unit:=()
def tw927607671034412619:Unit:=()
def tw6611338766704662040:Unit:=()
def tw6852887529808975404:Unit:=()
def tw9520643083555414964:Unit:=()
def tw17667031880969574394:Unit:=()
def tw480573273948151237:Unit:=()
def tw6483221815279608383:Unit:=()
def tw10101555202694586284:Unit:=()
def tw4477027890773034709:Unit:=()
def tw15664144311096927373:Unit:=()
def tw4326736326362386402:Unit:=()
def tw1336250717051588586:Unit:=()
def tw241545232840824025:Unit:=()
def tw10782305428700823896:Unit:=()
def tw17145340771386189927:Unit:=()
def tw11829749947966084390:Unit:=()
def tw16264720484950255288:Unit:=()
def tw18346864701191222513:Unit:=()
def tw14403312960564985396:Unit:=()
def tw16810283899678875533:Unit:=()
def tw17547790108301709811:Unit:=()
def tw12562619965553005319:Unit:=()
def tw2812704618446601474:Unit:=()
def tw11783868174403345675:Unit:=()
def tw17455827249270859252:Unit:=()
def tw16278068830724754679:Unit:=()
def tw2715885034809846129:Unit:=()
def tw2095654600018009391:Unit:=()
def tw969239509647058718:Unit:=()
def tw10394114447310640466:Unit:=()
def tw14288077073943879054:Unit:=()
def tw11685746043690681993:Unit:=()
def tw15584756526469719212:Unit:=()
def tw45525307271988011:Unit:=()
def tw15410094652303143769:Unit:=()
def tw4914654711377615073:Unit:=()
def tw8653763840996791032:Unit:=()
def tw14103212423516131042:Unit:=()
def tw5872321850219741203:Unit:=()
def tw13656526460972135527:Unit:=()
def tw18287013514380394072:Unit:=()
def tw16886016369378836088:Unit:=()
def tw9943602691626716061:Unit:=()
def tw2771084898805236862:Unit:=()
def tw12335218289674408738:Unit:=()
def tw15012008089122186432:Unit:=()
def tw2990795897249726156:Unit:=()
def tw2790433089203998273:Unit:=()
def tw5366605397889526703:Unit:=()
def tw1234847911514444226:Unit:=()
def tw15523748890866841922:Unit:=()
def tw800319507475561025:Unit:=()
def tw10045479836571578020:Unit:=()
def tw4919987479880365961:Unit:=()
def tw1663725380062954940:Unit:=()
def tw2731197016667993989:Unit:=()
def tw4441562395125737010:Unit:=()
def tw937641036082768061:Unit:=()
def tw2170714817778569402:Unit:=()
def tw5655908566341163032:Unit:=()
def tw13424975879304895240:Unit:=()
def tw11518202334361471320:Unit:=()
def tw9992850443303592478:Unit:=()
def tw10007679592318377351:Unit:=()
def tw11235303686619410145:Unit:=()
def tw13012400115530130454:Unit:=()
def tw7941481132383509090:Unit:=()
def tw14211228455728969752:Unit:=()
def tw16593488728755074956:Unit:=()
def tw8089920789296303636:Unit:=()
def tw16752504250571645850:Unit:=()
def tw6206203517938244396:Unit:=()
def tw14026638544902308180:Unit:=()
def tw17491962406990515202:Unit:=()
def tw12365014269470081667:Unit:=()
def tw7806779599068138788:Unit:=()
def tw18027131848290093924:Unit:=()
def tw12741156881499744321:Unit:=()
def tw7191189901369776173:Unit:=()
def tw14132407550762072799:Unit:=()
def tw9913191694185048756:Unit:=()
def tw13995224113994456672:Unit:=()
def tw17812504642353011105:Unit:=()
def tw7868223165567813271:Unit:=()
def tw943458151182244759:Unit:=()
def tw18098898752172117694:Unit:=()
def tw381851305882124259:Unit:=()
def tw14325290871085589637:Unit:=()
def tw14576343510661525331:Unit:=()
def tw10638524923678585735:Unit:=()
def tw4887420926698111887:Unit:=()
def tw3325831228379340385:Unit:=()
def tw17606908197861361283:Unit:=()
def tw9435563389252946622:Unit:=()
def tw9828568503869616343:Unit:=()
def tw18440738121742142288:Unit:=()
def tw6357558275580747912:Unit:=()
def tw5094932460376180270:Unit:=()
def tw16088318417238765468:Unit:=()
def tw8174862985168404396:Unit:=()
def tw10498532231192912560:Unit:=()
def tw1265167142460466669:Unit:=()
def tw6292322482365546811:Unit:=()
def tw3317320915905009113:Unit:=()
def tw13503828792274225133:Unit:=()
def tw9271307109630006830:Unit:=()
def tw12967332018396461139:Unit:=()
def tw3164576509816334976:Unit:=()
def tw15056755158632019292:Unit:=()
def tw12500979169046646886:Unit:=()
def tw8775326667455636898:Unit:=()
def tw16186133962944611030:Unit:=()
def tw4187628008270264757:Unit:=()
def tw12575933722269720361:Unit:=()
def tw3356340004633272533:Unit:=()
def tw7666181386805117037:Unit:=()
def tw2359289428222342516:Unit:=()
def tw7547348434211910066:Unit:=()
def tw9880116094750717554:Unit:=()
def tw234616801514581910:Unit:=()
def tw11709141603271094547:Unit:=()
def tw3491631482458680938:Unit:=()
def tw15902596683491293079:Unit:=()
def tw6473435477580875868:Unit:=()
def tw4200175333042316960:Unit:=()
def tw8136607272694519422:Unit:=()
def tw13820657218628124345:Unit:=()
def tw4447055467869296753:Unit:=()
def tw12585809984019349389:Unit:=()
def tw659709134300750694:Unit:=()
def tw9569966992631525992:Unit:=()
def tw4007252635300867844:Unit:=()
def tw13424996950205588978:Unit:=()
def tw7702725375520254406:Unit:=()
def tw14647103030675857717:Unit:=()
def tw13122106788860342130:Unit:=()
def tw12200706384319600795:Unit:=()
def tw2283149457904603929:Unit:=()
def tw14820190609693573616:Unit:=()
def tw14384602344727842718:Unit:=()
def tw1239542686921517521:Unit:=()
def tw13003430147054845464:Unit:=()
def tw2785612896094154712:Unit:=()
def tw11274876858225367198:Unit:=()
def tw5181039866183440513:Unit:=()
def tw5847138779108335558:Unit:=()
def tw800011961832360881:Unit:=()
def tw3909952983238313599:Unit:=()
def tw2755661469118186025:Unit:=()
def tw7372191621281548353:Unit:=()
def tw9421982232127300926:Unit:=()
def tw1605056717572747344:Unit:=()
def tw15355082531018309514:Unit:=()
def tw15148878309765903884:Unit:=()
def tw13002174098382230526:Unit:=()
def tw6259896871564840067:Unit:=()
def tw17177374421378930129:Unit:=()
def tw7015297860059918413:Unit:=()
def tw3891366397414707873:Unit:=()
def tw17394548736338436658:Unit:=()
def tw3961998550470945555:Unit:=()
def tw7274146599314635164:Unit:=()
def tw5759551448359547064:Unit:=()
def tw5396342641019737162:Unit:=()
def tw7662686617718568724:Unit:=()
def tw5295818883160467942:Unit:=()
def tw2031579592728521206:Unit:=()
def tw12377013229615725097:Unit:=()
def tw2254260586166276545:Unit:=()
def tw11590083146320104650:Unit:=()
def tw16009248922153065338:Unit:=()
def tw4378916269914135854:Unit:=()
def tw17877160152925616594:Unit:=()
def tw10945560838465072822:Unit:=()
def tw11788968993286548849:Unit:=()
def tw11225792696691509743:Unit:=()
def tw13583245075891385828:Unit:=()
def tw3482108047046973572:Unit:=()
def tw4512738993095794895:Unit:=()
def tw1178425835866090345:Unit:=()
def tw2545946520833184599:Unit:=()
def tw2542865958420557677:Unit:=()
def tw3232622710395705711:Unit:=()
def tw3536668337567457010:Unit:=()
def tw3751246555224525313:Unit:=()
def tw8882903163880775924:Unit:=()
def tw1759753628279677705:Unit:=()
def tw713019955669591441:Unit:=()
def tw2136038505157691366:Unit:=()
def tw16955774758301764740:Unit:=()
def tw2744899551105082104:Unit:=()
def tw6001685041278542933:Unit:=()
def tw5487338746461856155:Unit:=()
def tw9622106753018353362:Unit:=()
def tw12113890286559206269:Unit:=()
def tw5811677293905783180:Unit:=()
def tw7940197540022881732:Unit:=()
def tw12286582588892543050:Unit:=()
def tw8296883767407278884:Unit:=()
def tw2337108386078948512:Unit:=()
def tw8113926027668759086:Unit:=()
def tw18004858401391560891:Unit:=()
def tw2884488363213288468:Unit:=()
def tw18143164882226202434:Unit:=()
def tw17337049763142714030:Unit:=()
def tw16113094629725384876:Unit:=()
def tw11361033056759566944:Unit:=()
def tw17547871261920908005:Unit:=()
def tw12888505685297195584:Unit:=()
def tw1349009218645047832:Unit:=()
def tw12649731216634052484:Unit:=()
def tw12485866103635731549:Unit:=()
def tw9601104419868695718:Unit:=()
def tw2524037199268520900:Unit:=()
def tw251624107072176548:Unit:=()
def tw10789834584368031941:Unit:=()
def tw3086456544997657869:Unit:=()
def tw12797841941430232244:Unit:=()
def tw940995313564543388:Unit:=()
def tw4816933213017680342:Unit:=()
def tw17033311898320278508:Unit:=()
def tw8316485850167607387:Unit:=()
def tw6420962371901187162:Unit:=()
def tw16482396282162182835:Unit:=()
def tw8577998531601972645:Unit:=()
def tw10342085171813727393:Unit:=()
def tw2838845210293592482:Unit:=()
def tw14014896116672578845:Unit:=()
def tw466485735480382988:Unit:=()
def tw5673749133507094791:Unit:=()
def tw2778380409658250447:Unit:=()
def tw16534254931997752027:Unit:=()
def tw5763162076385540761:Unit:=()
def tw13239483330238913181:Unit:=()
def tw7185468383800750007:Unit:=()
def tw13757361612679462622:Unit:=()
def tw9724776534971699118:Unit:=()
def tw3684697239389429540:Unit:=()
def tw14067825847549716151:Unit:=()
def tw6094210573482558381:Unit:=()
def tw5349709322540685701:Unit:=()
def tw8753559638707342398:Unit:=()
def tw11175607089685299720:Unit:=()
def tw13146667764184169796:Unit:=()
def tw7249777096192769713:Unit:=()
def tw15777802686646835096:Unit:=()
def tw2924628594757930119:Unit:=()
def tw7959760084494731339:Unit:=()
def tw16988866368636630102:Unit:=()
def tw915640099524715434:Unit:=()
def tw12729420118633823845:Unit:=()
def tw16322506462280057593:Unit:=()
def tw6256593862041178038:Unit:=()
def tw9400274426261170572:Unit:=()
def tw11135602474087337332:Unit:=()
def tw14330023158798974911:Unit:=()
def tw2998550008643268120:Unit:=()
def tw18223009025528611793:Unit:=()
def tw13981559419300464851:Unit:=()
def tw4883094185829509418:Unit:=()
def tw575085683236949555:Unit:=()
def tw11191549921603883887:Unit:=()
def tw1686286737215812581:Unit:=()
def tw4847950615473967479:Unit:=()
def tw107722065068342865:Unit:=()
def tw18256386621541196437:Unit:=()
def tw8394657679005554785:Unit:=()
def tw2531466188421829298:Unit:=()
def tw8442981529623365:Unit:=()
def tw14207110183851503397:Unit:=()
def tw15332138386847182642:Unit:=()
def tw11004435653963406307:Unit:=()
def tw6391091343956608308:Unit:=()
def tw12536961664128959484:Unit:=()
def tw2246504892858516981:Unit:=()
def tw10004991284189059659:Unit:=()
def tw16997640633472305068:Unit:=()
def tw871651108112340895:Unit:=()
def tw9476547113527974939:Unit:=()
def tw5706839749024465875:Unit:=()
def tw9486795147281782960:Unit:=()
def tw14227604235278769030:Unit:=()
def tw14284011007571386705:Unit:=()
def tw14966438018480984233:Unit:=()
def tw18306916938536191905:Unit:=()
def tw5076785462975771523:Unit:=()
def tw15134855379923495979:Unit:=()
def tw9843401531511316594:Unit:=()
def tw2948966663281143323:Unit:=()
def tw6825097113666756100:Unit:=()
end PySem.W.Fast
open PySem PySem.W PyProof.Rows
set_option maxRecDepth 100000 in
set_option maxHeartbeats 0 in
theorem PySem.Challenge.cw_bandwright_k40_whole_names_and_neighbour_holds : PySem.Challenge.rw_bandwright_k40_whole_names_and_neighbour.Holds := by
 w_on;o_law;k_head;(case hw=>w_witness2)
 k_fill
 refine My.walk (l:=PySem.Challenge.rw_bandwright_k40_whole_names_and_neighbour) rfl rfl (fun w h Y=>PySem.W.kIn_of Y) ?F
 case F=>
  intro w mg fa h KX G xA
  have T:∃t,My.Txt (L2.IP KX) mg t:=by
   dsimp only [L2.IP]
   refine' My.Zt KX G ?GI ?GJ ?GK ?GL ?GN (bH KX G ?aat) (L2.bK (st:=My.AV) ?aau ?aav ?aaw) (bH KX G ?aax) (L2.bK (st:=My.AW) ?aay ?aaz ?aaA) (bH KX G ?aaB) (L2.bK (st:=My.AX) ?aaC ?aaD ?aaE) (bH KX G ?aaF) (L2.bK (st:=My.AY) ?aaG ?aaH ?aaI) (bH KX G ?aaJ) (L2.bK (st:=My.E8) ?aaK ?aaL ?aaM) (bH KX G ?aaN) (L2.bK (st:=My.AZ) ?aaO ?aaP ?aaQ) (bH KX G ?aaR) (L2.bK (st:=My.A0) ?aaS ?aaT ?aaU) (bH KX G ?aaV) (L2.bK (st:=My.A3) ?aaW ?aaX ?aaY) (bH KX G ?aaZ) (L2.bK (st:=My.A4) ?aa0 ?aa1 ?aa2) (bH KX G ?aa3) (L2.bK (st:=My.A5) ?aa4 ?aa5 ?aa6) (bH KX G ?aa7) (L2.bK (st:=My.A6) ?aa8 ?aa9 ?aa_) (bH KX G ?aba) (L2.bK (st:=My.A7) ?abb ?abc ?abd) (bH KX G ?abe) (L2.bK (st:=My.A8) ?abf ?abg ?abh) (bH KX G ?abi) (L2.bK (st:=My.A9) ?abj ?abk ?abl) (bH KX G ?abm) (L2.bK (st:=My.A_) ?abn ?abo ?abp) (bH KX G ?abq) (L2.bK (st:=My.Ba) ?abr ?abt ?abu) (bH KX G ?abv) (L2.bK (st:=My.Bb) ?abw ?abx ?aby) (bH KX G ?abz) (L2.bK (st:=My.Bc) ?abA ?abB ?abC) (bH KX G ?abD) (L2.bK (st:=My.Bd) ?abE ?abF ?abG) (bH KX G ?abH) (L2.bK (st:=My.Be) ?abI ?abJ ?abK) (bH KX G ?abL) (L2.bK (st:=My.Bf) ?abM ?abN ?abO) (bH KX G ?abP) (L2.bK (st:=My.Bg) ?abQ ?abR ?abS) (bH KX G ?abT) (L2.bK (st:=My.Bh) ?abU ?abV ?abW) (bH KX G ?abX) (L2.bK (st:=My.Bi) ?abY ?abZ ?ab0) (bH KX G ?ab1) (L2.bK (st:=My.Bj) ?ab2 ?ab3 ?ab4) (bH KX G ?ab5) (L2.bK (st:=My.Bk) ?ab6 ?ab7 ?ab8) (bH KX G ?ab9) (L2.bK (st:=My.Bl) ?ab_ ?acd ?ace) (bH KX G ?acf) (L2.bK (st:=My.Bm) ?acg ?ach ?aci) (bH KX G ?acj) (L2.bK (st:=My.Bn) ?ack ?acm ?acn) (bH KX G ?aco) (L2.bK (st:=My.Bo) ?acp ?acq ?acr) (bH KX G ?acs) (L2.bK (st:=My.Bp) ?acu ?acv ?acw) (bH KX G ?acy) (L2.bK (st:=My.Bq) ?acz ?acA ?acB) (bH KX G ?acC) (L2.bK (st:=My.Br) ?acD ?acE ?acF) (bH KX G ?acG) (L2.bK (st:=My.Bs) ?acH ?acI ?acJ) (bH KX G ?acK) (L2.bK (st:=My.Bt) ?acL ?acM ?acN) (bH KX G ?acO) (L2.bK (st:=My.Bu) ?acP ?acQ ?acR) (bH KX G ?acS) (L2.bK (st:=My.Bv) ?acT ?acU ?acV) (bH KX G ?acW) (L2.bK (st:=My.Bw) ?acX ?acY ?acZ) (bH KX G ?ac0) (L2.bK (st:=My.Bx) ?ac1 ?ac2 ?ac3) (bH KX G ?ac4) (L2.bK (st:=My.By) ?ac5 ?ac6 ?ac7) (bH KX G ?ac8) (L2.bK (st:=My.Bz) ?ac9 ?ac_ ?ada) (bH KX G ?adb) (L2.bK (st:=My.BA) ?ade ?adf ?adg) (bH KX G ?adh) (L2.bK (st:=My.BB) ?adi ?adk ?adl) (bH KX G ?adm) (L2.bK (st:=My.BC) ?adn ?ado ?adp) (bH KX G ?adq) (L2.bK (st:=My.BD) ?ads ?adt ?adu) (bH KX G ?adv) (L2.bK (st:=My.BE) ?adw ?adx ?ady) (bH KX G ?adz) (L2.bK (st:=My.BF) ?adA ?adB ?adC) (bH KX G ?adD) (L2.bK (st:=My.BG) ?adE ?adF ?adG) (bH KX G ?adH) (L2.bK (st:=My.BH) ?adI ?adJ ?adK) (bH KX G ?adL) (L2.bK (st:=My.BI) ?adM ?adN ?adO) (bH KX G ?adP) (L2.bK (st:=My.BJ) ?adQ ?adR ?adS) ⟨?adT,?adU,?adV,?adW⟩ (L2.bK (st:=My.BK) ?adX ?adY ?adZ) ?GO ?GP ?wA ?wB ?rY ?wC ⟨?ad0,?ad1,?ad2⟩ (L2.bK (st:=My.E9) ?ad3 ?ad4 ?ad5) ⟨?ad6,?ad7,?ad8⟩ (L2.bK (st:=My.BL) ?ad9 ?ad_ ?aea) ⟨?aeb,?aec,?aed⟩ (L2.bK (st:=My.BM) ?aee ?aef ?aeg) ⟨?aeh,?aei,?aej⟩ (L2.bK (st:=My.BN) ?aek ?ael ?aem) ?GQ ?GR ?GS ?GU ?GV ?GW ?GX ?GY ?GZ ?G0 ?G1 ?G2 ?G3 ?G4 ?G5 ?G6 ?G7 ?G8 ?G9 ?G_ ?Hj ?Hl ?Ho ?Hq ?Hr ?Hs ?Ht ?Hu ?Hv
   (case GI|GJ|GK|GL|GN|aat|aau|aav|aaw|aax|aay|aaz|aaA|aaB|aaC|aaD|aaE|aaF|aaG|aaH|aaI|aaJ|aaK|aaL|aaM|aaN|aaO|aaP|aaQ|aaR|aaS|aaT|aaU|aaV|aaW|aaX|aaY|aaZ|aa0|aa1|aa2|aa3|aa4|aa5|aa6|aa7|aa8|aa9|aa_|aba|abb|abc|abd|abe|abf|abg|abh|abi|abj|abk|abl|abm|abn|abo|abp|abq|abr|abt|abu|abv|abw|abx|aby|abz|abA|abB|abC|abD|abE|abF|abG|abH|abI|abJ|abK|abL|abM|abN|abO|abP|abQ|abR|abS|abT|abU|abV|abW|abX|abY|abZ|ab0|ab1|ab2|ab3|ab4|ab5|ab6|ab7|ab8|ab9|ab_|acd|ace|acf|acg|ach|aci|acj|ack|acm|acn|aco|acp|acq|acr|acs|acu|acv|acw|acy|acz|acA|acB|acC|acD|acE|acF|acG|acH|acI|acJ|acK|acL|acM|acN|acO|acP|acQ|acR|acS|acT|acU|acV|acW|acX|acY|acZ|ac0|ac1|ac2|ac3|ac4|ac5|ac6|ac7|ac8|ac9|ac_|ada|adb|ade|adf|adg|adh|adi|adk|adl|adm|adn|ado|adp|adq|ads|adt|adu|adv|adw|adx|ady|adz|adA|adB|adC|adD|adE|adF|adG|adH|adI|adJ|adK|adL|adM|adN|adO|adP|adQ|adR|adS|adT|adU|adV|adW|adX|adY|adZ|GO|GP|wA|wB|rY|wC|ad0|ad1|ad2|ad3|ad4|ad5|ad6|ad7|ad8|ad9|ad_|aea|aeb|aec|aed|aee|aef|aeg|aeh|aei|aej|aek|ael|aem|GQ|GR|GS|GU|GV|GW|GX|GY|GZ|G0|G1|G2|G3|G4|G5|G6|G7|G8|G9|G_|Hj|Hl|Ho|Hq|Hr=>k_is)
   (case Hs|Ht|Hu|Hv=>k_exc)
  obtain ⟨t,T⟩:=T
  have e0:=xA.symm.trans T.Mw
  cases e0
  exact My.Zs T
#print axioms PySem.Challenge.cw_bandwright_k40_whole_names_and_neighbour_holds
