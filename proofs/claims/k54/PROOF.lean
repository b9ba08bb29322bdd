import PyProof.Rows.All
import Wide.All
import OpenK.AllK
import Wide.FinOn
import Lean
import PyProof.EqAt
import PyProof.EqKinds
import PyProof.TupleCall
import PySem.Challenge.RW_bandwright_k54_what_two_rows_have_in_com
set_option Elab.async false
set_option linter.all false
set_option maxRecDepth 100000
abbrev gU:=@decide_eq_false
abbrev uJ:=@beq_eq_false_iff_ne
abbrev au:=@if_pos
abbrev ar:=@if_neg
abbrev bK:=@PySem.Heap.lt_size
abbrev dB:=@Nat.lt_of_lt_of_le
abbrev gF:=@Nat.lt_irrefl
abbrev dZ:=@Nat.ne_of_lt
abbrev w_:=@PySem.W.hideAll_get
abbrev ku:=@List.mem_range
abbrev ai:=@Nat.le_trans
abbrev xa:=@List.filterMap_cons
abbrev lK:=@List.mem_cons_self
abbrev gW:=@List.mem_cons_of_mem
abbrev dH:=@List.mem_cons
abbrev gG:=@List.mem_append
abbrev cG:=@List.getElem?_eq_some_iff
abbrev nH:=@List.getElem?_set_self
abbrev nI:=@List.getElem?_set_ne
abbrev cf:=@PySem.wpAny_mono
abbrev nJ:=@PySem.wpAny_truthy_bool
abbrev fL:=@congrArg
abbrev xb:=@PySem.wpAny_execs_nil
abbrev cw:=@PySem.wpAny_bind
abbrev uK:=@PySem.wpAny_standAt
abbrev d0:=@PySem.wpAny_pure
abbrev uM:=@PySem.wpAny_newObj_type
abbrev de:=@PySem.Heap.get?_push_of_some
abbrev nK:=@PySem.wpAny_passesOwn
abbrev cZ:=@Bool.false_ne_true
abbrev eQ:=@Int.mul_one
abbrev gg:=@PySem.Heap.get?_push_size
abbrev aO:=@Nat.le_refl
abbrev uN:=@PyProof.Rows.callWith_type1
abbrev dI:=@List.mem_append_right
abbrev bO:=@Nat.zero_le
abbrev uO:=@Int.fdiv_eq_ediv_of_nonneg
abbrev uP:=@Bool.eq_iff_iff
abbrev jz:=@beq_iff_eq
abbrev d9:=@List.length_cons
abbrev xc:=@PySem.W.looks_findIn
abbrev nO:=@List.map_cons
abbrev aW:=@List.length_map
abbrev i5:=@Nat.le_of_eq
abbrev gX:=@PySem.W.kia_one
abbrev nQ:=@List.append_nil
abbrev xf:=@PySem.wpAny_Call_Name_kw
abbrev xg:=@List.nodup_cons
abbrev qC:=@List.of_mem_zip
abbrev lL:=@List.length_take
abbrev jA:=@PySem.mem_of_lookup
abbrev gY:=@List.getElem?_append_right
abbrev kv:=@List.getElem?_replicate
abbrev ir:=@List.getElem?_append_left
abbrev eS:=@List.getElem?_map
abbrev Ar:=@List.getElem?_take_of_lt
abbrev uQ:=@List.mem_of_getElem?
abbrev iu:=@List.length_append
abbrev iw:=@List.length_replicate
abbrev d_:=@Int.toNat_natCast
abbrev dJ:=@List.size_toArray
abbrev uR:=@List.length_set
abbrev lM:=@List.replicate_succ
abbrev uS:=@List.flatten_cons
abbrev gH:=@List.append_assoc
abbrev As:=@List.length_singleton
abbrev fh:=@List.nil_append
abbrev jB:=@Nat.mul_comm
abbrev dM:=@decide_eq_true
abbrev bY:=@PySem.W.mg_of
abbrev i6:=@Nat.lt_of_le_of_lt
abbrev uT:=@Bool.and_eq_true
abbrev Au:=@PySem.F.typeOf_object_class
abbrev uU:=@PySem.wpAny_loadPart_at
abbrev nR:=@Nat.not_lt_zero
abbrev lO:=@List.all_eq_true
abbrev lQ:=@decide_eq_true_eq
abbrev xh:=@PySem.wpAny_comprehension_free
abbrev xi:=@PySem.wpAny_newFunctionEnv
abbrev ix:=@PySem.lookup_relabel_local
abbrev xj:=@PySem.wpAny_tests_nil
abbrev xk:=@PySem.wpAny_tests_one
abbrev xl:=@PySem.codeAny_compStart_list
abbrev d3:=@List.getD_eq_getElem?_getD
abbrev ky:=@List.mem_singleton
abbrev gI:=@List.getElem_mem
abbrev Av:=@Nat.gcd_pos_of_pos_right
abbrev gh:=@Int.natAbs_pos
abbrev gi:=@Nat.pow_le_pow_right
abbrev jC:=@Int.mul_le_mul_of_nonneg_left
abbrev dQ:=@Int.mul_zero
abbrev uV:=@Int.gcd_dvd_left
abbrev nS:=@Int.gcd_dvd_right
abbrev bq:=@Int.natAbs_mul
abbrev lR:=@Int.natAbs_ediv_le_natAbs
abbrev lT:=@Int.mul_ediv_cancel_left
abbrev nU:=@Int.dvd_refl
abbrev iy:=@Int.mul_comm
abbrev qD:=@Int.le_of_dvd
abbrev gj:=@Nat.mul_le_mul_left
abbrev Aw:=@Int.emod_add_mul_ediv
abbrev du:=@Int.emod_lt_of_pos
abbrev dk:=@Int.emod_nonneg
abbrev kz:=@Int.dvd_trans
abbrev uW:=@Int.dvd_mul_right
abbrev jD:=@Int.mul_add
abbrev kA:=@Int.mul_assoc
abbrev uX:=@Int.mul_emod
abbrev lU:=@Int.emod_eq_of_lt
abbrev qE:=@Int.zero_sub
abbrev xn:=@Int.fdiv_eq_ediv_of_dvd
abbrev gk:=@Int.mul_neg
abbrev kB:=@Int.natAbs_neg
abbrev xo:=@Int.gcd_one_right
abbrev qF:=@Int.fdiv_one
abbrev fM:=@Int.dvd_zero
abbrev Ax:=@Int.dvd_of_emod_eq_zero
abbrev jE:=@Nat.sub_self
abbrev jF:=@List.not_mem_nil
abbrev jG:=@or_false
abbrev uY:=@Nat.le_add_right
abbrev xp:=@PySem.Around.in1_units
abbrev Ay:=@List.getElem?_zip_eq_some
abbrev xq:=@List.ext_getElem?
abbrev jH:=@List.getElem?_eq_none
abbrev iz:=@Nat.mul_le_mul_right
abbrev fN:=@Int.zero_dvd
abbrev iA:=@List.cons_append
abbrev fD:=@List.mem_map
abbrev d4:=@Nat.pow_succ
abbrev fE:=@Int.zero_mul
abbrev jI:=@Int.add_zero
abbrev gq:=@Int.natAbs_pow
abbrev uZ:=@Nat.eq_of_mul_eq_mul_left
abbrev nV:=@Nat.pow_pos
abbrev lV:=@Nat.mul_assoc
abbrev qG:=@Int.one_mul
abbrev u3:=@Nat.sub_zero
abbrev gZ:=@List.length_eq_zero_iff
abbrev cI:=@Nat.mul_le_mul
abbrev Az:=@Int.natAbs_dvd_natAbs
abbrev nY:=@Int.one_dvd
abbrev qH:=@Nat.add_sub_cancel
abbrev nZ:=@List.map_append
abbrev lW:=@List.getElem_of_mem
abbrev u4:=@Int.natAbs_add_le
abbrev n_:=@Nat.add_le_add
abbrev iB:=@List.getElem_map
abbrev xr:=@List.getElem?_eq_getElem
abbrev iC:=@Nat.le_mul_of_pos_right
abbrev xt:=@List.length_zip
abbrev qI:=@List.mem_replicate
abbrev lX:=@Classical.byContradiction
abbrev u5:=@Int.pow_zero
abbrev u6:=@Int.pow_succ
abbrev oa:=@Int.sub_eq_zero
abbrev gJ:=@List.length_pos_iff
abbrev lY:=@Nat.le_mul_of_pos_left
abbrev dC:=@of_decide_eq_true
abbrev dR:=@PySem.PassesOwn.never
abbrev cz:=@PySem.boot_len
abbrev AA:=@PySem.F.excBase_ValueError
abbrev u7:=@Int.ediv_nonneg
abbrev df:=@List.set_cons_zero
abbrev dg:=@List.set_cons_succ
abbrev lZ:=@List.length_range
abbrev gK:=@PySem.W.mg_none_of
abbrev Xt:=List (List (Int×Int))
abbrev aF:=List (Int×Int)
abbrev LW:=Nat→Nat→Int
abbrev dh:=PySem.Str→Option PySem.Value
abbrev bV:=PySem.Value→PySem.Shared→Prop
abbrev ax:=PySem.W.Frag
abbrev aZ:=List (PySem.Addr×PySem.Obj)
namespace L2
open PySem PySem.Spec PyProof.Rows
abbrev Key:=Sum Int Str
def Ee:Key→Value→Bool
 | .inl k,v=>Value.isInt k v
 | .inr x,v=>Value.isStrOf x v
def LX(w:World):Key→Int
 | .inl k=>hashInt k
 | .inr x=>hashStr w x
theorem kC:∀{k:Key} {v:Value},Ee k v=true→(∃i t,k=Sum.inl i∧v=Value.int i t)∨(∃x t,k=Sum.inr x∧v=Value.str x t)
 | .inl i,v,h=>by obtain ⟨t,e⟩:=Value.isInt_shape (k:=i) (v:=v) h;exact .inl ⟨i,t,rfl,e⟩
 | .inr x,v,h=>by obtain ⟨t,e⟩:=Value.isStrOf_shape (x:=x) (v:=v) h;exact .inr ⟨x,t,rfl,e⟩
theorem LY(a b:Int):decide ((Sum.inl a:Key)=Sum.inl b)=(a == b):=by
 by_cases e:a=b;·subst e;simp
 ·have h:¬(Sum.inl a:Key)=Sum.inl b:=fun q=>e (Sum.inl.inj q)
  rw [gU h];exact (uJ.mpr e).symm
theorem LZ(a b:Str):decide ((Sum.inr a:Key)=Sum.inr b)=decide (a=b):=by
 by_cases e:a=b;·subst e;simp
 ·have h:¬(Sum.inr a:Key)=Sum.inr b:=fun q=>e (Sum.inr.inj q)
  rw [gU h,gU e]
theorem L0(a:Int)(b:Str):decide ((Sum.inl a:Key)=Sum.inr b)=false:=gU (fun q=>nomatch q)
theorem L3(a:Str)(b:Int):decide ((Sum.inr a:Key)=Sum.inl b)=false:=gU (fun q=>nomatch q)
def EK(prog:Program)(w:World):PySem.KeyKind prog w Key where
 is:=Ee
 hash:=LX w
 inj:=fun v a b ha hb=>by
  rcases kC ha with ⟨i,t,rfl,rfl⟩ | ⟨x,t,rfl,rfl⟩
  ·rcases kC hb with ⟨j,u,rfl,e⟩ | ⟨y,u,rfl,e⟩
   ·injection e with e1 _;rw [e1]
   ·exact nomatch e
  ·rcases kC hb with ⟨j,u,rfl,e⟩ | ⟨y,u,rfl,e⟩
   ·exact nomatch e
   ·injection e with e1 _;rw [e1]
 byValue:=fun k v h=>by
  rcases kC h with ⟨i,t,rfl,rfl⟩ | ⟨x,t,rfl,rfl⟩ <;> rfl
 pyHash:=fun hv h=>by
  rcases kC hv with ⟨i,t,rfl,rfl⟩ | ⟨x,t,rfl,rfl⟩
  ·exact wpAny_pyHash_int h
  ·exact wpAny_pyHash_str h
 eqBool:=fun hu hv h=>by
  rcases kC hu with ⟨i,t,rfl,rfl⟩ | ⟨x,t,rfl,rfl⟩
  ·rcases kC hv with ⟨j,u,rfl,rfl⟩ | ⟨y,u,rfl,rfl⟩
   ·rw [LY] at h;exact wpAny_eqBool_int h
   ·rw [L0] at h;exact SeqAt.EqAt.int_str i t y u _ _ _ _ h
  ·rcases kC hv with ⟨j,u,rfl,rfl⟩ | ⟨y,u,rfl,rfl⟩
   ·rw [L3] at h;exact SeqAt.EqAt.str_int x t j u _ _ _ _ h
   ·rw [LZ] at h;exact wpAny_eqBool_str h
 «strs»:=fun k x t v h=>by
  rcases kC h with ⟨i,u,rfl,e⟩ | ⟨y,u,rfl,e⟩
  ·exact nomatch e
  ·injection e with e1 _
   subst e1
   cases v <;> rfl
inductive V where
 | aH | bl (b:Bool) | int (i:Int) | str (x:Str) | iD (b:Array UInt8) | og (b:UInt64) | ref (a:Addr) | ty (n:String)
 deriving DecidableEq
def RelV:V→Value→Prop
 | .aH,u=>u=Value.none
 | .bl b,u=>u=Value.bool b
 | .int i,u=>∃t,u=Value.int i t
 | .str x,u=>∃t,u=Value.str x t
 | .iD b,u=>∃t,u=Value.bytes b t
 | .og b,u=>∃t,u=Value.float b t
 | .ref a,u=>u=Value.ref a
 | .ty n,u=>u=Value.type n
abbrev Vals:List V→List Value→Prop:=Paired RelV
variable {xs:List V} {us:List Value}
theorem Vals.length(r:Vals xs us):xs.length=us.length:=Paired.length r
theorem Vals.get:∀{xs:List V} {us:List Value} {i:Nat} {x:V},Vals xs us→xs[i]?=some x→∃u,us[i]?=some u∧RelV x u
 | _,_,_,_,.nil,e=>by simp at e
 | _,_,0,_,.cons r _,e=>by simp at e;subst e;exact ⟨_,rfl,r⟩
 | _,_,i+1,x,.cons _ t,e=>by
  obtain ⟨u,h1,h2⟩:=Vals.get (i:=i) (x:=x) t (by simpa using e)
  exact ⟨u,by simpa using h1,h2⟩
theorem Vals.set{x:V}{u:Value}(r:RelV x u):∀{xs:List V} {us:List Value} (i:Nat),Vals xs us→Vals (xs.set i x) (us.set i u)
 | _,_,_,.nil=>.nil
 | _,_,0,.cons _ t=>.cons r t
 | _,_,i+1,.cons q t=>.cons q (Vals.set r i t)
theorem Vals.append:∀{xs ys:List V} {us ws:List Value},Vals xs us→Vals ys ws→Vals (xs++ys) (us++ws)
 | _,_,_,_,.nil,s=>s
 | _,_,_,_,.cons r t,s=>.cons r (Vals.append t s)
theorem Vals.take:∀{xs:List V} {us:List Value} (n:Nat),Vals xs us→Vals (xs.take n) (us.take n)
 | _,_,0,_=>.nil
 | _,_,_+1,.nil=>.nil
 | _,_,n+1,.cons r t=>.cons r (Vals.take n t)
theorem Vals.drop:∀{xs:List V} {us:List Value} (n:Nat),Vals xs us→Vals (xs.drop n) (us.drop n)
 | _,_,0,r=>r
 | _,_,_+1,.nil=>.nil
 | _,_,n+1,.cons _ t=>Vals.drop n t
theorem Vals.none_of:∀{xs:List V} {us:List Value} {i:Nat},Vals xs us→xs[i]?=none→us[i]?=none:=fun{xs us i} r e=>by have h1:=r.length;have h2:xs.length≤i:=List.getElem?_eq_none_iff.mp e;exact List.getElem?_eq_none_iff.mpr (by lia)
def jK:Option V→Option Value→Prop
 | some v,some u=>RelV v u
 | none,none=>True
 | _,_=>False
def KV{κ:Type}:List (κ×V)→List (κ×Value)→Prop:=Paired fun(p:κ×V) (q:κ×Value)=>p.1=q.1∧RelV p.2 q.2
def kV:Key→V
 | .inl i=>.int i
 | .inr x=>.str x
inductive HO where
 | lst (xs:List V)
 | tup (xs:List V)
 | dK (dw:List (Key×V)) | dT (dw:List (List Key×V))
 | set (S:Int→Bool) (n:Nat)
 | ins (C dx:Addr) (fs:List (Str×V))
 | own (x:Addr)
 | xd (fs:List (Str×V))
 | met (f x:Addr)
 | AB (lo hi:Int)
 | fO (o:Obj) (u:HO)
 | kD (ps:Array Value)
 | ext (φ:Heap→Prop)
abbrev Hp:=Addr→Option HO
def upd(H:Hp)(a:Addr)(o:HO):Hp:=fun b=>if b=a then some o else H b
variable {H:Hp} {o:HO}
theorem aq{a:Addr}:upd H a o a=some o:=by unfold upd;rw [au rfl]
variable {b:Addr}
theorem bG{a:Addr}(h:b≠a):upd H a o b=H b:=by unfold upd;rw [ar h]
theorem fi{a:Addr}(h:H a=some o)(h':H b=none):a≠b:=by intro e;subst e;rw [h] at h';cases h'
section
variable (P:Program) (w:World)
def d5(H:Hp)(h:Heap)(a:Addr):HO→Prop
 | .lst xs=>xs.length≤sizeLine∧∃(ao:List Value) (n:Nat),Vals xs ao∧h.get? a=some {cls:=.type "list",data:=.seq ao.toArray n}
 | .tup xs=>xs.length≤sizeLine∧∃ao:List Value,Vals xs ao∧IsTup h a ao.toArray
 | .dK dw=>dw.length≤sizeLine∧(a == sysModules)=false∧∃vs,KV dw vs∧h.DictOf (EK P w) a vs
 | .dT dw=>dw.length≤sizeLine∧(a == sysModules)=false∧∃xs:List (List Key×Addr×Value),
   Paired (fun(p:List Key×V) (q:List Key×Addr×Value)=>p.1=q.1∧H q.2.1=some (.tup (p.1.map kV))∧RelV p.2 q.2.2) dw xs ∧
   ∃o es ep,h.get? a=some o∧o.ExactDict∧o.data=.dict es ep∧es.toList=xs.map (entryOfKey (tupleKind (EK P w)))∧(xs.map (·.1)).Nodup
 | .set S n=>h.SetOf (intKind P w) a S n
 | .ins C dx fs=>H dx=some (.own a)∧fs.length≤1000∧dx≠a∧h.get? a=some (PySem.W.instObj C dx) ∧
   ∃mA,h.Ns1 dx mA∧(∀f,jK (fs.lookup f) (mA f))∧PySem.Within mA (fs.map (·.1))
 | .own _=>∃o,h.get? a=some o
 | .xd fs=>∃mA,h.Ns1 a mA∧∀f,jK (fs.lookup f) (mA f)
 | .AB lo hi=>∃t u v,h.get? a=some {cls:=.type "range",data:=.fields #[.int lo t,.int hi u,.int 1 v]}
 | .fO o u=>h.get? a=some o∧d5 H h a u
 | .kD ps=>h.get? a=some {cls:=.none,data:=.fields ps}
 | .met f x=>h.get? a=some (PySem.W.methodObj (.ref f) (.ref x))
 | .ext φ=>φ h∧(∃o,h.get? a=some o)∧∀h1 h2:Heap,φ h1→(∀o,h1.get? a=some o→h2.get? a=some o)→φ h2
def cJ(H:Hp)(h:Heap):Prop:=∀a o,H a=some o→d5 P w H h a o
end
section
variable {P:Program} {w:World} {H H':Hp} {h h':Heap} {a:Addr} {o:HO}
theorem d5.lt(x:d5 P w H h a o):a<h.objs.size:=by
 cases o with
 | lst xs=>obtain ⟨_,_,_,_,e⟩:=x;exact bK e
 | tup xs=>obtain ⟨_,_,_,p⟩:=x;exact p.lt
 | dK dw=>obtain ⟨_,_,_,_,o,_,_,e,_⟩:=x;exact bK e
 | dT dw=>obtain ⟨_,_,_,_,o,_,_,e,_⟩:=x;exact bK e
 | set S n=>obtain ⟨o,_,_,_,e,_⟩:=x;exact bK e
 | ins C dx fs=>obtain ⟨_,_,_,e,_⟩:=x;exact bK e
 | own y=>obtain ⟨_,e⟩:=x;exact bK e
 | xd fs=>obtain ⟨_,⟨_,_,_,e,_⟩,_⟩:=x;exact bK e
 | AB lo hi=>obtain ⟨_,_,_,e⟩:=x;exact bK e
 | fO ob u=>obtain ⟨e,_⟩:=x;exact bK e
 | kD ps=>exact bK (show h.get? a=some _ from x)
 | met f y=>exact bK (show h.get? a=some _ from x)
 | ext φ=>obtain ⟨_,⟨_,e⟩,_⟩:=x;exact bK e
theorem Paired.EL{α β:Type}{F G:α→β→Prop}:∀{l₁:List α} {l₂:List β},Paired F l₁ l₂→(∀a b,F a b→G a b)→Paired G l₁ l₂
 | _,_,.nil,_=>.nil
 | _,_,.cons r t,f=>.cons (f _ _ r) (Paired.EL t f)
theorem d5.gL(x:d5 P w H h a o)(k:∀b u,(b=a∨H b=some (.own a))→h.get? b=some u→h'.get? b=some u)
  (ho:∀b,H b=some (.own a)→H' b=some (.own a)) (ht:∀b xs,H b=some (.tup xs)→H' b=some (.tup xs)):d5 P w H' h' a o:=by
 induction o with
 | lst xs=>obtain ⟨z,ao,n,r,e⟩:=x;exact ⟨z,ao,n,r,k _ _ (.inl rfl) e⟩
 | tup xs=>obtain ⟨z,ao,r,ob,e,c⟩:=x;exact ⟨z,ao,r,ob,k _ _ (.inl rfl) e,c⟩
 | dK dw=>obtain ⟨z,y,vs,r,ob,es,ep,e,c⟩:=x;exact ⟨z,y,vs,r,ob,es,ep,k _ _ (.inl rfl) e,c⟩
 | dT dw=>obtain ⟨z,y,xs,r,ob,es,ep,e,c⟩:=x;exact ⟨z,y,xs,Paired.EL r fun p q z=>⟨z.1,ht _ _ z.2.1,z.2.2⟩,ob,es,ep,k _ _ (.inl rfl) e,c⟩
 | set S n=>obtain ⟨ob,es,ep,t,e,c⟩:=x;exact ⟨ob,es,ep,t,k _ _ (.inl rfl) e,c⟩
 | ins C dx fs=>obtain ⟨d,z,ne,e,mA,⟨od,es,ep,e2,c⟩,r⟩:=x;exact ⟨ho _ d,z,ne,k _ _ (.inl rfl) e,mA,⟨od,es,ep,k _ _ (.inr d) e2,c⟩,r⟩
 | own y=>obtain ⟨ob,e⟩:=x;exact ⟨ob,k _ _ (.inl rfl) e⟩
 | xd fs=>obtain ⟨mA,⟨od,es,ep,e,c⟩,r⟩:=x;exact ⟨mA,⟨od,es,ep,k _ _ (.inl rfl) e,c⟩,r⟩
 | AB lo hi=>obtain ⟨t,u,v,e⟩:=x;exact ⟨t,u,v,k _ _ (.inl rfl) e⟩
 | fO ob u ih=>obtain ⟨e,q⟩:=x;exact ⟨k _ _ (.inl rfl) e,ih q⟩
 | kD ps=>have e:h.get? a=some {cls:=.none,data:=.fields ps}:=x;show h'.get? a=some {cls:=.none,data:=.fields ps};exact k a _ (.inl rfl) e
 | met f y=>have e:h.get? a=some (PySem.W.methodObj (.ref f) (.ref y)):=x;show h'.get? a=some (PySem.W.methodObj (.ref f) (.ref y));exact k a _ (.inl rfl) e
 | ext φ=>obtain ⟨p,⟨o,e⟩,st⟩:=x;exact ⟨st _ _ p fun o q=>k _ _ (.inl rfl) q,⟨o,k _ _ (.inl rfl) e⟩,st⟩
theorem cJ.lt(x:cJ P w H h)(e:H a=some o):a<h.objs.size:=(x a o e).lt
theorem cJ.fresh(x:cJ P w H h)(e:h.objs.size≤a):H a=none:=by
 cases q:H a with
 | none=>rfl
 | some u=>exact absurd (dB (x.lt q) e) (gF _)
theorem cJ.kept(x:cJ P w H h)(k:∀b u,h.get? b=some u→h'.get? b=some u):cJ P w H h':=fun a o e=>(x a o e).gL (fun b u _ q=>k b u q) (fun _ q=>q) fun _ _ q=>q
theorem cJ.laid(x:cJ P w H h)(k:∀b u,h.get? b=some u→h'.get? b=some u)(hp:h.objs.size≤a)(new:d5 P w (upd H a o) h' a o):cJ P w (upd H a o) h':=fun b u e=>by
 have hn:=x.fresh hp;by_cases hb:b=a;·subst hb;rw [aq] at e;cases e;exact new
 ·rw [bG hb] at e
  exact (x b u e).gL (fun c v _ q=>k c v q) (fun c q=>by rw [bG (fi q hn)];exact q) fun c xs q=>by rw [bG (fi q hn)];exact q
end
def Rd(H:Hp)(a:Addr)(u:HO):Prop:=H a=some u∨∃o,H a=some (.fO o u)
variable {P:Program} {w:World} {h:Heap}
theorem Rd.ok{a:Addr}{u:HO}(r:Rd H a u)(x:cJ P w H h):d5 P w H h a u:=by
 rcases r with r | ⟨o,r⟩;·exact x a u r
 ·obtain ⟨_,q⟩:=x a _ r
  exact q
def xu:Option HO→Prop
 | some (.lst _)=>True
 | some (.dK _)=>True
 | some (.dT _)=>True
 | some (.set _ _)=>True
 | some (.ins _ _ _)=>True
 | some (.ext _)=>True
 | _=>False
section
variable {P:Program} {w:World} {H:Hp} {h h':Heap} {x e:Addr} {o':HO}
theorem cJ.write(ok:cJ P w H h)(mu:xu (H x))(he:e=x∨H e=some (.own x))(k:∀b u,b≠e→h.get? b=some u→h'.get? b=some u)(qJ:∃u,h'.get? e=some u)
  (new:d5 P w (upd H x o') h' x o'):cJ P w (upd H x o') h':=fun b u q=>by
 have EM:∀c y,H c=some (.own y)→c≠x:=fun c y r z=>by subst z;rw [r] at mu;exact mu
 have L4:∀c xs,H c=some (.tup xs)→c≠x:=fun c xs r z=>by subst z;rw [r] at mu;exact mu
 by_cases hb:b=x;·subst hb;rw [aq] at q;cases q;exact new
 ·rw [bG hb] at q
  by_cases oh:b=e
  ·have q':H b=some (.own x):=by
    rcases he with z | z;·exact absurd (oh.trans z) hb
    ·rw [oh];exact z
   rw [q] at q';cases q';obtain ⟨v,hv⟩:=qJ;exact ⟨v,by rw [oh];exact hv⟩
  ·refine (ok b u q).gL (fun c v hc r=>k c v ?_ r) (fun c r=>by rw [bG (EM c b r)];exact r) fun c xs r=>by rw [bG (L4 c xs r)];exact r
   rcases hc with rfl | hc;·exact oh
   ·rintro rfl
    rcases he with z | z;·exact EM c b hc z
    ·rw [hc] at z;cases z;exact hb rfl
end
structure Un (fs ex:List Addr) (H H':Hp) (h h':Heap):Prop where
 keep:∀b o,h.get? b=some o→H b=none→b∉fs→b∉ex→h'.get? b=some o
 slot:∀b o,h.get? b=some o→H b=none→b∈fs→b∉ex→∃sl,h'.get? b=some {o with slots:=sl}
 free:∀b o,h.get? b=some o→H b=none→b∉ex→H' b=none
 there:∀b o,h.get? b=some o→b∉ex→∃o',h'.get? b=some o'
 fP:∀b xs,H b=some (.tup xs)→H' b=some (.tup xs)
 fF:∀b o u,H b=some (.fO o u)→H' b=some (.fO o u)
 fQ:∀b ps,H b=some (.kD ps)→∃more,H' b=some (.kD (ps++more))
section
variable {fs L5 ex g8:List Addr} {H H1 H2:Hp} {h h1 h2 h':Heap} {a x e:Addr} {o:HO}
theorem Un.any(u:Un fs ex H H1 h h1){ob:Obj}(q:h.get? b=some ob)(n:H b=none)(hx:b∉ex):∃sl,h1.get? b=some {ob with slots:=sl}:=by
 by_cases hb:b∈fs;·exact u.slot b ob q n hb hx
 ·exact ⟨ob.slots,u.keep b ob q n hb hx⟩
theorem Un.kept(k:∀b u,h.get? b=some u→h'.get? b=some u):Un fs ex H H h h':=
 ⟨fun b ob q _ _ _=>k b ob q,fun b ob q _ _ _=>⟨ob.slots,k b ob q⟩,fun _ _ _ n _=>n,fun b ob q _=>⟨ob,k b ob q⟩,fun _ _ q=>q,fun _ _ _ q=>q,fun _ ps q=>⟨#[],by rw [q];simp⟩⟩
theorem Un.refl:Un fs ex H H h h:=Un.kept fun _ _ q=>q
theorem Un.laid(k:∀b u,h.get? b=some u→h'.get? b=some u)(hp:h.objs.size≤a)(hn:H a=none):Un fs ex H (upd H a o) h h' where
 keep:=fun b u q _ _ _=>k b u q
 slot:=fun b u q _ _ _=>⟨u.slots,k b u q⟩
 free:=fun b u q n _=>by rw [bG (dZ (dB (bK q) hp))];exact n
 there:=fun b u q _=>⟨u,k b u q⟩
 fP:=fun b xs q=>by rw [bG (fi q hn)];exact q
 fF:=fun b u xs q=>by rw [bG (fi q hn)];exact q
 fQ:=fun b ps q=>⟨#[],by rw [bG (fi q hn),q];simp⟩
theorem Un.write(mu:xu (H x))(he:e=x∨H e=some (.own x))(k:∀b u,b≠e→h.get? b=some u→h'.get? b=some u)(qJ:∃u,h'.get? e=some u):Un fs ex H (upd H x o) h h':=by
 have hx:∀b,H b=none→b≠x:=fun b n z=>by subst z;rw [n] at mu;exact mu
 have hb:∀b,H b=none→b≠e:=fun b n z=>by
  subst z;rcases he with r | r;·exact hx b n r
  ·rw [n] at r;cases r
 have hm:∀b u,H b=some u→¬xu (some u)→b≠x:=fun b u q nm z=>by subst z;rw [q] at mu;exact nm mu
 refine ⟨fun b u q n _ _=>k b u (hb b n) q,fun b u q n _ _=>⟨u.slots,k b u (hb b n) q⟩,fun b u q n _=>by rw [bG (hx b n)];exact n,fun b u q _=>?_,
  fun b xs q=>by rw [bG (hm b _ q fun z=>z)];exact q,fun b u xs q=>by rw [bG (hm b _ q fun z=>z)];exact q,fun b ps q=>⟨#[],by rw [bG (hm b _ q fun z=>z),q];simp⟩⟩
 by_cases oh:b=e;·subst oh;exact qJ
 ·exact ⟨u,k b u oh q⟩
end
def xv(h:Heap)(H:Hp):List Addr:=(List.range h.objs.size).filter fun a=>(H a).isSome
def kF(h:Heap)(H:Hp):Heap:=PySem.W.hideAll h (xv h H)
theorem L6(h:Heap)(H:Hp):(kF h H).objs.size=h.objs.size:=PySem.W.hideAll_size _ _
theorem L7{o:Obj}(e:h.get? b=some o)(n:H b=none):(kF h H).get? b=some o:=
 w_ _ e fun hm=>by have q:(H b).isSome=true:=(List.mem_filter.mp hm).2;rw [n] at q;simp at q
theorem L8{o:Obj}(e:(kF h H).get? b=some o):h.get? b=some o∧H b=none:=by
 have e':h.get? b=some o:=PySem.W.of_hideAll (xv h H) e;refine ⟨e',?_⟩;cases q:H b with
 | none=>rfl
 | some x=>
  have hm:b∈xv h H:=List.mem_filter.mpr ⟨ku.mpr (bK e'),by simp [q]⟩
  have z:(kF h H).get? b=none:=PySem.W.hideAll_none (xv h H) hm;rw [z] at e;cases e
structure Mod (K:ax) (mg:dh) (base:Heap):Prop where
 cQ:K.In base
 glob:base.Ns mainGlobals mg
 blt:∃mb,base.Ns builtinsNs mb∧∀x:Str,x ≠ "__name__"→mb x=bootBuiltins x
 nolimit:base.NoLimit
structure Cx where
 prog:Program
 w:World
 K:PySem.W.Frag
 mg:Str→Option Value
 base:Heap
 A:Around
 N:List Str
 s₀:Shared
 H₀:Hp
 env:Env
 outer:List Env
 stack:List Env
 ex:List Addr
 fn:Str→Bool
 calm:Bool
 pn:List (Addr×Obj)
 xe:Value→Shared→Prop
def cE(l:List Env):List Addr:=l.filterMap (·.frame)
abbrev Cx.fs (X:Cx):List Addr:=cE X.outer
def l4(sc:Scope)(x:Str):Prop:=sc.names.lookup x=some .local∨sc.names.lookup x=some .cell∨sc.names.lookup x=some .free
def Loc(sc:Scope)(x:Str):Prop:=sc.names.lookup x=some .local∨sc.names.lookup x=some .cell
def Look(env:Env)(h:Heap)(m:dh)(x:Str)(u:Value):Prop:=
 (env.kindOf x=some .local∧m x=some u)∨((env.kindOf x=some .cell∨env.kindOf x=some .free)∧∃c,env.cells.lookup x=some c∧h.IsCell c (some u))
structure Cx.Ok (X:Cx):Prop where
 mod:Mod X.K X.mg X.base
 kind:X.env.scope.kind=.function
 glob:X.env.globals=mainGlobals
 blt:X.env.builtins=builtinsNs
 above:X.s₀.heap.objs.size≤X.env.locals
 inj:∀x y c,X.env.cells.lookup x=some c→X.env.cells.lookup y=some c→x=y
 has:∀x,(X.env.kindOf x=some .cell∨X.env.kindOf x=some .free)→∃c,X.env.cells.lookup x=some c
 u9:∀x c,X.fn x=true→X.env.cells.lookup x=some c→X.s₀.heap.objs.size≤c
 hd:X.calm=true→X.A.handled=none
 frames:X.A.frames=some X.stack
 g9:X.stack=X.outer∨(X.stack=X.env::X.outer∧X.env.frame=some X.env.locals)
 EN:∀b∈X.ex,b≠X.env.locals∧∀x c,X.env.cells.lookup x=some c→c≠b
 bs:∀b o,X.base.get? b=some o→X.s₀.heap.get? b=some o∧X.H₀ b=none
 gr:X.base.objs.size≤X.s₀.heap.objs.size
 l_:∀b o,X.base.get? b=some o→b∉X.ex
 ma:∀b∈X.ex,b∉X.fs
 iE:X.s₀.heap.FunFrames X.base X.outer
 kG:∀b∈X.fs,X.H₀ b=none
structure Inv (X:Cx) (pins:aZ) (σ:List (Option V)) (H:Hp) (s:Shared):Prop where
 ok:X.Ok
 os:s.os=X.s₀.os
 bare:AllBare s.gens
 base:Un X.fs X.ex X.H₀ H X.s₀.heap s.heap
 loc:∃m,s.heap.Ns X.env.locals m∧∀(i:Nat) (x:Str) (v:V),X.N[i]?=some x→σ[i]?=some (some v)→l4 X.env.scope x→∃u,RelV v u∧Look X.env s.heap m x u
 cell:∀x c,X.env.cells.lookup x=some c→∃v,s.heap.IsCell c v
 free:H X.env.locals=none
 g_:∀x c,X.env.cells.lookup x=some c→H c=none
 pin:∀p∈X.pn++pins,s.heap.get? p.1=some p.2∧H p.1=none∧p.1≠X.env.locals∧p.1∉X.fs∧∀v,p.2.data≠.cell v
 ay:cJ X.prog X.w H s.heap
 len:σ.length=X.N.length
section
variable {X:Cx} {pins:aZ} {σ:List (Option V)} {H H':Hp} {s:Shared} {h':Heap}
theorem Cx.Ok.L9(ok:X.Ok){o:Obj}(e:X.base.get? b=some o):b∉X.fs:=fun hb=>by have:=(ok.iE.mem hb).1;rw [e] at this;cases this
theorem Inv.bs(I:Inv X pins σ H s):∀b o,X.base.get? b=some o→s.heap.get? b=some o∧H b=none:=fun b o e=>⟨I.base.keep b o (I.ok.bs b o e).1 (I.ok.bs b o e).2 (I.ok.L9 e) (I.ok.l_ b o e),I.base.free b o (I.ok.bs b o e).1 (I.ok.bs b o e).2 (I.ok.l_ b o e)⟩
theorem Inv.bk(I:Inv X pins σ H s):∀b o,X.base.get? b=some o→s.heap.get? b=some o:=fun b o e=>(I.bs b o e).1
theorem Inv.mod(I:Inv X pins σ H s):Mod X.K X.mg X.base:=I.ok.mod
theorem Inv.dr(I:Inv X pins σ H s):X.K.In s.heap:=I.ok.mod.cQ.keeps I.bk
theorem Inv.lt(I:Inv X pins σ H s):X.env.locals<s.heap.objs.size:=let ⟨_,hn,_⟩:=I.loc;hn.lt
theorem Inv.sz(I:Inv X pins σ H s):X.s₀.heap.objs.size≤s.heap.objs.size:=ai I.ok.above (Nat.le_of_lt I.lt)
theorem Inv.L_(I:Inv X pins σ H s){a:Addr}(h:s.heap.objs.size≤a):a∉X.fs:=fun hb=>by obtain ⟨_,o,ho,_⟩:=I.ok.iE.mem hb;exact absurd (dB (bK ho) (ai I.sz h)) (gF _)
theorem Inv.oi(I:Inv X pins σ H s):∀x c,X.env.cells.lookup x=some c→c≠X.env.locals:=fun x c e z=>by obtain ⟨v,o,ho,hd⟩:=I.cell x c e;obtain ⟨m,⟨o',es,ep,kH,kI,_⟩,_⟩:=I.loc;rw [z,kH] at ho;cases ho;rw [kI] at hd;cases hd
theorem Inv.iE(I:Inv X pins σ H s):s.heap.FunFrames X.base X.outer:=by
 have all:∀(l:List Env),(∀b∈cE l,b∈X.fs)→X.s₀.heap.FunFrames X.base l→s.heap.FunFrames X.base l:=by
  intro l
  induction l with
  | nil=>intro _ _;trivial
  | cons env r ih=>
   intro hs hl;obtain ⟨hk,⟨L,o,hf,hn,ho,hd⟩,hr⟩:=hl;have hL:L∈X.fs:=hs L (by unfold cE;rw [xa,hf];exact lK)
   obtain ⟨sl,e⟩:=I.base.slot L o ho (I.ok.kG L hL) hL fun z=>I.ok.ma L z hL;exact ⟨hk,⟨L,_,hf,hn,e,hd⟩,ih (fun b hb=>hs b (by unfold cE;rw [xa,hf];exact gW _ hb)) hr⟩
 exact all X.outer (fun _ hb=>hb) I.ok.iE
theorem Inv.stack(I:Inv X pins σ H s):s.heap.FunFrames X.base X.stack:=by
 rcases I.ok.g9 with e | ⟨e,hf⟩;·rw [e];exact I.iE
 ·rw [e]
  obtain ⟨m,hn,_⟩:=I.loc;refine .cons (by rw [I.ok.kind];decide) hf hn ?_ I.iE
  exact Heap.get?_none_of_le (ai I.ok.gr I.ok.above)
theorem Inv.qK(I:Inv X pins σ H s):∀b∈cE X.stack,b∈X.env.locals::X.fs:=fun b hb=>by
 rcases I.ok.g9 with e | ⟨e,hf⟩;·rw [e] at hb;exact gW _ hb
 ·rw [e] at hb
  unfold cE at hb;rw [xa,hf] at hb;exact hb
theorem Inv.qL(I:Inv X pins σ H s):∀b∈cE X.stack,H b=none:=fun b hb=>by
 rcases dH.mp (I.qK b hb) with e | hb;·rw [e];exact I.free
 ·obtain ⟨_,o,ho,_⟩:=I.ok.iE.mem hb
  exact I.base.free b o ho (I.ok.kG b hb) fun z=>I.ok.ma b z hb
variable {g':Array GenState} {t':Nat} {d':Drawn} {ch:List Addr}
theorem Inv.step(I:Inv X pins σ H s)
  (jL:∀b∈ch,(b∈X.ex∨X.s₀.heap.objs.size≤b)∧b≠X.env.locals∧(∀x c,X.env.cells.lookup x=some c→c≠b)∧∀p∈X.pn++pins,p.1≠b)
  (keep:∀b o,b≠X.env.locals→b∉X.fs→b∉ch→s.heap.get? b=some o→H b=none→h'.get? b=some o)
  (slot:∀b o,b≠X.env.locals→b∈X.fs→b∉ch→s.heap.get? b=some o→H b=none→∃sl,h'.get? b=some {o with slots:=sl}) (free:∀b o,b∉ch→s.heap.get? b=some o→H b=none→H' b=none)
  (there:∀b o,b∉ch→s.heap.get? b=some o→∃o',h'.get? b=some o')
  (fP:∀b xs,H b=some (.tup xs)→H' b=some (.tup xs)) (fF:∀b o u,H b=some (.fO o u)→H' b=some (.fO o u)) (fQ:∀b ps,H b=some (.kD ps)→∃more,H' b=some (.kD (ps++more)))
  (ns:∀m,s.heap.Ns X.env.locals m→h'.Ns X.env.locals m) (ay:cJ X.prog X.w H' h') (hg:AllBare g') :
  Inv X pins σ H' {s with heap:=h',gens:=g',drawn:=d',toks:=t'}:=by
 have EO:∀b o,X.s₀.heap.get? b=some o→b≠X.env.locals:=fun b o e=>dZ (dB (bK e) I.ok.above);have xx:∀b o,X.s₀.heap.get? b=some o→b∉X.ex→b∉ch:=fun b o e hx hb=>by
  rcases (jL b hb).1 with z | z;·exact hx z
  ·exact absurd (dB (bK e) z) (gF _)
 have cellK:∀x c,X.env.cells.lookup x=some c→∀v,s.heap.IsCell c v→h'.IsCell c v:=fun x c e v ⟨o,ho,hd⟩=>by
  have u_:c∉ch:=fun z=>(jL c z).2.2.1 x c e rfl;by_cases hc:c∈X.fs
  ·obtain ⟨sl,q⟩:=slot c o (I.oi x c e) hc u_ ho (I.g_ x c e)
   exact ⟨_,q,hd⟩
  ·exact ⟨o,keep c o (I.oi x c e) hc u_ ho (I.g_ x c e),hd⟩
 refine ⟨I.ok,I.os,hg,⟨fun b o e n hb hx=>?_,fun b o e n hb hx=>?_,fun b o e n hx=>?_,fun b o e hx=>?_,fun b xs e=>fP b xs (I.base.fP b xs e),fun b o xs e=>fF b o xs (I.base.fF b o xs e),fun b ps e=>?_⟩,?_,fun x c e=>?_,?_,fun x c e=>?_,fun p hp=>?_,ay,I.len⟩;·exact keep b o (EO b o e) hb (xx b o e hx) (I.base.keep b o e n hb hx) (I.base.free b o e n hx)
 ·obtain ⟨sl,e1⟩:=I.base.slot b o e n hb hx
  obtain ⟨AD,e2⟩:=slot b _ (EO b o e) hb (xx b o e hx) e1 (I.base.free b o e n hx);exact ⟨AD,e2⟩
 ·obtain ⟨o',e1⟩:=I.base.there b o e hx
  exact free b o' (xx b o e hx) e1 (I.base.free b o e n hx)
 ·obtain ⟨o',e1⟩:=I.base.there b o e hx
  exact there b o' (xx b o e hx) e1
 ·obtain ⟨m1,e1⟩:=I.base.fQ b ps e
  obtain ⟨m2,e2⟩:=fQ b _ e1;exact ⟨m1++m2,by rw [e2,Array.append_assoc]⟩
 ·obtain ⟨m,hn,hl⟩:=I.loc
  refine ⟨m,ns m hn,fun i x v e1 e2 e3=>?_⟩;obtain ⟨u,r,l⟩:=hl i x v e1 e2 e3;refine ⟨u,r,?_⟩;rcases l with l | ⟨k,c,e,z⟩;·exact .inl l
  ·exact .inr ⟨k,c,e,cellK x c e _ z⟩
 ·obtain ⟨v,z⟩:=I.cell x c e
  exact ⟨v,cellK x c e v z⟩
 ·obtain ⟨m,⟨o,_,_,ho,_⟩,_⟩:=I.loc
  exact free _ o (fun z=>(jL _ z).2.1 rfl) ho I.free
 ·obtain ⟨v,o,ho,hd⟩:=I.cell x c e
  exact free c o (fun z=>(jL c z).2.2.1 x c e rfl) ho (I.g_ x c e)
 ·obtain ⟨e,n,ne,nf,d⟩:=I.pin p hp
  have u_:p.1∉ch:=fun z=>(jL p.1 z).2.2.2 p hp rfl;exact ⟨keep p.1 p.2 ne nf u_ e n,free p.1 p.2 u_ e n,ne,nf,d⟩
theorem Inv.un(I:Inv X pins σ H s)(u:Un X.fs [] H H' s.heap h')(ay:cJ X.prog X.w H' h'):Inv X pins σ H' {s with heap:=h',toks:=t'}:=by
 obtain ⟨m,⟨o,es,ep,ho,r⟩,_⟩:=id I.loc;obtain ⟨sl,hL⟩:=u.any ho I.free (by simp)
 exact I.step (g':=s.gens) (d':=s.drawn) (ch:=[]) (fun _ z=>nomatch z) (fun b o _ hb _ e n=>u.keep b o e n hb (by simp)) (fun b o _ hb _ e n=>u.slot b o e n hb (by simp)) (fun b o _ e n=>u.free b o e n (by simp)) (fun b o _ e=>u.there b o e (by simp)) u.fP u.fF u.fQ (fun m' hm=>by obtain ⟨o',AE,AF,kH,r'⟩:=hm;rw [ho] at kH;cases kH;exact ⟨_,AE,AF,hL,r'⟩) ay I.bare
theorem Inv.call(I:Inv X pins σ H s)(u:Un (cE X.stack) ch H H' s.heap h')(ay:cJ X.prog X.w H' h')(hg:AllBare g')
  (jL:∀b∈ch,(b∈X.ex∨X.s₀.heap.objs.size≤b)∧b≠X.env.locals∧(∀x c,X.env.cells.lookup x=some c→c≠b)∧∀p∈X.pn++pins,p.1≠b) :
  Inv X pins σ H' {s with heap:=h',gens:=g',drawn:=d',toks:=t'}:=by
 obtain ⟨m,⟨o,es,ep,ho,r⟩,_⟩:=id I.loc;obtain ⟨sl,hL⟩:=u.any ho I.free fun z=>(jL _ z).2.1 rfl;exact I.step (ch:=ch) jL (fun b o hL hb hc e n=>u.keep b o e n (fun z=>(dH.mp (I.qK b z)).elim hL hb) hc) (fun b o _ _ hc e n=>u.any e n hc) (fun b o hc e n=>u.free b o e n hc) (fun b o hc e=>u.there b o e hc) u.fP u.fF u.fQ (fun m' hm=>by obtain ⟨o',AE,AF,kH,r'⟩:=hm;rw [ho] at kH;cases kH;exact ⟨_,AE,AF,hL,r'⟩) ay hg
theorem Inv.turned{it:Addr}(I:Inv X pins σ H s)(k:∀b o,b≠it→s.heap.get? b=some o→h'.get? b=some o)(hn:H it=none)(hL:it≠X.env.locals)
  (h1:it∈X.ex∨X.s₀.heap.objs.size≤it) (h2:∀x c,X.env.cells.lookup x=some c→c≠it) (h3:∀p∈X.pn++pins,p.1≠it):Inv X pins σ H {s with heap:=h',toks:=t'}:=by
 have ER:∀b u,H b=some u→b≠it:=fun b u e z=>by rw [z,hn] at e;cases e
 refine I.step (g':=s.gens) (d':=s.drawn) (ch:=[it]) (fun b hb=>?_) (fun b o _ _ hc e _=>k b o (fun z=>hc (by simp [z])) e) (fun b o _ _ hc e _=>⟨o.slots,k b o (fun z=>hc (by simp [z])) e⟩) (fun _ _ _ _ n=>n)
  (fun b o hc e=>⟨o,k b o (fun z=>hc (by simp [z])) e⟩) (fun _ _ e=>e) (fun _ _ _ e=>e) (fun b ps e=>⟨#[],by rw [e];simp⟩) (fun m hm=>?_) (fun b u e=>?_) I.bare
 ·have e:b=it:=by simpa using hb
  subst e;exact ⟨h1,hL,h2,h3⟩
 ·obtain ⟨o,es,ep,ho,r⟩:=hm
  exact ⟨o,es,ep,k _ o (Ne.symm hL) ho,r⟩
 ·refine (I.ay b u e).gL (fun c v hc q=>k c v ?_ q) (fun _ q=>q) fun _ _ q=>q
  rcases hc with z | z;·rw [z];exact ER b u e
  ·exact ER c _ z
theorem Inv.tok(I:Inv X pins σ H s)(t:Nat):Inv X pins σ H {s with toks:=t}:=I.un (h':=s.heap) (t':=t) Un.refl I.ay
theorem Inv.kept(I:Inv X pins σ H s)(k:∀b u,s.heap.get? b=some u→h'.get? b=some u):Inv X pins σ H {s with heap:=h',toks:=t'}:=I.un (Un.kept k) (I.ay.kept k)
theorem Inv.laid{a:Addr}(I:Inv X pins σ H s)(k:∀b u,s.heap.get? b=some u→h'.get? b=some u)(hp:s.heap.objs.size≤a)(new:d5 X.prog X.w (upd H a o) h' a o) :
  Inv X pins σ (upd H a o) {s with heap:=h',toks:=t'}:=I.un (Un.laid k hp (I.ay.fresh hp)) (I.ay.laid k hp new)
theorem Inv.write{x e:Addr}(I:Inv X pins σ H s)(mu:xu (H x))(he:e=x∨H e=some (.own x))(k:∀b u,b≠e→s.heap.get? b=some u→h'.get? b=some u)(qJ:∃u,h'.get? e=some u)
  (new:d5 X.prog X.w (upd H x o) h' x o):Inv X pins σ (upd H x o) {s with heap:=h',toks:=t'}:=I.un (Un.write mu he k qJ) (I.ay.write mu he k qJ new)
theorem Inv.ES{ET:aZ}(I:Inv X pins σ H s)(h:∀p∈ET,s.heap.get? p.1=some p.2∧H p.1=none∧p.1≠X.env.locals∧p.1∉X.fs∧∀v,p.2.data≠.cell v):Inv X ET σ H s:=
 ⟨I.ok,I.os,I.bare,I.base,I.loc,I.cell,I.free,I.g_,fun p hp=>(gG.mp hp).elim (fun z=>I.pin p (List.mem_append_left _ z)) (h p),I.ay,I.len⟩
variable {i:Nat} {x:Str}
theorem EU{N:List Str}(hN:N.Nodup){j:Nat}(a:N[i]?=some x)(b:N[j]?=some x):i=j:=by obtain ⟨h1,e1⟩:=cG.mp a;obtain ⟨h2,e2⟩:=cG.mp b;exact (List.getElem_inj hN).mp (e1.trans e2.symm)
variable {M:Model} {A:Around} {E:bV} {v:V} {Q:Unit→Shared→Prop}
theorem AG{u:Value}(I:Inv X pins σ H s)(hN:X.N.Nodup)(hi:X.N[i]?=some x)(hx:Loc X.env.scope x)(r:RelV v u)
  (h:∀s',Inv X pins (σ.set i (some v)) H s'→(∃a,Heap.SameBut a s.heap s'.heap∧(a=X.env.locals∨X.env.cells.lookup x=some a))→Q () s') (hf:X.fn x=true∨X.env.scope.names.lookup x=some .local:=by first | exact .inl rfl | exact .inr rfl | assumption):wpAny M A (storeName X.env x u) Q E s:=by
 obtain ⟨m,hn,hl⟩:=id I.loc;have Ma:(X.env.scope.kind == .class || (X.env.scope.kind == .module && X.env.locals != X.env.globals))=false:=by rw [I.ok.kind];rfl
 have EV:i<σ.length:=by rw [I.len];exact (cG.mp hi).1
 have oi:=I.oi;have tracked:∀{a:Addr} {h':Heap},(∃o,s.heap.get? a=some o∧H a=none)→Heap.SameBut a s.heap h'→cJ X.prog X.w H h':=fun{a h'} ha hs b ob e=>by
  obtain ⟨_,_,EW⟩:=ha;refine (I.ay b ob e).gL (fun c w' hc q=>(hs.2 c ?_).trans q) (fun _ q=>q) fun _ _ q=>q;rintro rfl;rcases hc with rfl | hc;·rw [EW] at e;cases e
  ·rw [EW] at hc;cases hc
 rcases hx with hk | hk
 ·refine wpAny_storeName_local hk hn (fun h' Mb hs=>?_) Ma
  obtain ⟨oL,_,_,Mc,_⟩:=id hn;refine h _ ⟨I.ok,I.os,I.bare,⟨fun b o e n hb hx=>?_,fun b o e n hb hx=>?_,I.base.free,fun b o e hx=>?_,I.base.fP,I.base.fF,I.base.fQ⟩,⟨_,Mb,fun j y v' e1 e2 e3=>?_⟩,fun y c e=>?_,I.free,I.g_,fun p hp=>?_,tracked ⟨oL,Mc,I.free⟩ hs,by simpa using I.len⟩ ⟨_,hs,.inl rfl⟩
  ·exact (hs.2 b (dZ (dB (bK e) I.ok.above))).trans (I.base.keep b o e n hb hx)
  ·obtain ⟨sl,e1⟩:=I.base.slot b o e n hb hx
   exact ⟨sl,(hs.2 b (dZ (dB (bK e) I.ok.above))).trans e1⟩
  ·obtain ⟨o',e1⟩:=I.base.there b o e hx
   exact ⟨o',(hs.2 b (dZ (dB (bK e) I.ok.above))).trans e1⟩
  ·by_cases hj:j=i
   ·subst hj
    rw [hi] at e1;cases e1;rw [nH EV] at e2;cases e2;exact ⟨u,r,.inl ⟨hk,by simp⟩⟩
   ·rw [nI (Ne.symm hj)] at e2
    obtain ⟨u',r',q⟩:=hl j y v' e1 e2 e3;refine ⟨u',r',?_⟩;rcases q with ⟨k,e⟩ | ⟨k,c,e,z⟩
    ·refine .inl ⟨k,?_⟩
     have:y≠x:=fun e=>hj (EU hN e1 (e▸hi));simp [this,e]
    ·exact .inr ⟨k,c,e,z.sameBut hs (oi y c e)⟩
  ·obtain ⟨w',z⟩:=I.cell y c e
   exact ⟨w',z.sameBut hs (oi y c e)⟩
  ·obtain ⟨e,n,ne,nf,d⟩:=I.pin p hp
   exact ⟨(hs.2 p.1 ne).trans e,n,ne,nf,d⟩
 ·have AH:X.fn x=true:=by
   rcases hf with z | z;·exact z
   ·rw [z] at hk;cases hk
  obtain ⟨c,hc⟩:=I.ok.has x (.inl hk);obtain ⟨w',z⟩:=I.cell x c hc;refine wpAny_storeName_cell I.ok.kind hk hc z (fun h' dS hs=>?_);obtain ⟨oc,EX,Md⟩:=id z;refine h {s with heap:=h'} ⟨I.ok,I.os,I.bare,⟨fun b o e n hb hx=>?_,fun b o e n hb hx=>?_,I.base.free,fun b o e hx=>?_,I.base.fP,I.base.fF,I.base.fQ⟩,⟨m,hn.sameBut hs (Ne.symm (oi x c hc)),fun j y v' e1 e2 e3=>?_⟩,fun y c' e=>?_,I.free,I.g_,fun p hp=>?_,tracked ⟨oc,EX,I.g_ x c hc⟩ hs,by simpa using I.len⟩ ⟨c,hs,.inr hc⟩
  ·exact (hs.2 b (dZ (dB (bK e) (I.ok.u9 x c AH hc)))).trans (I.base.keep b o e n hb hx)
  ·obtain ⟨sl,e1⟩:=I.base.slot b o e n hb hx
   exact ⟨sl,(hs.2 b (dZ (dB (bK e) (I.ok.u9 x c AH hc)))).trans e1⟩
  ·obtain ⟨o',e1⟩:=I.base.there b o e hx
   exact ⟨o',(hs.2 b (dZ (dB (bK e) (I.ok.u9 x c AH hc)))).trans e1⟩
  ·by_cases hj:j=i
   ·subst hj
    rw [hi] at e1;cases e1;rw [nH EV] at e2;cases e2;exact ⟨u,r,.inr ⟨.inl hk,c,hc,dS⟩⟩
   ·rw [nI (Ne.symm hj)] at e2
    obtain ⟨u',r',q⟩:=hl j y v' e1 e2 e3;refine ⟨u',r',?_⟩;rcases q with q | ⟨k,c',e,z'⟩;·exact .inl q
    ·refine .inr ⟨k,c',e,z'.sameBut hs ?_⟩
     rintro rfl;exact hj (EU hN e1 (I.ok.inj _ _ _ e hc▸hi))
  ·by_cases EY:c'=c
   ·subst EY;exact ⟨_,dS⟩
   ·obtain ⟨w2,z2⟩:=I.cell y c' e
    exact ⟨w2,z2.sameBut hs EY⟩
  ·obtain ⟨e,n,ne,nf,d⟩:=I.pin p hp
   refine ⟨(hs.2 p.1 ?_).trans e,n,ne,nf,d⟩;intro q;rw [q,EX] at e;have q':oc=p.2:=Option.some.inj e;exact d w' (by rw [←q'];exact Md)
theorem va{u:Value}(I:Inv X pins σ H s)(hN:X.N.Nodup)(hi:X.N[i]?=some x)(hx:Loc X.env.scope x)(r:RelV v u)
  (h:∀s',Inv X pins (σ.set i (some v)) H s'→Q () s') (hf:X.fn x=true∨X.env.scope.names.lookup x=some .local:=by first | exact .inl rfl | exact .inr rfl | assumption):wpAny M A (storeName X.env x u) Q E s:=
 AG I hN hi hx r (fun s' I' _=>h s' I') hf
theorem Inv.jM{s':Shared}(I:Inv X pins σ H s)(ho:s'.os=s.os)(u:Un (cE X.stack) ch H H' s.heap s'.heap)(ay:cJ X.prog X.w H' s'.heap)(hg:AllBare s'.gens)
  (jL:∀b∈ch,(b∈X.ex∨X.s₀.heap.objs.size≤b)∧b≠X.env.locals∧(∀x c,X.env.cells.lookup x=some c→c≠b)∧∀p∈X.pn++pins,p.1≠b):Inv X pins σ H' s':=by
 obtain ⟨h',g',d',t',o'⟩:=s';have e:o'=s.os:=ho;subst e;exact I.call (g':=g') (t':=t') (d':=d') u ay hg jL
end
abbrev XK:=Value→Option Addr→Hp→Prop
abbrev St:=List (Option V)
abbrev VK:=V→Hp→Prop
abbrev TE:=St→Hp→VK→Prop
abbrev TT:=St→Hp→(Bool→Hp→Prop)→Prop
abbrev TA:=St→Hp→(List V→Hp→Prop)→Prop
structure Ends where
 nx:St→Hp→Prop
 rt:VK
 bk:St→Hp→Prop:=fun _ _=>False
 ct:St→Hp→Prop:=fun _ _=>False
abbrev TS:=Ends→St→Hp→Prop
def EP(X:Cx)(pins:aZ)(σ:St)(Q:VK)(u:Value)(s':Shared):Prop:=∃v H',Inv X pins σ H' s'∧RelV v u∧Q v H'
def TP(X:Cx)(pins:aZ)(σ:St)(Q:Bool→Hp→Prop)(b:Bool)(s':Shared):Prop:=∃H',Inv X pins σ H' s'∧Q b H'
def AP(X:Cx)(pins:aZ)(σ:St)(Q:List V→Hp→Prop)(us:List Value)(s':Shared):Prop:=∃vs H',Inv X pins σ H' s'∧Vals vs us∧Q vs H'
def SP(X:Cx)(pins:aZ)(D:Ends)(f:Flow)(s':Shared):Prop:=
 match f with
 | .next=>∃σ' H',Inv X pins σ' H' s'∧D.nx σ' H'
 | .brk=>∃σ' H',Inv X pins σ' H' s'∧D.bk σ' H'
 | .cont=>∃σ' H',Inv X pins σ' H' s'∧D.ct σ' H'
 | .ret u=>∃v σ' H',Inv X pins σ' H' s'∧RelV v u∧D.rt v H'
def PE(X:Cx)(e:Expr)(t:TE):Prop:=
 ∀(pins:aZ) (s:Shared) (σ:St) (H:Hp) (Q:VK),Inv X pins σ H s→t σ H Q→wpAny (model X.prog X.w) X.A (eval e X.env) (EP X pins σ Q) X.xe s
def PT(X:Cx)(e:Expr)(t:TT):Prop:=
 ∀(pins:aZ) (s:Shared) (σ:St) (H:Hp) (Q:Bool→Hp→Prop),Inv X pins σ H s→t σ H Q→wpAny (model X.prog X.w) X.A (isTrue e X.env (eval e X.env)) (TP X pins σ Q) X.xe s
def PW(X:Cx)(e:Expr)(t:TT):Prop:=
 ∀(whole:Sem Value) (pins:aZ) (s:Shared) (σ:St) (H:Hp) (Q:Bool→Hp→Prop),Inv X pins σ H s→t σ H Q→wpAny (model X.prog X.w) X.A (isTrue e X.env whole) (TP X pins σ Q) X.xe s
variable {X:Cx}
theorem PW.pt{e:Expr}{t:TT}(h:PW X e t):PT X e t:=h _
def PA(X:Cx)(es:List Expr)(t:TA):Prop:=
 ∀(pos:Pos) (pins:aZ) (s:Shared) (σ:St) (H:Hp) (Q:List V→Hp→Prop),Inv X pins σ H s→t σ H Q→wpAny (model X.prog X.w) X.A (spliced (backTo pos (starEach es X.env))) (AP X pins σ Q) X.xe s
def PS(X:Cx)(st:Stmt)(t:TS):Prop:=
 ∀(pins:aZ) (s:Shared) (σ:St) (H:Hp) (D:Ends),Inv X pins σ H s→t D σ H→wpAny (model X.prog X.w) X.A (exec st X.env) (SP X pins D) X.xe s
def ej(X:Cx)(st:List Stmt)(t:TS):Prop:=
 ∀(pins:aZ) (s:Shared) (σ:St) (H:Hp) (D:Ends),Inv X pins σ H s→t D σ H→wpAny (model X.prog X.w) X.A (execs st X.env) (SP X pins D) X.xe s
variable {M:Model} {A:Around} {E:bV} {s:Shared}
theorem aB{α:Type}{t:Sem α}{Q Q':α→Shared→Prop}(h:wpAny M A t Q E s)(hQ:∀a s,Q a s→Q' a s):wpAny M A t Q' E s:=cf h hQ fun _ _ x=>x
section
variable {X:Cx}
variable {pins:aZ} {σ:St}
theorem bin{a b:Expr}{ta tb:TE}(ha:PE X a ta)(hb:PE X b tb){R:V→V→Hp→Prop}(I:Inv X pins σ H s)(h:ta σ H fun x H1=>tb σ H1 fun y H2=>R x y H2)
  {α:Type} {Q:α→Shared→Prop} {f:Value→Value→Sem α}
  (hf:∀v u s2 x y H2,Inv X pins σ H2 s2→RelV x v→RelV y u→R x y H2→wpAny (model X.prog X.w) X.A (f v u) Q X.xe s2) :
  wpAny (model X.prog X.w) X.A (eval a X.env) (fun v s₁=>wpAny (model X.prog X.w) X.A (eval b X.env) (fun u s₂=>wpAny (model X.prog X.w) X.A (f v u) Q X.xe s₂) X.xe s₁) X.xe s:=by
 refine aB (ha pins s σ H _ I h) fun v s1 ⟨x,H1,I1,r1,q1⟩=>?_;refine aB (hb pins s1 σ H1 _ I1 q1) fun u s2 ⟨y,H2,I2,r2,q2⟩=>?_;exact hf v u s2 x y H2 I2 r1 r2 q2
def xy(i:Nat):TE:=fun σ H Q=>∃v,σ[i]?=some (some v)∧Q v H
def tC(v:V):TE:=fun _ H Q=>Q v H
variable {x:Str} {pos:Pos}
theorem Me{i:Nat}(hN:X.N[i]?=some x)(hv:l4 X.env.scope x)(hd:(x == ("__debug__":Str))=false:=by decide)(eU:(x == ("__classdict__":Str))=false:=by decide):PE X (.Name x pos) (xy i):=by
 intro pins s σ H Q I h;obtain ⟨v,e,h⟩:=h;obtain ⟨m,hn,hl⟩:=I.loc;obtain ⟨u,r,l⟩:=hl i x v hN e hv;have fin:EP X pins σ Q u s:=⟨v,H,I,r,h⟩;rcases l with ⟨hk,hm⟩ | ⟨hk,c,hc,xA⟩;·exact wpAny_Name (wpAny_loadName_local I.ok.kind hk hn hm fin) hd
 ·rcases hk with hk | hk
  ·exact wpAny_Name (wpAny_loadName_cell I.ok.kind hk hc xA fin) hd
  ·exact wpAny_Name (wpAny_loadName_free I.ok.kind hk hc xA fin eU) hd
theorem ag{i j pos}:PE X (.Constant (.int i) j pos) (tC (.int i)):=fun _ _ _ H _ I h=>wpAny_Constant_int ⟨.int i,H,I.tok _,⟨_,rfl⟩,h⟩
theorem fR{b j pos}:PE X (.Constant (.bool b) j pos) (tC (.bl b)):=fun _ _ _ H _ I h=>Constant_bool ⟨.bl b,H,I,rfl,h⟩
theorem qM{j pos}:PE X (.Constant .none j pos) (tC .aH):=fun _ _ _ H _ I h=>Constant_none ⟨.aH,H,I,rfl,h⟩
theorem hJ{x j pos}:PE X (.Constant (.str x) j pos) (tC (.str x)):=fun _ _ _ H _ I h=>Calls.Constant_str ⟨.str x,H,I.tok _,⟨_,rfl⟩,h⟩
def Gl(X:Cx)(x:Str):Prop:=X.env.kindOf x=some .globalImplicit
variable {Q:bV}
theorem xB{u:Value}(I:Inv X pins σ H s)(hg:Gl X x)(hm:X.mg x=some u)(h:Q u s)
  (hd:(x == ("__debug__":Str))=false:=by decide):wpAny (model X.prog X.w) X.A (eval (.Name x pos) X.env) Q E s:=
 Calls.Name_function_global I.ok.kind hg (Calls.loadGlobal_global (by rw [I.ok.glob];exact I.mod.glob.keeps I.bk) hm h) hd
theorem oj{u:Value}(I:Inv X pins σ H s)(hg:Gl X x)(hm:X.mg x=none)(hv:bootBuiltins x=some u)(h:Q u s)
  (hn:x ≠ "__name__":=by decide) (hd:(x == ("__debug__":Str))=false:=by decide):wpAny (model X.prog X.w) X.A (eval (.Name x pos) X.env) Q E s:=by
 obtain ⟨mb,h1,h2⟩:=I.mod.blt;exact Calls.Name_function_global I.ok.kind hg (Calls.loadGlobal_builtin (by rw [I.ok.glob];exact I.mod.glob.keeps I.bk) hm (by rw [I.ok.blt];exact h1.keeps I.bk) ((h2 x hn).trans hv) h) hd
variable {v:V}
theorem EZ{u:Value}(hg:Gl X x)(hm:X.mg x=some u)(r:RelV v u)(hd:(x == ("__debug__":Str))=false:=by decide):PE X (.Name x pos) (tC v):=
 fun _ _ _ H _ I h=>xB I hg hm ⟨v,H,I,r,h⟩ hd
theorem i7{u:Value}(hg:Gl X x)(hm:X.mg x=none)(hv:bootBuiltins x=some u)(r:RelV v u)(hn:x ≠ "__name__":=by decide)(hd:(x == ("__debug__":Str))=false:=by decide):PE X (.Name x pos) (tC v):=
 fun _ _ _ H _ I h=>oj I hg hm hv ⟨v,H,I,r,h⟩ hn hd
variable {a b:Expr} {ta tb:TE} {pos:Pos}
def PC(X:Cx)(op:CmpOp)(a b:Expr)(t:TE):Prop:=
 ∀(pins:aZ) (s:Shared) (σ:St) (H:Hp) (Q:VK),Inv X pins σ H s→t σ H Q→
  wpAny (model X.prog X.w) X.A (eval a X.env) (fun v s₁=>wpAny (model X.prog X.w) X.A (eval b X.env) (fun u s₂=>wpAny (model X.prog X.w) X.A (compareOp op v u) (EP X pins σ Q) X.xe s₂) X.xe s₁) X.xe s
def tB(t:TE):TT:=fun σ H Q=>t σ H fun x H1=>∃c,x=.bl c∧Q c H1
variable {t:TE}
theorem XB{op:CmpOp}(h:PC X op a b t)(h1:behindInMarks op b=false:=by first | exact X1 _ (by decide) (by decide) | rfl):PT X (.Compare a [op] [b] pos) (tB t):=by intro pins s σ H Q I hw;refine wpAny_isTrue_Compare1 (aB (h pins s σ H _ I hw) fun v s1 h1=>aB h1 fun u s2 h2=>aB h2 fun c s3 ⟨x,H1,I1,r1,q1⟩=>?_) h1;obtain ⟨d,rfl,q⟩:=q1;cases r1;exact nJ ⟨H1,I1,q⟩
theorem jN{e:Expr}(h:PE X e t)(he:∀whole,isTrue e X.env whole=(do let v ←whole;standAt e.pos;holding [v] (truthy v)):=by intro _;rfl):PT X e (tB t):=by
 intro pins s σ H Q I hw
 refine isTrue_plain (aB (h pins s σ H _ I hw) fun v s1 ⟨x,H1,I1,r1,q1⟩=>?_) (he _)
 obtain ⟨d,rfl,q⟩:=q1
 cases r1
 exact nJ ⟨H1,I1,q⟩
variable {tA xC:TT} {rest:List Expr}
def Mf(t u:TT):TT:=fun σ H Q=>t σ H fun c H1=>if c=true then u σ H1 Q else Q false H1
def E3(t u:TT):TT:=fun σ H Q=>t σ H fun c H1=>if c=true then Q true H1 else u σ H1 Q
def Mg(t:TT):TT:=fun σ H Q=>t σ H fun c H1=>Q (!c) H1
theorem pw_and1(ha:PT X a tA):PW X (.BoolOp .And [a] pos) tA:=by
 intro wh pins s σ H Q I h;refine isTrue_and (aB (ha pins s σ H Q I h) fun c s1 e=>?_);cases c with
 | true=>exact isTrue_and_nil e
 | false=>exact e
theorem pw_or1(ha:PT X a tA):PW X (.BoolOp .Or [a] pos) tA:=by
 intro wh pins s σ H Q I h;refine isTrue_or (aB (ha pins s σ H Q I h) fun c s1 e=>?_);cases c with
 | false=>exact isTrue_or_nil e
 | true=>exact e
theorem pw_and(ha:PT X a tA)(hb:PW X (.BoolOp .And (b::rest) pos) xC):PW X (.BoolOp .And (a::b::rest) pos) (Mf tA xC):=by
 intro wh pins s σ H Q I h;refine isTrue_and (aB (ha pins s σ H _ I h) fun c s1 ⟨H1,I1,q1⟩=>?_);cases c with
 | true=>exact hb wh pins s1 σ H1 Q I1 q1
 | false=>exact ⟨H1,I1,q1⟩
theorem pw_or(ha:PT X a tA)(hb:PW X (.BoolOp .Or (b::rest) pos) xC):PW X (.BoolOp .Or (a::b::rest) pos) (E3 tA xC):=by
 intro wh pins s σ H Q I h;refine isTrue_or (aB (ha pins s σ H _ I h) fun c s1 ⟨H1,I1,q1⟩=>?_);cases c with
 | true=>exact ⟨H1,I1,q1⟩
 | false=>exact hb wh pins s1 σ H1 Q I1 q1
theorem om(ha:PT X a tA):PT X (.UnaryOp .Not a pos) (Mg tA):=by intro pins s σ H Q I h;exact isTrue_not (ha pins s σ H (fun c H1=>Q (!c) H1) I h)
def Mh(ta tb:TE):TE:=fun σ H Q=>ta σ H fun x H1=>∃c,x=.bl c∧if c=true then tb σ H1 Q else Q (.bl false) H1
def Mi(ta:TE):TE:=fun σ H Q=>ta σ H fun x H1=>∃c,x=.bl c∧Q (.bl (!c)) H1
theorem qN{op}(h:PE X a t):PE X (.BoolOp op [a] pos) t:=fun pins s σ H Q I hw=>BoolOp_one (h pins s σ H Q I hw)
theorem kJ(ha:PE X a ta)(hb:PE X (.BoolOp .And (b::rest) pos) tb):PE X (.BoolOp .And (a::b::rest) pos) (Mh ta tb):=by
 intro pins s σ H Q I h;refine BoolOp_and (aB (ha pins s σ H _ I h) fun v s1 ⟨x,H1,I1,r1,q1⟩=>?_);obtain ⟨c,rfl,q1⟩:=q1;cases r1;refine nJ ?_;cases c with
 | true=>exact hb pins s1 σ H1 Q I1 q1
 | false=>exact ⟨.bl false,H1,I1,rfl,q1⟩
theorem E4(ha:PE X a ta):PE X (.UnaryOp .Not a pos) (Mi ta):=by intro pins s σ H Q I h;refine UnaryOp_ (aB (ha pins s σ H _ I h) fun v s1 ⟨x,H1,I1,r1,q1⟩=>?_);obtain ⟨c,rfl,q1⟩:=q1;cases r1;exact not_of (nJ ⟨.bl (!c),H1,I1,rfl,q1⟩)
end
def aX(K:ax)(H:Hp)(a:Addr)(xs:List V):Prop:=
 Rd H a (.lst xs) ∨
  ∃(o:Obj) (ao:Array Value) (n:Nat),K.lookup a=some o∧o.cls=.type "list"∧o.dict=none∧o.data=.seq ao n∧ao.size≤sizeLine∧Vals xs ao.toList
def dU(K:ax)(H:Hp)(a:Addr)(xs:List V):Prop:=
 Rd H a (.tup xs) ∨
  ∃(o:Obj) (ao:Array Value) (n:Nat),K.lookup a=some o∧o.cls=.type "tuple"∧o.data=.seq ao n∧ao.size≤sizeLine∧Vals xs ao.toList
def Mj:Value→Option V
 | .none=>some .aH
 | .bool b=>some (.bl b)
 | .int i _=>some (.int i)
 | .str x _=>some (.str x)
 | .bytes b _=>some (.iD b)
 | .float b _=>some (.og b)
 | .ref a=>some (.ref a)
 | .type n=>some (.ty n)
 | _=>none
variable {x:V}
theorem RelV.abs{u:Value}(r:RelV x u):Mj u=some x:=by
 cases x with
 | aH=>cases r;rfl
 | bl _=>cases r;rfl
 | int _=>obtain ⟨t,rfl⟩:=r;rfl
 | str _=>obtain ⟨t,rfl⟩:=r;rfl
 | iD _=>obtain ⟨t,rfl⟩:=r;rfl
 | og _=>obtain ⟨t,rfl⟩:=r;rfl
 | ref _=>cases r;rfl
 | ty _=>cases r;rfl
theorem RelV.inj{y:V}{u:Value}(r:RelV x u)(q:RelV y u):x=y:=Option.some.inj (r.abs.symm.trans q.abs)
theorem Vals.inj:∀{xs ys:List V} {us:List Value},Vals xs us→Vals ys us→xs=ys
 | _,_,_,.nil,.nil=>rfl
 | _,_,_,.cons r t,.cons r' t'=>by rw [r.inj r',Vals.inj t t']
section
variable {X:Cx} {pins:aZ} {σ:St} {H:Hp} {s:Shared} {a:Addr} {xs ys:List V}
variable {K:ax}
theorem aX.of(h:H a=some (.lst xs)):aX K H a xs:=.inl (.inl h)
theorem dU.of(h:H a=some (.tup xs)):dU K H a xs:=.inl (.inl h)
theorem Inv.list(I:Inv X pins σ H s)(h:aX X.K H a xs):∃ao:List Value,Vals xs ao∧PlainL s.heap a ao.toArray∧xs.length≤sizeLine:=by
 rcases h with h | ⟨o,ao,n,hk,hc,hd,hs,hz,r⟩
 ·obtain ⟨z,ao,n,r,e⟩:=h.ok I.ay
  exact ⟨ao,r,⟨_,n,e,rfl,rfl,rfl⟩,z⟩
 ·refine ⟨ao.toList,r,⟨o,n,I.dr a o hk,hc,hd,by simpa using hs⟩,?_⟩
  have e:=r.length;simp only [Array.length_toList] at e;lia
theorem Inv.tuple(I:Inv X pins σ H s)(h:dU X.K H a xs):∃ao:List Value,Vals xs ao∧IsTup s.heap a ao.toArray∧xs.length≤sizeLine:=by
 rcases h with h | ⟨o,ao,n,hk,hc,hs,hz,r⟩
 ·obtain ⟨z,ao,r,p⟩:=h.ok I.ay
  exact ⟨ao,r,p,z⟩
 ·refine ⟨ao.toList,r,⟨o,I.dr a o hk,hc,n,by simpa using hs⟩,?_⟩
  have e:=r.length;simp only [Array.length_toList] at e;lia
theorem Inv.xD(I:Inv X pins σ H s)(h:aX X.K H a xs)(h':aX X.K H a ys):xs=ys:=by
 obtain ⟨ao,r,⟨o,n,e,_,_,d⟩,_⟩:=I.list h;obtain ⟨its',r',⟨o',n',e',_,_,d'⟩,_⟩:=I.list h';rw [e] at e';cases e';rw [d] at d';injection d' with d1 _;have:ao=its':=by simpa using fL Array.toList d1
 subst this;exact r.inj r'
theorem Inv.Ml(I:Inv X pins σ H s)(h:dU X.K H a xs)(h':dU X.K H a ys):xs=ys:=by
 obtain ⟨ao,r,⟨o,e,_,n,d⟩,_⟩:=I.tuple h;obtain ⟨its',r',⟨o',e',_,n',d'⟩,_⟩:=I.tuple h';rw [e] at e';cases e';rw [d] at d';injection d' with d1 _;have:ao=its':=by simpa using fL Array.toList d1
 subst this;exact r.inj r'
end
abbrev Cx.jO (X:Cx) (E:bV):Cx:={X with xe:=E}
abbrev Cx.oo (X:Cx):Cx:=X.jO fun _ _=>False
theorem Cx.Ok.jO(ok:X.Ok)(E:bV):(X.jO E).Ok:=
 ⟨ok.mod,ok.kind,ok.glob,ok.blt,ok.above,ok.inj,ok.has,ok.u9,ok.hd,ok.frames,ok.g9,ok.EN,ok.bs,ok.gr,ok.l_,ok.ma,ok.iE,ok.kG⟩
theorem Cx.Ok.md(ok:(X.jO E).Ok):X.Ok:=
 ⟨ok.mod,ok.kind,ok.glob,ok.blt,ok.above,ok.inj,ok.has,ok.u9,ok.hd,ok.frames,ok.g9,ok.EN,ok.bs,ok.gr,ok.l_,ok.ma,ok.iE,ok.kG⟩
section
variable {X:Cx} {pins:aZ} {σ:St} {H:Hp} {s:Shared} {E:bV}
theorem Inv.jO(I:Inv X pins σ H s)(E:bV):Inv (X.jO E) pins σ H s:=⟨I.ok.jO E,I.os,I.bare,I.base,I.loc,I.cell,I.free,I.g_,I.pin,I.ay,I.len⟩
theorem Inv.md(I:Inv (X.jO E) pins σ H s):Inv X pins σ H s:=⟨I.ok.md,I.os,I.bare,I.base,I.loc,I.cell,I.free,I.g_,I.pin,I.ay,I.len⟩
theorem SP.md{D:Ends}{f:Flow}{s':Shared}(h:SP (X.jO E) pins D f s'):SP X pins D f s':=by
 cases f with
 | next=>obtain ⟨σ',H',I,q⟩:=h;exact ⟨σ',H',I.md,q⟩
 | brk=>obtain ⟨σ',H',I,q⟩:=h;exact ⟨σ',H',I.md,q⟩
 | cont=>obtain ⟨σ',H',I,q⟩:=h;exact ⟨σ',H',I.md,q⟩
 | ret u=>obtain ⟨v,σ',H',I,r,q⟩:=h;exact ⟨v,σ',H',I.md,r,q⟩
theorem ej.oo{st:List Stmt}{t:TS}(h:ej X.oo st t):ej X st t:=fun pins s σ H D I hw=>cf (h pins s σ H D (I.jO _) hw) (fun _ _ q=>q.md) fun _ _ z=>False.elim z
end
section
variable {X:Cx} {st:Stmt} {rest:List Stmt} {t u:TS} {e:Expr} {te:TE} {pos:Pos}
def iF:TS:=fun D σ H=>D.nx σ H
def AI(t u:TS):TS:=fun D σ H=>t {D with nx:=u D} σ H
theorem bZ:ej X [] iF:=fun _ _ σ H _ I h=>xb ⟨σ,H,I,h⟩
theorem ak(h1:PS X st t)(h2:ej X rest u):ej X (st::rest) (AI t u):=by
 intro pins s σ H D I h;refine wpAny_execs_cons (aB (h1 pins s σ H {D with nx:=u D} I h) fun f s1 q=>?_);cases f with
 | next=>obtain ⟨σ',H',I',q⟩:=q;exact h2 pins s1 σ' H' D I' q
 | ret v=>exact q
 | brk=>exact q
 | cont=>exact q
theorem aw(h1:PS X st t):ej X [st] t:=by
 intro pins s σ H D I h;refine wpAny_execs_cons (aB (h1 pins s σ H D I h) fun f s1 q=>?_);cases f with
 | next=>exact xb q
 | ret v=>exact q
 | brk=>exact q
 | cont=>exact q
def Mm:TS:=fun D σ H=>D.bk σ H
theorem Mn:PS X (.Break pos) Mm:=fun _ _ σ H _ I h=>wpAny_Break ⟨σ,H,I,h⟩
theorem Inv.quiet{pins:aZ}{σ:St}(I:Inv X pins σ H s):interactive X.env=false:=by simp [interactive,I.ok.kind]
def Mo(te:TE):TS:=fun D σ H=>te σ H fun _ H1=>D.nx σ H1
theorem E5(he:PE X e te)(hs:swapsWith e none pos.line X.env=pure false:=by rfl):PS X (.Expr e pos) (Mo te):=by intro pins s σ H D I h;exact wpAny_Expr_any (aB (he pins s σ H _ I h) fun v s1 ⟨x,H1,I1,r1,q1⟩=>⟨σ,H1,I1,q1⟩) I.quiet hs
def E6(te:TE):TS:=fun D σ H=>te σ H D.rt
theorem aV(he:PE X e te):PS X (.Return (some e) pos) (E6 te):=by intro pins s σ H D I h;exact wpAny_Return_some (aB (he pins s σ H _ I h) fun v s1 ⟨x,H1,I1,r1,q1⟩=>⟨x,σ,H1,I1,r1,q1⟩)
def vb(c:TT)(t u:TS):TS:=fun D σ H=>c σ H fun b H1=>if b=true then t D σ H1 else u D σ H1
theorem bN{c:Expr}{a b:List Stmt}{tc:TT}(hc:PT X c tc)(ha:ej X a t)(hb:ej X b u):PS X (.If c a b pos) (vb tc t u):=by
 intro pins s σ H D I h;refine wpAny_If (aB (hc pins s σ H _ I h) fun d s1 ⟨H1,I1,q1⟩=>?_);cases d with
 | true=>exact ha pins s1 σ H1 D I1 q1
 | false=>exact hb pins s1 σ H1 D I1 q1
def Mp:TS:=fun _ _ _=>False
theorem Mq{Mr:List Stmt}:ej X Mr Mp:=fun _ _ _ _ _ _ h=>h.elim
end
abbrev TG:=V→St→Hp→(St→Hp→Prop)→Prop
abbrev oq:=List V→St→Hp→(St→Hp→Prop)→Prop
def PG(X:Cx)(target:Expr)(t:TG):Prop:=
 ∀(pins:aZ) (s:Shared) (σ:St) (H:Hp) (v:V) (u:Value) (Q:St→Hp→Prop),Inv X pins σ H s→RelV v u→t v σ H Q→
  wpAny (model X.prog X.w) X.A (assign target X.env u) (fun _ s'=>∃σ' H',Inv X pins σ' H' s'∧Q σ' H') X.xe s
def xE(X:Cx)(ts:List Expr)(t:oq):Prop:=
 ∀(pins:aZ) (s:Shared) (σ:St) (H:Hp) (vs:List V) (us:List Value) (Q:St→Hp→Prop),Inv X pins σ H s→Vals vs us→t vs σ H Q→
  wpAny (model X.prog X.w) X.A (assignInOrder ((assignEach ts X.env).map (·.2)) us) (fun _ s'=>∃σ' H',Inv X pins σ' H' s'∧Q σ' H') X.xe s
abbrev vc:=V→V→V→Hp→(Hp→Prop)→Prop
def AJ(X:Cx)(t:vc):Prop:=
 ∀(pins:aZ) (s:Shared) (σ:St) (H:Hp) (o i v:V) (ov iv u:Value) (Q:Hp→Prop),Inv X pins σ H s→RelV o ov→RelV i iv→RelV v u→t o i v H Q→
  wpAny (model X.prog X.w) X.A (setItem ov iv u) (fun _ s'=>∃H',Inv X pins σ H' s'∧Q H') X.xe s
abbrev qO:=V→V→Hp→VK→Prop
def vd(X:Cx)(op:Operator)(t:qO):Prop:=
 ∀(pins:aZ) (s:Shared) (σ:St) (H:Hp) (x y:V) (v u:Value) (Q:VK),Inv X pins σ H s→RelV x v→RelV y u→t x y H Q→
  wpAny (model X.prog X.w) X.A (inplaceOp op v u) (EP X pins σ Q) X.xe s
section
variable {X:Cx} {pos:Pos}
def b5(i:Nat):TG:=fun v σ H Q=>Q (σ.set i (some v)) H
variable {i:Nat}
theorem d6{x:Str}(hN:X.N.Nodup)(hi:X.N[i]?=some x)(hx:Loc X.env.scope x)(hf:X.fn x=true∨X.env.scope.names.lookup x=some .local:=by first | exact .inl rfl | exact .inr rfl | assumption):PG X (.Name x pos) (b5 i):=by intro pins s σ H v u Q I r h;exact wpAny_assign_Name (va I hN hi hx r (fun s' I'=>⟨_,H,I',h⟩) hf)
def AK:oq:=fun vs σ H Q=>vs=[]∧Q σ H
def vf(t:TG)(u:oq):oq:=fun vs σ H Q=>∃v r,vs=v::r∧t v σ H fun σ' H'=>u r σ' H' Q
theorem xF:xE X [] AK:=by intro pins s σ H vs us Q I r h;obtain ⟨e,h⟩:=h;subst e;cases r;exact assignInOrder_nil ⟨σ,H,I,h⟩
variable {e:Expr} {es:List Expr}
theorem me{t:TG}{u:oq}(h1:PG X e t)(h2:xE X es u)
  (hs:(assignEach (e::es) X.env).map (·.2)=assign e X.env::(assignEach es X.env).map (·.2):=by rfl):xE X (e::es) (vf t u):=by
 intro pins s σ H vs us Q I r h;obtain ⟨v,vr,e1,h⟩:=h;subst e1;cases r with
 | cons r rr=>rw [hs];refine assignInOrder_cons (aB (h1 pins s σ H _ _ _ I r h) fun _ s1 ⟨σ1,H1,I1,q1⟩=>?_);exact h2 pins s1 σ1 H1 _ _ Q I1 rr q1
def AL(K:ax)(n:Nat)(t:oq):TG:=fun v σ H Q=>∃a xs,v=.ref a∧dU K H a xs∧xs.length=n∧t xs σ H Q
theorem xG{k:Nat}{t:oq}{n:Nat}(hc:X.calm=true)(h:xE X es t)
  (hn:(assignEach es X.env).length=n:=by rfl) (qP:(assignEach es X.env).findIdx? (·.1)=none:=by rfl):PG X (.Tuple es k pos) (AL X.K n t):=by
 intro pins s σ H v u Q I r hw;obtain ⟨a,xs,e1,hq,hl,hw⟩:=hw;subst e1;cases r;obtain ⟨ao,rv,ht,hz⟩:=I.tuple hq;refine assign_Tuple_tuple (I.ok.hd hc) ht (by simp [hn,←hl,rv.length]) qP fun h' hx=>?_
 have I1:Inv X pins σ H {s with heap:=h'}:=I.kept (t':=s.toks) fun b o e=>hx b o (dZ (bK e)) e;exact h pins _ σ H xs _ Q I1 (by simpa using rv) hw
def Ms(to ti:TE)(t:vc):TG:=fun v σ H Q=>to σ H fun o H1=>ti σ H1 fun i H2=>t o i v H2 fun H3=>Q σ H3
theorem qQ{o i:Expr}{to ti:TE}{t:vc}(ho:PE X o to)(hi:PE X i ti)(hs:AJ X t)
  (ha:∀v,assign (.Subscript o i pos) X.env v=(do
   let ov ←holding [v] (eval o X.env)
   let iv ←holding [v,ov] (eval i X.env)
   standAt pos
   holding [v,ov,iv] (setItem ov iv v)
   release [v,ov,iv] []):=by intro _;rfl):PG X (.Subscript o i pos) (Ms to ti t):=by
 intro pins s σ H v u Q I r h
 rw [ha]
 refine cw (wpAny_holding (aB (ho pins s σ H _ I h) fun ov s1 ⟨x,H1,I1,r1,q1⟩=>?_))
 refine cw (wpAny_holding (aB (hi pins s1 σ H1 _ I1 q1) fun iv s2 ⟨y,H2,I2,r2,q2⟩=>?_))
 refine cw (uK (cw (wpAny_holding (aB (hs pins s2 σ H2 x y v ov iv u _ I2 r1 r2 r q2) fun _ s3 ⟨H3,I3,q3⟩=>?_))))
 exact wpAny_release ⟨σ,H3,I3,q3⟩
def mh(te:TE)(g:TG):TS:=fun D σ H=>te σ H fun x H1=>g x σ H1 D.nx
theorem qR{tg e:Expr}{te:TE}{g:TG}(he:PE X e te)(hg:PG X tg g)(hs:swapsWithSole [tg] e pos.line X.env=pure false:=by rfl)(hw:swappedStores [tg] e X.env=pure none:=by rfl)
  (h1:(assignEach [tg] X.env).map (·.2)=[assign tg X.env]:=by rfl):PS X (.Assign [tg] e pos) (mh te g):=by
 intro pins s σ H D I h;refine wpAny_Assign_stores (aB (he pins s σ H _ I h) fun v s1 ⟨x,H1,I1,r1,q1⟩=>?_) hs hw;rw [h1];exact aB (hg pins s1 σ H1 x v _ I1 r1 q1) fun _ s2 q=>q
variable {te:TE} {pos':Pos}
theorem Mt{x:Str}(hN:X.N.Nodup)(hi:X.N[i]?=some x)(hx:Loc X.env.scope x)(he:PE X e te)(hs:swapsWith e (some (.Name x pos')) pos.line X.env=pure false:=by rfl)(hf:X.fn x=true∨X.env.scope.names.lookup x=some .local:=by first | exact .inl rfl | exact .inr rfl | assumption) :
  PS X (.Assign [.Name x pos'] e pos) (mh te (b5 i)):=by
 intro pins s σ H D I h;refine wpAny_Assign_Name (aB (he pins s σ H _ I h) fun v s1 ⟨y,H1,I1,r1,q1⟩=>?_) hs;exact va I1 hN hi hx r1 (fun s2 I2=>⟨_,H1,I2,q1⟩) hf
def Mu(i j:Nat)(ta:TA):TS:=fun D σ H=>ta σ H fun vs H1=>∃v w,vs=[v,w]∧D.nx ((σ.set i (some v)).set j (some w)) H1
theorem E7{j:Nat}{x y:Str}{a b:Expr}{ta:TA}{px py pt:Pos}{kt k2 AM}(hc:X.calm=true)(hN:X.N.Nodup)(hi:X.N[i]?=some x)(hj:X.N[j]?=some y)(Mv:i≠j)
  (hx:X.env.scope.names.lookup x=some .local) (hy:X.env.scope.names.lookup y=some .local) (ha:PA X [a,b] ta)
  (hw:swappedStores [.Tuple [.Name x px,.Name y py] kt pt] (.Tuple [a,b] k2 AM) X.env=pure (some [x,y]))
  (hs:swapsWithSole [.Tuple [.Name x px,.Name y py] kt pt] (.Tuple [a,b] k2 AM) pos.line X.env=pure false:=by rfl) :
  PS X (.Assign [.Tuple [.Name x px,.Name y py] kt pt] (.Tuple [a,b] k2 AM) pos) (Mu i j ta):=by
 intro pins s σ H D I h
 rw [exec_Assign_arm]
 refine cw (uK ?_)
 rw [hs]
 refine cw (d0 ?_)
 rw [ar (by decide)]
 refine cw (Tuple_ (aB (ha _ pins s σ H _ I h) fun us s1 ⟨vs,H1,I1,r1,q1⟩=>?_))
 obtain ⟨v,w,e1,q1⟩:=q1
 subst e1
 obtain ⟨u1,u2,rfl,rv,ou⟩:∃u1 u2,us=[u1,u2]∧RelV v u1∧RelV w u2:=by
  cases r1 with
  | cons p q=>
   cases q with
   | cons p' q'=>
    cases q'
    exact ⟨_,_,rfl,p,p'⟩
 refine uM ?_ (by show 2≤sizeLine;decide)
 have I2:Inv X pins σ H1 {s1 with heap:=s1.heap.push {cls:=.type "tuple",data:=.seq [u1,u2].toArray}}:=I1.kept (t':=s1.toks) fun b o e=>de _ e
 rw [hw]
 refine cw (d0 ?_)
 show wpAny (model X.prog X.w) X.A (do rule "assign.swapped-stores";let items ←unpackItems (.ref s1.heap.objs.size) 2 none;assignInOrder [fun v=>bindName X.env y v,fun v=>bindName X.env x v] items.reverse;pure Flow.next) _ _ _
 refine cw (wpAny_rule (cw (unpackItems_tuple (items:=#[u1,u2]) (I.ok.hd hc) (IsTup.new s1.heap _) fun h' Mw=>?_)))
 have I3:=I2.kept (h':=h') (t':=s1.toks) fun b o e=>Mw b o (dZ (bK e)) e
 show wpAny _ _ (assignInOrder [fun v=>bindName X.env y v,fun v=>bindName X.env x v] [u2,u1] >>= fun _=>pure Flow.next) _ _ _
 refine cw (assignInOrder_cons (wpAny_bindName (va I3 hN hj (.inl hy) ou (fun s2 I4=>?_) (.inr hy))))
 refine assignInOrder_cons (wpAny_bindName (va I4 hN hi (.inl hx) rv (fun s3 I5=>assignInOrder_nil (d0 ?_)) (.inr hx)))
 rw [List.set_comm _ _ (Ne.symm Mv)] at I5
 exact ⟨_,H1,I5,q1⟩
def Mx(i:Nat)(te:TE)(ti:qO):TS:=fun D σ H=>∃x,σ[i]?=some (some x)∧te σ H fun y H1=>ti x y H1 fun z H2=>D.nx (σ.set i (some z)) H2
theorem xH{x:Str}{op:Operator}{ti:qO}(hN:X.N.Nodup)(hi:X.N[i]?=some x)(hx:Loc X.env.scope x)(he:PE X e te)(ho:vd X op ti)(hf:X.fn x=true∨X.env.scope.names.lookup x=some .local:=by first | exact .inl rfl | exact .inr rfl | assumption) :
  PS X (.AugAssign (.Name x pos') op e pos) (Mx i te ti):=by
 intro pins s σ H D I h;obtain ⟨v,e1,h⟩:=h;obtain ⟨m,hn,hl⟩:=I.loc;have Mz:l4 X.env.scope x:=by rcases hx with k | k;exact .inl k;exact .inr (.inl k)
 obtain ⟨u,r,l⟩:=hl i x v hi e1 Mz;refine wpAny_AugAssign_Name ?_;have go:wpAny (model X.prog X.w) X.A (eval e X.env) (fun w s₂=>wpAny (model X.prog X.w) X.A (inplaceOp op u w) (fun r s₃=>wpAny (model X.prog X.w) X.A (storeName X.env x r) (fun _=>SP X pins D .next) X.xe s₃) X.xe s₂) X.xe s:=by refine aB (he pins s σ H _ I h) fun w s1 ⟨y,H1,I1,r1,q1⟩=>?_;refine aB (ho pins s1 σ H1 v y u w _ I1 r r1 q1) fun z s2 ⟨zv,H2,I2,r2,q2⟩=>?_;exact va I2 hN hi hx r2 (fun s3 I3=>⟨_,H2,I3,q2⟩) hf
 rcases l with ⟨hk,hm⟩ | ⟨hk,c,hc,xA⟩;·exact wpAny_loadName_local I.ok.kind hk hn hm go
 ·rcases hk with hk | hk
  ·exact wpAny_loadName_cell I.ok.kind hk hc xA go
  ·rcases hx with k | k
   ·have:X.env.scope.names.lookup x=some .free:=hk
    rw [k] at this;cases this
   ·have:X.env.scope.names.lookup x=some .free:=hk
    rw [k] at this;cases this
def MA(to ti te:TE)(xI:V→V→Hp→VK→Prop)(xJ:qO)(xK:vc):TS:=fun D σ H=>to σ H fun o H1=>ti σ H1 fun i H2=>xI o i H2 fun x H3=>te σ H3 fun y H4=>xJ x y H4 fun z H5=>xK o i z H5 fun H6=>D.nx σ H6
def E8(X:Cx)(t:V→V→Hp→VK→Prop):Prop:=
 ∀(pins:aZ) (s:Shared) (σ:St) (H:Hp) (o i:V) (ov iv:Value) (Q:VK),Inv X pins σ H s→RelV o ov→RelV i iv→t o i H Q→
  wpAny (model X.prog X.w) X.A (getItem ov iv) (EP X pins σ Q) X.xe s
theorem MB{o i e:Expr}{to ti te:TE}{xI:V→V→Hp→VK→Prop}{xJ:qO}{xK:vc}{op:Operator}{qS:Pos}(ho:PE X o to)(hi:PE X i ti)(hg:E8 X xI)(he:PE X e te)(hp:vd X op xJ)(hs:AJ X xK)
  (ha:∀ov iv new,augStore i ov iv new=(do holding [new,ov,iv] (setItem ov iv new);release [new,ov,iv] [];pure .next):=by intros;rfl):PS X (.AugAssign (.Subscript o i qS) op e pos) (MA to ti te xI xJ xK):=by
 intro pins s σ H D I h
 refine wpAny_AugAssign_SubscriptAny (aB (ho pins s σ H _ I h) fun ov s1 ⟨x1,H1,I1,r1,q1⟩=>?_) ha
 refine aB (hi pins s1 σ H1 _ I1 q1) fun iv s2 ⟨x2,H2,I2,r2,q2⟩=>?_
 refine aB (hg pins s2 σ H2 x1 x2 ov iv _ I2 r1 r2 q2) fun old s3 ⟨x3,H3,I3,r3,q3⟩=>?_
 refine aB (he pins s3 σ H3 _ I3 q3) fun v s4 ⟨x4,H4,I4,r4,q4⟩=>?_
 refine aB (hp pins s4 σ H4 x3 x4 old v _ I4 r3 r4 q4) fun new s5 ⟨x5,H5,I5,r5,q5⟩=>?_
 exact aB (hs pins s5 σ H5 x1 x2 x5 ov iv new _ I5 r1 r2 r5 q5) fun _ s6 ⟨H6,I6,q6⟩=>⟨σ,H6,I6,q6⟩
def E9(f:Int→Int→Int):qO:=fun x y H Q=>∃i j,x=.int i∧y=.int j∧Q (.int (f i j)) H
theorem E_:vd X .Add (E9 fun i j=>i+j):=by intro pins s σ H x y v u Q I r1 r2 h;obtain ⟨i,j,e1,e2,q⟩:=h;subst e1;subst e2;obtain ⟨t,rfl⟩:=r1;obtain ⟨t',rfl⟩:=r2;exact iadd_int ⟨.int _,H,I.tok _,⟨_,rfl⟩,q⟩
theorem Fb:vd X .Sub (E9 fun i j=>i-j):=by intro pins s σ H x y v u Q I r1 r2 h;obtain ⟨i,j,e1,e2,q⟩:=h;subst e1;subst e2;obtain ⟨t,rfl⟩:=r1;obtain ⟨t',rfl⟩:=r2;exact isub_int ⟨.int _,H,I.tok _,⟨_,rfl⟩,q⟩
end
section
variable {X:Cx} {pos:Pos}
def MC(c:TT)(tb:TS):TS:=fun D σ H=>∃W:Nat→St→Hp→Prop,(∃m,W m σ H)∧∀m σ H,W m σ H→
 c σ H fun b H1=>if b=true then ∃N:St→Hp→Prop,(∀σ' H',N σ' H'→∃m',m'<m∧W m' σ' H')∧tb {D with nx:=N,ct:=N,bk:=D.nx} σ H1 else D.nx σ H1
theorem kK{c:Expr}{body:List Stmt}{tc:TT}{tb:TS}(hp:PassesOwn (model X.prog X.w) X.A X.env X.xe)(hc:PT X c tc)(hb:ej X body tb):PS X (.While c body [] pos) (MC tc tb):=by
 intro pins s σ H D I h;obtain ⟨W,⟨m0,w0⟩,turn⟩:=h;refine wpAny_While (codeAny_whileLoop (fun n s'=>∃σ' H',Inv X pins σ' H' s'∧W n σ' H') ?_ m0 ⟨σ,H,I,w0⟩);rintro n s1 ⟨σ1,H1,I1,w1⟩;refine nK hp (aB (hc pins s1 σ1 H1 _ I1 (turn n σ1 H1 w1)) fun b s2 ⟨H2,I2,q2⟩=>?_);cases b with
 | true=>
  obtain ⟨N,hN,q2⟩:=q2;rw [au rfl];refine nK hp (aB (hb pins s2 σ1 H2 _ I2 q2) fun f s3 q3=>?_);cases f with
  | next=>obtain ⟨σ3,H3,I3,n3⟩:=q3;obtain ⟨m',hm,w3⟩:=hN σ3 H3 n3;exact ⟨m',hm,σ3,H3,I3,w3⟩
  | cont=>obtain ⟨σ3,H3,I3,n3⟩:=q3;obtain ⟨m',hm,w3⟩:=hN σ3 H3 n3;exact ⟨m',hm,σ3,H3,I3,w3⟩
  | brk=>exact q3
  | ret v=>exact q3
 | false=>rw [ar cZ];exact xb ⟨σ1,H2,I2,q2⟩
end
structure It where
 go:Nat→Hp→Prop
 dW:Nat→Hp→V→Hp→Prop
 stop:Nat→Hp→Prop
def jP(X:Cx)(pins:aZ)(H:Hp)(b:Addr):Prop:=
 H b=none∧b≠X.env.locals∧b∉X.fs∧(b∈X.ex∨X.s₀.heap.objs.size≤b)∧(∀x c,X.env.cells.lookup x=some c→c≠b)∧∀p∈X.pn++pins,p.1≠b
variable {σ:St}
theorem Inv.qT{pins:aZ}{H':Hp}(I:Inv X pins σ H s)(hb:s.heap.objs.size≤b)(hn:H' b=none):jP X pins H' b:=by
 refine ⟨hn,Nat.ne_of_gt (dB I.lt hb),I.L_ hb,.inr (ai I.sz hb),fun x c e z=>?_,fun p hp z=>?_⟩
 ·obtain ⟨v,q⟩:=I.cell x c e
  exact absurd (dB q.lt (by rw [z];exact hb)) (gF _)
 ·exact absurd (dB (bK (I.pin p hp).1) (by rw [z];exact hb)) (gF _)
structure Turn (P:Program) (w:World) (K:ax) (tg:Expr) (J:It) (fp:List Addr) (it:Addr) (tn:Nat→Heap→Prop):Prop where
 mem:it∈fp
 obj:∀i h,tn i h→∀b∈fp,∃o,h.get? b=some o∧∀v,o.data≠.cell v
 keep:∀i h h',tn i h→(∀b∈fp,∀o,h.get? b=some o→h'.get? b=some o)→tn i h'
 item:∀(X:Cx),X.prog=P→X.w=w→X.K=K→X.calm=true→∀(i:Nat) (pins:aZ) (s:Shared) (σ:St) (H:Hp) (E:bV),Inv X pins σ H s→(∀b∈fp,jP X pins H b)→tn i s.heap→J.go i H→
  wpAny (model P w) X.A (pyNext (.ref it)) (fun r s1=>∃u,r=some u ∧
   wpAny (model P w) X.A (letOwnedTupleGo tg (.ref it) u) (fun _ s2=>∃x H',Inv X pins σ H' s2∧RelV x u∧J.dW i H x H'∧tn (i+1) s2.heap∧∀b∈fp,H' b=none) E s1) E s
 done:∀(X:Cx),X.prog=P→X.w=w→X.K=K→X.calm=true→∀(i:Nat) (pins:aZ) (s:Shared) (σ:St) (H:Hp) (E:bV),Inv X pins σ H s→(∀b∈fp,jP X pins H b)→tn i s.heap→J.stop i H→
  wpAny (model P w) X.A (pyNext (.ref it)) (fun r s1=>r=none∧Inv X pins σ H s1) E s
 self:∀(A:Around) (i:Nat) (s:Shared) (Q:bV) (E:bV),tn i s.heap→Q (.ref it) s→wpAny (model P w) A (pyIter (.ref it)) Q E s
abbrev TI:=St→Hp→(It→Hp→Prop)→Prop
def AN(X:Cx)(pins:aZ)(σ:St)(tg:Expr)(R:It→Hp→Prop)(qU:Value)(s2:Shared):Prop:=
 ∃(it:Addr) (fp:List Addr) (tn:Nat→Heap→Prop) (J:It) (H':Hp),qU=.ref it∧Inv X pins σ H' s2∧Turn X.prog X.w X.K tg J fp it tn∧tn 0 s2.heap∧(∀b∈fp,jP X pins H' b)∧R J H'
def PI(X:Cx)(tg iter:Expr)(wi:TI):Prop:=
 ∀(pins:aZ) (s:Shared) (σ:St) (H:Hp) (R:It→Hp→Prop),Inv X pins σ H s→wi σ H R→
  wpAny (model X.prog X.w) X.A (eval iter X.env) (fun v s1=>wpAny (model X.prog X.w) X.A (pyIter v) (AN X pins σ tg R) X.xe s1) X.xe s
variable {tg:Expr}
theorem xM{it:Addr}{u:Value}{o:Obj}{n:String}{vs:Array Value}{Q:Unit→Shared→Prop}(ho:s.heap.get? it=some o)(hc:o.cls=.type n)(hd:o.data=.fields vs)
    (hn:["enumerate","zip","dict_itemiterator","dict_reverseitemiterator","odict_iterator","itertools.zip_longest","itertools.pairwise"].contains n=false) (hQ:Q () s):wpAny M A (letOwnedTupleGo tg (.ref it) u) Q E s:=by
  unfold letOwnedTupleGo
  cases tg <;> first
    | exact d0 hQ
    | (cases u <;> first
        | exact d0 hQ
        | (refine cw (wpAny_load ho ?_)
           rw [hc,hd];show wpAny M A (if (["enumerate","zip","dict_itemiterator","dict_reverseitemiterator","odict_iterator","itertools.zip_longest","itertools.pairwise"].contains n && vs[0]? == some (rawInt _))=true then _ else _) Q E s
           rw [ar (by intro h;rw [hn,Bool.false_and] at h;cases h)]
           exact d0 hQ))
def qV(K:ax)(a:Addr):It:=
 ⟨fun i H=>∃xs x,aX K H a xs∧xs[i]?=some x,fun i H x H'=>H'=H∧∀xs,aX K H a xs→xs[i]?=some x,fun i H=>∃xs,aX K H a xs∧xs.length≤i⟩
def qW(K:ax)(a:Addr):It:=
 ⟨fun i H=>∃xs x,dU K H a xs∧xs[i]?=some x,fun i H x H'=>H'=H∧∀xs,dU K H a xs→xs[i]?=some x,fun i H=>∃xs,dU K H a xs∧xs.length≤i⟩
def kL(lo:Int)(n:Nat):It:=⟨fun i _=>i<n,fun i H x H'=>H'=H∧x=.int (lo+i),fun i _=>n≤i⟩
variable {K:ax}
theorem MD(a it:Addr):Turn P w K tg (qV K a) [it] it (fun i h=>h.IsListIter it a i) where
 mem:=by simp
 obj:=fun i h st b hb=>by
  have e:b=it:=by simpa using hb
  subst e;obtain ⟨o,e,c,d⟩:=st;exact ⟨o,e,fun v z=>by rw [d] at z;cases z⟩
 keep:=fun i h h' st k=>st.at fun o e=>k it (by simp) o e
 item:=by
  intro X hP hw hK hc i pins s σ H E I hf st hg;subst hP hw hK;obtain ⟨xs,x,hq,hx⟩:=hg;obtain ⟨ao,rv,p,hz⟩:=I.list hq;obtain ⟨u,hu,ru⟩:=rv.get hx;obtain ⟨f0,f1,f2,f3,f4,f5⟩:=hf it (by simp)
  refine wpAny_pyNext_list_item st p.isList (x:=u) (by simpa using hu) fun h' i8 sb=>?_
  have I1:Inv X pins σ H {s with heap:=h'}:=I.turned (t':=s.toks) (fun b o hb e=>(sb.2 b hb).trans e) f0 f1 f3 f4 f5;obtain ⟨o,e,c,d⟩:=id i8;exact ⟨u,rfl,xM (s:={s with heap:=h'}) e c d (by decide) ⟨x,H,I1,ru,⟨rfl,fun ys hy=>by rw [I.xD hy hq];exact hx⟩,i8,fun b hb=>(hf b hb).1⟩⟩
 done:=by
  intro X hP hw hK hc i pins s σ H E I hf st hg;subst hP hw hK;obtain ⟨xs,hq,hx⟩:=hg;obtain ⟨ao,rv,p,hz⟩:=I.list hq;obtain ⟨f0,f1,f2,f3,f4,f5⟩:=hf it (by simp)
  have hl:=rv.length;exact wpAny_pyNext_list_end (I.ok.hd hc) st p.isList (by simp;lia) fun h' eb=>⟨rfl,I.turned (t':=s.toks) (fun b o hb e=>eb b o hb e) f0 f1 f3 f4 f5⟩
 self:=fun _ _ _ _ _ st h=>wpAny_pyIter_listiter st h
theorem ME(a it:Addr):Turn P w K tg (qW K a) [it] it (fun i h=>h.IsTupleIter it a i) where
 mem:=by simp
 obj:=fun i h st b hb=>by
  have e:b=it:=by simpa using hb
  subst e;obtain ⟨o,e,c,d⟩:=st;exact ⟨o,e,fun v z=>by rw [d] at z;cases z⟩
 keep:=fun i h h' st k=>st.at fun o e=>k it (by simp) o e
 item:=by
  intro X hP hw hK hc i pins s σ H E I hf st hg;subst hP hw hK;obtain ⟨xs,x,hq,hx⟩:=hg;obtain ⟨ao,rv,p,hz⟩:=I.tuple hq;obtain ⟨u,hu,ru⟩:=rv.get hx;obtain ⟨f0,f1,f2,f3,f4,f5⟩:=hf it (by simp)
  refine wpAny_pyNext_tuple_item st (show s.heap.IsTuple a ao.toArray from p) (x:=u) (by simpa using hu) fun h' i8 sb=>?_
  have I1:Inv X pins σ H {s with heap:=h'}:=I.turned (t':=s.toks) (fun b o hb e=>(sb.2 b hb).trans e) f0 f1 f3 f4 f5;obtain ⟨o,e,c,d⟩:=id i8;exact ⟨u,rfl,xM (s:={s with heap:=h'}) e c d (by decide) ⟨x,H,I1,ru,⟨rfl,fun ys hy=>by rw [I.Ml hy hq];exact hx⟩,i8,fun b hb=>(hf b hb).1⟩⟩
 done:=by
  intro X hP hw hK hc i pins s σ H E I hf st hg;subst hP hw hK;obtain ⟨xs,hq,hx⟩:=hg;obtain ⟨ao,rv,p,hz⟩:=I.tuple hq;obtain ⟨f0,f1,f2,f3,f4,f5⟩:=hf it (by simp)
  have hl:=rv.length;exact wpAny_pyNext_tuple_end (I.ok.hd hc) st (show s.heap.IsTuple a ao.toArray from p) (by simp;lia) fun h' eb=>⟨rfl,I.turned (t':=s.toks) (fun b o hb e=>eb b o hb e) f0 f1 f3 f4 f5⟩
 self:=fun _ _ _ _ _ st h=>wpAny_pyIter_tupleiter st h
theorem MF(it:Addr)(lo:Int)(n:Nat):Turn P w K tg (kL lo n) [it] it (fun i h=>IsRangeIter h it (lo+(i:Nat)*1) ((n:Int)-(i:Nat)) 1) where
 mem:=by simp
 obj:=fun i h st b hb=>by
  have e:b=it:=by simpa using hb
  subst e;exact ⟨_,st,fun v z=>by have z':Data.fields _=Data.cell v:=z;cases z'⟩
 keep:=fun i h h' st k=>k it (by simp) _ st
 item:=by
  intro X hP hw hK hc i pins s σ H E I hf st hg;subst hP hw hK;obtain ⟨f0,f1,f2,f3,f4,f5⟩:=hf it (by simp)
  have W:=Walks.range (prog:=X.prog) (w:=X.w) (I.ok.hd hc) it lo 1 n;refine W.item i s _ _ hg st fun v h' tk hv i8 kk=>?_;obtain ⟨t,rfl⟩:=hv;have I1:Inv X pins σ H {s with heap:=h',toks:=tk}:=I.turned (fun b o hb e=>kk b o (by simpa using hb) e) f0 f1 f3 f4 f5
  refine ⟨_,rfl,xM (s:={s with heap:=h',toks:=tk}) (n:="range_iterator") i8 rfl rfl (by decide) ⟨.int (lo+i),H,I1,⟨t,?_⟩,⟨rfl,rfl⟩,i8,fun b hb=>(hf b hb).1⟩⟩
  rw [eQ]
 done:=by
  intro X hP hw hK hc i pins s σ H E I hf st hg;subst hP hw hK;obtain ⟨f0,f1,f2,f3,f4,f5⟩:=hf it (by simp)
  exact wpAny_pyNext_range_end (I.ok.hd hc) st (by have:n≤i:=hg;lia) fun h' eb=>⟨rfl,I.turned (t':=s.toks) (fun b o hb e=>eb b o hb e) f0 f1 f3 f4 f5⟩
 self:=fun _ _ _ _ _ st h=>wpAny_pyIter_rangeiter st h
section
variable {X:Cx} {tg:Expr}
def MG(K:ax)(tl:TE):TI:=fun σ H R=>tl σ H fun x H1=>∃a,x=.ref a∧(∃xs,aX K H1 a xs)∧R (qV K a) H1
def MH(K:ax)(tl:TE):TI:=fun σ H R=>tl σ H fun x H1=>∃a,x=.ref a∧(∃xs,dU K H1 a xs)∧R (qW K a) H1
variable {l:Expr} {tl:TE}
theorem kM(hl:PE X l tl):PI X tg l (MG X.K tl):=by
 intro pins s σ H R I h;refine aB (hl pins s σ H _ I h) fun v s1 ⟨x,H1,I1,r1,q1⟩=>?_;obtain ⟨a,e,⟨xs,hq⟩,q⟩:=q1;subst e;cases r1;obtain ⟨ao,rv,p,hz⟩:=I1.list hq;refine wpAny_pyIter_list p.isList ?_;refine ⟨s1.heap.objs.size,[s1.heap.objs.size],_,_,H1,rfl,I1.kept (t':=s1.toks) fun b o e=>de _ e,MD a _,⟨_,gg _ rfl,rfl,rfl⟩,fun b hb=>?_,q⟩;have e:b=s1.heap.objs.size:=by simpa using hb
 subst e;exact I1.qT (aO _) (I1.ay.fresh (aO _))
theorem xN(hl:PE X l tl):PI X tg l (MH X.K tl):=by
 intro pins s σ H R I h;refine aB (hl pins s σ H _ I h) fun v s1 ⟨x,H1,I1,r1,q1⟩=>?_;obtain ⟨a,e,⟨xs,hq⟩,q⟩:=q1;subst e;cases r1;obtain ⟨ao,rv,p,hz⟩:=I1.tuple hq;refine wpAny_pyIter_tuple (show s1.heap.IsTuple a ao.toArray from p) ?_;refine ⟨s1.heap.objs.size,[s1.heap.objs.size],_,_,H1,rfl,I1.kept (t':=s1.toks) fun b o e=>de _ e,ME a _,⟨_,gg _ rfl,rfl,rfl⟩,fun b hb=>?_,q⟩;have e:b=s1.heap.objs.size:=by simpa using hb
 subst e;exact I1.qT (aO _) (I1.ay.fresh (aO _))
variable {pins:aZ}
theorem MI{R:It→Hp→Prop}{lo hi:Int}{t u v:Tok}{tk:Nat}(I:Inv X pins σ H s)(h1:-(2 ^ 62)≤lo)(h2:lo<2 ^ 62)(h3:-(2 ^ 62)≤hi)(h4:hi<2 ^ 62)
  (q:R (kL lo (hi-lo).toNat) H):wpAny (model X.prog X.w) X.A (pyIter (.ref s.heap.objs.size)) (AN X pins σ tg R) E {s with heap:=s.heap.push {cls:=.type "range",data:=.fields #[.int lo t,.int hi u,.int 1 v]},toks:=tk}:=by
 refine wpAny_pyIter_range (IsRange.new ..) (small_one h1 h2 h3 h4) ?_;have I1:Inv X pins σ H {s with heap:=s.heap.push {cls:=.type "range",data:=.fields #[.int lo t,.int hi u,.int 1 v]},toks:=tk}:=I.kept fun b o e=>de _ e
 refine ⟨(s.heap.push {cls:=.type "range",data:=.fields #[.int lo t,.int hi u,.int 1 v]}).objs.size,[(s.heap.push {cls:=.type "range",data:=.fields #[.int lo t,.int hi u,.int 1 v]}).objs.size],_,_,H,rfl,
  I1.kept (t':=tk) fun b o e=>de _ e,MF _ lo (hi-lo).toNat,?_,fun b hb=>?_,q⟩
 ·have e1:lo+((0:Nat):Int)*1=lo:=by simp
  have e2:(((hi-lo).toNat:Nat):Int)-((0:Nat):Int)=Builtin.Range.rangeSize lo hi 1:=by rw [rangeSize_one];split <;> lia
  show IsRangeIter _ _ (lo+((0:Nat):Int)*1) ((((hi-lo).toNat:Nat):Int)-((0:Nat):Int)) 1;rw [e1,e2];exact gg _ rfl
 ·have e:b=(s.heap.push {cls:=.type "range",data:=.fields #[.int lo t,.int hi u,.int 1 v]}).objs.size:=by simpa using hb
  subst e;exact I1.qT (aO _) (I1.ay.fresh (aO _))
def MJ(ta:TA):TI:=fun σ H R=>ta σ H fun vs H1=>∃j:Int,vs=[.int j]∧-(2 ^ 62)≤j∧j<2 ^ 62∧R (kL 0 j.toNat) H1
variable {pos:Pos}
theorem h_{a:Expr}{ta:TA}{p:Pos}(hg:Gl X "range")(hm:X.mg "range"=none)(ha:PA X [a] ta)(hs:starEach [a] X.env=[(false,eval a X.env)]:=by rfl):PI X tg (.Call (.Name "range" p) [a] [] pos) (MJ ta):=by
 intro pins s σ H R I h;refine Call_ (oj I hg hm boot_range (uN (aB (ha pos pins s σ H _ I h) fun us s1 ⟨vs,H1,I1,r1,q1⟩=>?_) hs rfl));obtain ⟨j,e,q1,q2,q⟩:=q1;subst e;cases r1 with
 | cons r rr=>cases rr;obtain ⟨t,rfl⟩:=r;exact call_range_1 (MI I1 (by lia) (by lia) q1 q2 (by simpa using q))
def MK(wi:TI)(g:TG)(tb:TS):TS:=fun D σ H=>wi σ H fun J H1=>∃W:Nat→Nat→St→Hp→Prop,(∃m,W 0 m σ H1)∧∀i m σ H,W i m σ H→
 (J.stop i H∧D.nx σ H)∨(J.go i H∧∃N:St→Hp→Prop,(∀σ' H',N σ' H'→∃m',m'<m∧W (i+1) m' σ' H')∧∀x H',J.dW i H x H'→g x σ H' fun σ2 H2=>tb {D with nx:=N,ct:=N,bk:=D.nx} σ2 H2)
def iG(fp:List Addr)(h:Heap):List (Addr×Obj):=fp.filterMap fun b=>(h.get? b).map fun o=>(b,o)
variable {fp:List Addr}
theorem jQ{o:Obj}(hb:b∈fp)(e:h.get? b=some o):(b,o)∈iG fp h:=List.mem_filterMap.mpr ⟨b,hb,by rw [e];rfl⟩
theorem ML{p:Addr×Obj}(hp:p∈iG fp h):p.1∈fp∧h.get? p.1=some p.2:=by
 obtain ⟨b,hb,e⟩:=List.mem_filterMap.mp hp;cases q:h.get? b with
 | none=>rw [q] at e;cases e
 | some o=>rw [q] at e;have e':(b,o)=p:=Option.some.inj e;subst e';exact ⟨hb,q⟩
theorem Inv.pinned(I:Inv X pins σ H s)(hf:∀b∈fp,jP X pins H b)(ho:∀b∈fp,∃o,s.heap.get? b=some o∧∀v,o.data≠.cell v):Inv X (pins++iG fp s.heap) σ H s:=
 I.ES fun p hp=>(gG.mp hp).elim (fun z=>I.pin p (dI _ z)) fun z=>by obtain ⟨hb,e⟩:=ML z;obtain ⟨f0,f1,f2,_⟩:=hf p.1 hb;obtain ⟨o,e',d⟩:=ho p.1 hb;rw [e] at e';cases e';exact ⟨e,f0,f1,f2,d⟩
theorem Inv.ox{pl:aZ}(I:Inv X (pins++pl) σ H s):Inv X pins σ H s:=I.ES fun p hp=>I.pin p (dI _ (List.mem_append_left _ hp))
theorem ia{iter:Expr}{body:List Stmt}{wi:TI}{g:TG}{tb:TS}(hp:PassesOwn (model X.prog X.w) X.A X.env X.xe)(hc:X.calm=true)(hi:PI X tg iter wi)(hg:PG X tg g)(hb:ej X body tb)
  (hs:∀x,foldedSetIterable iter X.env x=pure x:=by intro _;rfl):PS X (.For tg iter body [] pos) (MK wi g tb):=by
 intro pins s σ H D I h;refine wpAny_For (aB (hi pins s σ H _ I h) fun v s1 h1=>aB h1 fun qU s2 h2=>?_) hs;obtain ⟨it,fp,tn,J,H2,e,I2,T,fG,f2,W,⟨m0,w0⟩,turn⟩:=h2;subst e;have eV:∀{H':Hp},(∀b∈fp,H' b=none)→∀b∈fp,jP X pins H' b:=fun hn b hb=>⟨hn b hb,(f2 b hb).2⟩;refine codeAny_forLoop_any (fun n s'=>∃i σ' H',Inv X pins σ' H' s'∧tn i s'.heap∧(∀b∈fp,H' b=none)∧W i n σ' H') ?_ m0 ⟨0,σ,H2,I2,fG,fun b hb=>(f2 b hb).1,w0⟩;rintro n s3 ⟨i,σ3,H3,I3,Fc,Fd,w3⟩;rcases turn i n σ3 H3 w3 with ⟨stop,qn⟩ | ⟨go,N,hN,step⟩
 ·refine nK hp (aB (T.done X rfl rfl rfl hc i pins s3 σ3 H3 X.xe I3 (eV Fd) Fc stop) fun r s4 ⟨hr,I4⟩=>?_)
  subst hr;exact xb ⟨σ3,H3,I4,qn⟩
 ·refine nK hp (aB (T.item X rfl rfl rfl hc i pins s3 σ3 H3 X.xe I3 (eV Fd) Fc go) fun r s4 ⟨u,hr,h4⟩=>?_)
  subst hr;refine nK hp (aB h4 fun _ s5 ⟨x,H5,I5,r5,y5,eW,kN⟩=>?_);have kO:=I5.pinned (eV kN) (T.obj _ _ eW);refine nK hp (aB (hg _ s5 σ3 H5 x u _ kO r5 (step x H5 y5)) fun _ s6 ⟨σ6,H6,I6,q6⟩=>?_);refine nK hp (aB (hb _ s6 σ6 H6 _ I6 q6) fun f s7 q7=>?_);have again:∀{σ7:St} {H7:Hp},Inv X (pins++iG fp s5.heap) σ7 H7 s7→N σ7 H7→∃m,m<n∧∃i σ' H',Inv X pins σ' H' s7∧tn i s7.heap∧(∀b∈fp,H' b=none)∧W i m σ' H':=fun{σ7 H7} I7 n7=>by obtain ⟨m',hm,w7⟩:=hN σ7 H7 n7;refine ⟨m',hm,i+1,σ7,H7,I7.ox,T.keep _ _ _ eW fun b hb o e=>(I7.pin (b,o) (dI _ (dI _ (jQ hb e)))).1,fun b hb=>?_,w7⟩;obtain ⟨o,e,d⟩:=T.obj _ _ eW b hb;exact (I7.pin (b,o) (dI _ (dI _ (jQ hb e)))).2.1
  cases f with
  | next=>obtain ⟨σ7,H7,I7,n7⟩:=q7;exact again I7 n7
  | cont=>obtain ⟨σ7,H7,I7,n7⟩:=q7;exact again I7 n7
  | brk=>obtain ⟨σ7,H7,I7,q7⟩:=q7;exact ⟨σ7,H7,I7.ox,q7⟩
  | ret v=>obtain ⟨x7,σ7,H7,I7,r7,q7⟩:=q7;exact ⟨x7,σ7,H7,I7.ox,r7,q7⟩
end
variable {g:TG} {tb:TS} {D:Ends}
theorem MM{a:Addr}(Pv:Nat→St→Hp→Prop)(h0:Pv 0 σ H)(hl:∀i σ H,i≤xs.length→Pv i σ H→aX K H a xs)
  (hs:∀i x σ H,xs[i]?=some x→Pv i σ H→g x σ H fun σ2 H2=>tb {D with nx:=Pv (i+1),ct:=Pv (i+1),bk:=D.nx} σ2 H2) (hd:∀σ H,Pv xs.length σ H→D.nx σ H) :
  ∃W:Nat→Nat→St→Hp→Prop,(∃m,W 0 m σ H)∧∀i m σ H,W i m σ H→
   ((qV K a).stop i H∧D.nx σ H)∨((qV K a).go i H∧∃N:St→Hp→Prop,(∀σ' H',N σ' H'→∃m',m'<m∧W (i+1) m' σ' H')∧∀x H',(qV K a).dW i H x H'→g x σ H' fun σ2 H2=>tb {D with nx:=N,ct:=N,bk:=D.nx} σ2 H2):=by
 refine ⟨fun i m σ H=>m=xs.length-i∧i≤xs.length∧Pv i σ H,⟨xs.length,by simp,bO _,h0⟩,?_⟩
 rintro i m σ H ⟨rfl,hi,p⟩;have q:=hl i σ H hi p;by_cases bP:i<xs.length
 ·refine .inr ⟨⟨xs,xs[i],q,by simp [bP]⟩,Pv (i+1),fun σ' H' p'=>⟨xs.length-(i+1),by lia,rfl,bP,p'⟩,fun x H' y=>?_⟩
  obtain ⟨e,y⟩:=y;subst e;exact hs i x σ _ (y xs q) p
 ·have e:i=xs.length:=by lia
  subst e;exact .inl ⟨⟨xs,q,aO _⟩,hd σ H p⟩
theorem Fe{a:Addr}(Pv:Nat→St→Hp→Prop)(h0:Pv 0 σ H)(hl:∀i σ H,i≤xs.length→Pv i σ H→dU K H a xs)
  (hs:∀i x σ H,xs[i]?=some x→Pv i σ H→g x σ H fun σ2 H2=>tb {D with nx:=Pv (i+1),ct:=Pv (i+1),bk:=D.nx} σ2 H2) (hd:∀σ H,Pv xs.length σ H→D.nx σ H) :
  ∃W:Nat→Nat→St→Hp→Prop,(∃m,W 0 m σ H)∧∀i m σ H,W i m σ H→
   ((qW K a).stop i H∧D.nx σ H)∨((qW K a).go i H∧∃N:St→Hp→Prop,(∀σ' H',N σ' H'→∃m',m'<m∧W (i+1) m' σ' H')∧∀x H',(qW K a).dW i H x H'→g x σ H' fun σ2 H2=>tb {D with nx:=N,ct:=N,bk:=D.nx} σ2 H2):=by
 refine ⟨fun i m σ H=>m=xs.length-i∧i≤xs.length∧Pv i σ H,⟨xs.length,by simp,bO _,h0⟩,?_⟩
 rintro i m σ H ⟨rfl,hi,p⟩;have q:=hl i σ H hi p;by_cases bP:i<xs.length
 ·refine .inr ⟨⟨xs,xs[i],q,by simp [bP]⟩,Pv (i+1),fun σ' H' p'=>⟨xs.length-(i+1),by lia,rfl,bP,p'⟩,fun x H' y=>?_⟩
  obtain ⟨e,y⟩:=y;subst e;exact hs i x σ _ (y xs q) p
 ·have e:i=xs.length:=by lia
  subst e;exact .inl ⟨⟨xs,q,aO _⟩,hd σ H p⟩
variable {n:Nat}
theorem mi{lo:Int}(Pv:Nat→St→Hp→Prop)(h0:Pv 0 σ H)
  (hs:∀i σ H,i<n→Pv i σ H→g (.int (lo+i)) σ H fun σ2 H2=>tb {D with nx:=Pv (i+1),ct:=Pv (i+1),bk:=D.nx} σ2 H2) (hd:∀σ H,Pv n σ H→D.nx σ H) :
  ∃W:Nat→Nat→St→Hp→Prop,(∃m,W 0 m σ H)∧∀i m σ H,W i m σ H→
   ((kL lo n).stop i H∧D.nx σ H)∨((kL lo n).go i H∧∃N:St→Hp→Prop,(∀σ' H',N σ' H'→∃m',m'<m∧W (i+1) m' σ' H')∧∀x H',(kL lo n).dW i H x H'→g x σ H' fun σ2 H2=>tb {D with nx:=N,ct:=N,bk:=D.nx} σ2 H2):=by
 refine ⟨fun i m σ H=>m=n-i∧i≤n∧Pv i σ H,⟨n,by simp,bO _,h0⟩,?_⟩
 rintro i m σ H ⟨rfl,hi,p⟩;by_cases bP:i<n
 ·refine .inr ⟨bP,Pv (i+1),fun σ' H' p'=>⟨n-(i+1),by lia,rfl,bP,p'⟩,fun x H' y=>?_⟩
  obtain ⟨e,y⟩:=y;subst e y;exact hs i σ _ bP p
 ·have e:i=n:=by lia
  subst e;exact .inl ⟨aO _,hd σ H p⟩
abbrev R2:=V→V→Hp→VK→Prop
def cC(X:Cx)(f:Value→Value→Sem Value)(r:R2):Prop:=
 ∀(pins:aZ) (s:Shared) (σ:St) (H:Hp) (x y:V) (v u:Value) (Q:VK),Inv X pins σ H s→RelV x v→RelV y u→r x y H Q→
  wpAny (model X.prog X.w) X.A (f v u) (EP X pins σ Q) X.xe s
def AO(X:Cx)(f:Value→Sem Value)(r:V→Hp→VK→Prop):Prop:=
 ∀(pins:aZ) (s:Shared) (σ:St) (H:Hp) (x:V) (v:Value) (Q:VK),Inv X pins σ H s→RelV x v→r x H Q→
  wpAny (model X.prog X.w) X.A (f v) (EP X pins σ Q) X.xe s
def jR(X:Cx)(f:Value)(r:List V→Hp→VK→Prop):Prop:=
 ∀(pins:aZ) (s:Shared) (σ:St) (H:Hp) (xs:List V) (us:List Value) (Q:VK),Inv X pins σ H s→Vals xs us→r xs H Q→
  wpAny (model X.prog X.w) X.A (call f us) (EP X pins σ Q) X.xe s
def kP(r:R2)(ta tb:TE):TE:=fun σ H Q=>ta σ H fun x H1=>tb σ H1 fun y H2=>r x y H2 Q
def MN(r:V→Hp→VK→Prop)(ta:TE):TE:=fun σ H Q=>ta σ H fun x H1=>r x H1 Q
def rI(C:Int→Int→Prop)(g:Int→Int→V):R2:=fun x y H Q=>∃i j,x=.int i∧y=.int j∧C i j∧Q (g i j) H
def mj(g:Int→Int→V):R2:=fun x y H Q=>∃i j,x=.int i∧y=.int j∧Q (g i j) H
def rU(g:Int→V):V→Hp→VK→Prop:=fun x H Q=>∃i,x=.int i∧Q (g i) H
section
variable {X:Cx} {a b c:Expr} {ta tb tc:TE} {pos:Pos}
variable {f:Value→Value→Sem Value}
theorem AQ(ha:PE X a ta)(hb:PE X b tb){pins:aZ}{R:V→V→Hp→Prop}(I:Inv X pins σ H s)
  (h:ta σ H fun x H1=>tb σ H1 fun y H2=>R x y H2) {Q:bV}
  (hf:∀v u s2 x y H2,Inv X pins σ H2 s2→RelV x v→RelV y u→R x y H2→wpAny (model X.prog X.w) X.A (f v u) Q X.xe s2) :
  wpAny (model X.prog X.w) X.A (eval a X.env) (fun v s₁=>wpAny (model X.prog X.w) X.A (eval b X.env) (fun u s₂=>wpAny (model X.prog X.w) X.A (f v u) Q X.xe s₂) X.xe s₁) X.xe s:=by
 refine aB (ha pins s σ H _ I h) fun v s1 ⟨x,H1,I1,r1,q1⟩=>?_;refine aB (hb pins s1 σ H1 _ I1 q1) fun u s2 ⟨y,H2,I2,r2,q2⟩=>?_;exact hf v u s2 x y H2 I2 r1 r2 q2
theorem av{op:Operator}{r:R2}(ho:cC X (binaryOp op) r)(ha:PE X a ta)(hb:PE X b tb):PE X (.BinOp a op b pos) (kP r ta tb):=by intro pins s σ H Q I h;exact wpAny_BinOp (AQ ha hb I h fun v u s2 x y H2 I2 rx ry q=>ho pins s2 σ H2 x y v u Q I2 rx ry q)
theorem iH{op:UnaryOp}{r:V→Hp→VK→Prop}(ho:AO X (unaryOp op) r)(ha:PE X a ta):PE X (.UnaryOp op a pos) (MN r ta):=by intro pins s σ H Q I h;exact UnaryOp_ (aB (ha pins s σ H _ I h) fun v s1 ⟨x,H1,I1,r1,q1⟩=>ho pins s1 σ H1 x v Q I1 r1 q1)
theorem oy{C:Int→Int→Prop}{g:Int→Int→Int}
  (rule:∀(i j:Int) (t u:Tok) (s:Shared) (Q:bV) (E:bV),C i j→Q (.int (g i j) s.toks) {s with toks:=s.toks+1}→wpAny (model X.prog X.w) X.A (f (.int i t) (.int j u)) Q E s) :
  cC X f (rI C fun i j=>.int (g i j)):=by
 intro pins s σ H x y v u Q I rx ry h;obtain ⟨i,j,rfl,rfl,hc,q⟩:=h;obtain ⟨t,rfl⟩:=rx;obtain ⟨t',rfl⟩:=ry;exact rule i j t t' s _ _ hc ⟨.int (g i j),H,I.tok _,⟨_,rfl⟩,q⟩
theorem Ff{g:Int→Int→Int}
  (rule:∀(i j:Int) (t u:Tok) (s:Shared) (Q:bV) (E:bV),Q (.int (g i j) s.toks) {s with toks:=s.toks+1}→wpAny (model X.prog X.w) X.A (f (.int i t) (.int j u)) Q E s) :
  cC X f (mj fun i j=>.int (g i j)):=by
 intro pins s σ H x y v u Q I rx ry h;obtain ⟨i,j,rfl,rfl,q⟩:=h;obtain ⟨t,rfl⟩:=rx;obtain ⟨t',rfl⟩:=ry;exact rule i j t t' s _ _ ⟨.int (g i j),H,I.tok _,⟨_,rfl⟩,q⟩
theorem xO{g:Int→Int→Bool}
  (rule:∀(i j:Int) (t u:Tok) (s:Shared) (Q:bV) (E:bV),Q (.bool (g i j)) s→wpAny (model X.prog X.w) X.A (f (.int i t) (.int j u)) Q E s) :
  cC X f (mj fun i j=>.bl (g i j)):=by
 intro pins s σ H x y v u Q I rx ry h;obtain ⟨i,j,rfl,rfl,q⟩:=h;obtain ⟨t,rfl⟩:=rx;obtain ⟨t',rfl⟩:=ry;exact rule i j t t' s _ _ ⟨.bl (g i j),H,I,rfl,q⟩
def MO(i j:Int):Prop:=0<j∧j<1073741824
def MP(i j:Int):Prop:=0≤j∧j≤1000000∧i.natAbs<2 ^ 64
def AR(i j:Int):Prop:=(-(2 ^ 64)<i∧i<2 ^ 64)∨(-(2 ^ 64)<j∧j<2 ^ 64)
theorem AR.ok{i j:Int}(h:AR i j):IntMulOk i j:=by
 rcases h with ⟨h1,h2⟩ | ⟨h1,h2⟩;·exact .of_left (intBits_le_64 h1 h2)
 ·exact .of_right (intBits_le_64 h1 h2)
theorem eE:cC X (binaryOp .Add) (mj fun i j=>.int (i+j)):=Ff fun _ _ _ _ _ _ _ q=>add_int q
theorem fH:cC X (binaryOp .Sub) (mj fun i j=>.int (i-j)):=Ff fun _ _ _ _ _ _ _ q=>sub_int q
theorem fS:cC X (binaryOp .Mult) (rI AR fun i j=>.int (i*j)):=oy fun _ _ _ _ _ _ _ hc q=>mul_int q hc.ok
theorem Fg:cC X (binaryOp .FloorDiv) (rI MO fun i j=>.int (i / j)):=oy fun i j _ _ _ _ _ hc q=>by have h1:(0:Int)<j:=hc.1;have h2:j<1073741824:=hc.2;exact floordiv_int (by lia) (by rw [uO i (by lia)];exact q) (.inl (PyProof.noPylong_small (by lia)))
theorem fj:cC X (binaryOp .Mod) (rI (fun _ j=>0<j) fun i j=>.int (i % j)):=oy fun i j _ _ _ _ _ hc q=>by have h1:(0:Int)<j:=hc;exact mod_int' (by lia) (by rw [Int.fmod_eq_emod_of_nonneg i (by lia)];exact q)
theorem Fh:cC X (binaryOp .Pow) (rI MP fun i j=>.int (i ^ j.toNat)):=oy fun _ _ _ _ _ _ _ hc q=>pow_int_small hc.1 hc.2.1 hc.2.2 q
theorem MQ{f:Value→Sem Value}{g:Int→Int}
  (rule:∀(i:Int) (t:Tok) (s:Shared) (Q:bV) (E:bV),Q (.int (g i) s.toks) {s with toks:=s.toks+1}→wpAny (model X.prog X.w) X.A (f (.int i t)) Q E s) :
  AO X f (rU fun i=>.int (g i)):=by
 intro pins s σ H x v Q I rx h;obtain ⟨i,rfl,q⟩:=h;obtain ⟨t,rfl⟩:=rx;exact rule i t s _ _ ⟨.int (g i),H,I.tok _,⟨_,rfl⟩,q⟩
theorem iI:AO X (unaryOp .USub) (rU fun i=>.int (-i)):=MQ fun _ _ _ _ _ q=>neg_int q
end
def AS:V→V→Bool
 | .aH,.aH=>true | .aH,.int _=>true | .int _,.aH=>true | .aH,.bl _=>true | .bl _,.aH=>true | .aH,.str _=>true | .str _,.aH=>true
 | .int _,.int _=>true | .bl _,.bl _=>true | .str _,.str _=>true | .iD _,.iD _=>true
 | .int _,.str _=>true | .str _,.int _=>true | .bl _,.str _=>true | .str _,.bl _=>true
 | _,_=>false
def Fi:R2:=fun x y H Q=>AS x y=true∧Q (.bl (decide (x=y))) H
def Fj:R2:=fun x y H Q=>AS x y=true∧Q (.bl (!decide (x=y))) H
theorem Fl{i j:Int}:decide (V.int i=V.int j)=(i == j):=by rw [uP];simp
theorem Fm{i j:Bool}:decide (V.bl i=V.bl j)=(i == j):=by rw [uP];simp
theorem Fn{i j:Str}:decide (V.str i=V.str j)=(i == j):=by rw [uP];simp
theorem Fo{i j:Array UInt8}:decide (V.iD i=V.iD j)=(i.toList == j.toList):=by rw [uP];cases i;cases j;simp
section
variable {X:Cx} {a b c:Expr} {ta tb tc:TE} {pos:Pos}
theorem cS{pins:aZ}{Q:VK}{k k':Bool}(I:Inv X pins σ H s)(q:Q (.bl k) H)(e:k=k'):EP X pins σ Q (.bool k') s:=by subst e;exact ⟨.bl k,H,I,rfl,q⟩
theorem fI:cC X (compareOp .Eq) Fi:=by
 intro pins s σ H x y v u Q I rx ry h;obtain ⟨hs,q⟩:=h;cases x with
 | aH=>
  cases rx;cases y with
  | aH=>cases ry;exact PySem.EqNone.eq_none_none (cS I q (by simp))
  | bl j=>cases ry;exact PySem.EqNone.eq_none_bool (cS I q (by simp))
  | int j=>obtain ⟨t',rfl⟩:=ry;exact PySem.EqNone.eq_none_int (cS I q (by simp))
  | str j=>obtain ⟨t',rfl⟩:=ry;exact PySem.EqNone.eq_none_str (cS I q (by simp))
  | _=>exact absurd (show false=true from hs) cZ
 | bl i=>
  cases rx;cases y with
  | aH=>cases ry;exact PySem.EqNone.eq_bool_none (cS I q (by simp))
  | bl j=>cases ry;exact eq_bool (cS I q Fm)
  | str j=>obtain ⟨t',rfl⟩:=ry;exact PySem.EqMixed.eq_bool_str (cS I q (by simp))
  | _=>exact absurd (show false=true from hs) cZ
 | int i=>
  obtain ⟨t,rfl⟩:=rx;cases y with
  | aH=>cases ry;exact PySem.EqNone.eq_int_none (cS I q (by simp))
  | int j=>obtain ⟨t',rfl⟩:=ry;exact eq_int (cS I q Fl)
  | str j=>obtain ⟨t',rfl⟩:=ry;exact PySem.EqMixed.eq_int_str (cS I q (by simp))
  | _=>exact absurd (show false=true from hs) cZ
 | str i=>
  obtain ⟨t,rfl⟩:=rx;cases y with
  | aH=>cases ry;exact PySem.EqNone.eq_str_none (cS I q (by simp))
  | bl j=>cases ry;exact PySem.EqMixed.eq_str_bool (cS I q (by simp))
  | int j=>obtain ⟨t',rfl⟩:=ry;exact PySem.EqMixed.eq_str_int (cS I q (by simp))
  | str j=>obtain ⟨t',rfl⟩:=ry;exact eq_str (cS I q Fn)
  | _=>exact absurd (show false=true from hs) cZ
 | iD i=>
  obtain ⟨t,rfl⟩:=rx;cases y with
  | iD j=>obtain ⟨t',rfl⟩:=ry;exact PySem.W.eq_bytes (cS I q Fo)
  | _=>exact absurd (show false=true from hs) cZ
 | _=>cases y <;> exact absurd (show false=true from hs) cZ
theorem qX:cC X (compareOp .NotEq) Fj:=by
 intro pins s σ H x y v u Q I rx ry h;obtain ⟨hs,q⟩:=h;cases x with
 | aH=>
  cases rx;cases y with
  | aH=>cases ry;exact PySem.EqNone.ne_none_none (cS I q (by simp))
  | bl j=>cases ry;exact PySem.EqNone.ne_none_bool (cS I q (by simp))
  | int j=>obtain ⟨t',rfl⟩:=ry;exact PySem.EqNone.ne_none_int (cS I q (by simp))
  | str j=>obtain ⟨t',rfl⟩:=ry;exact PySem.EqNone.ne_none_str (cS I q (by simp))
  | _=>exact absurd (show false=true from hs) cZ
 | bl i=>
  cases rx;cases y with
  | aH=>cases ry;exact PySem.EqNone.ne_bool_none (cS I q (by simp))
  | bl j=>cases ry;exact ne_bool (cS I q (fL not Fm))
  | str j=>obtain ⟨t',rfl⟩:=ry;exact PySem.EqMixed.ne_bool_str (cS I q (by simp))
  | _=>exact absurd (show false=true from hs) cZ
 | int i=>
  obtain ⟨t,rfl⟩:=rx;cases y with
  | aH=>cases ry;exact PySem.EqNone.ne_int_none (cS I q (by simp))
  | int j=>obtain ⟨t',rfl⟩:=ry;exact ne_int (cS I q (fL not Fl))
  | str j=>obtain ⟨t',rfl⟩:=ry;exact PySem.EqMixed.ne_int_str (cS I q (by simp))
  | _=>exact absurd (show false=true from hs) cZ
 | str i=>
  obtain ⟨t,rfl⟩:=rx;cases y with
  | aH=>cases ry;exact PySem.EqNone.ne_str_none (cS I q (by simp))
  | bl j=>cases ry;exact PySem.EqMixed.ne_str_bool (cS I q (by simp))
  | int j=>obtain ⟨t',rfl⟩:=ry;exact PySem.EqMixed.ne_str_int (cS I q (by simp))
  | str j=>obtain ⟨t',rfl⟩:=ry;exact ne_str (cS I q (fL not Fn))
  | _=>exact absurd (show false=true from hs) cZ
 | iD i=>
  obtain ⟨t,rfl⟩:=rx;cases y with
  | iD j=>obtain ⟨t',rfl⟩:=ry;exact PySem.W.ne_bytes (cS I q (fL not Fo))
  | _=>exact absurd (show false=true from hs) cZ
 | _=>cases y <;> exact absurd (show false=true from hs) cZ
theorem i9:cC X (compareOp .Lt) (mj fun i j=>.bl (decide (i<j))):=xO fun _ _ _ _ _ _ _ q=>lt_int q
theorem xP:cC X (compareOp .LtE) (mj fun i j=>.bl (decide (i≤j))):=xO fun _ _ _ _ _ _ _ q=>le_int q
theorem kR:cC X (compareOp .Gt) (mj fun i j=>.bl (decide (j<i))):=xO fun _ _ _ _ _ _ _ q=>gt_int q
theorem xQ:cC X (compareOp .GtE) (mj fun i j=>.bl (decide (j≤i))):=xO fun _ _ _ _ _ _ _ q=>ge_int q
theorem AU:cC X (compareOp .Is) (fun x y H Q=>y=.aH∧Q (.bl (decide (x=.aH))) H):=by
 intro pins s σ H x y v u Q I rx ry h;obtain ⟨rfl,q⟩:=h;cases ry;refine is_none_gen (cS I q ?_)
 cases x <;> first
  | (cases rx;rfl)
  | (obtain ⟨t,rfl⟩:=rx;rfl)
variable {op:CmpOp}
theorem xR(b:Expr)(h:op≠.In:=by decide)(h2:op≠.NotIn:=by decide):behindInMarks op b=false:=by
 have e1:(op == CmpOp.In)=false:=by cases op <;> first | rfl | exact absurd rfl h
 have e2:(op == CmpOp.NotIn)=false:=by cases op <;> first | rfl | exact absurd rfl h2
 cases b <;> simp [behindInMarks,e1,e2]
variable {r:R2}
theorem MR(ho:cC X (compareOp op) r)(ha:PE X a ta)(hb:PE X b tb)(hm:behindInMarks op b=false):PE X (.Compare a [op] [b] pos) (kP r ta tb):=by intro pins s σ H Q I h;exact wpAny_Compare1 (AQ ha hb I h fun v u s2 x y H2 I2 rx ry q=>ho pins s2 σ H2 x y v u Q I2 rx ry q) hm
theorem vg{a:Expr}(ho:cC X (compareOp op) r)(ha:PE X a ta)(hb:PE X b tb)(hm:behindInMarks op b=false:=by exact xR _):PE X (.Compare a [op] [b] pos) (kP r ta tb):=MR ho ha hb hm
def AV(t:TE):TT:=fun σ H Q=>t σ H fun x H'=>∃k,x=.bl k∧Q k H'
theorem AW{op:CmpOp}{r:R2}(ho:cC X (compareOp op) r)(ha:PE X a ta)(hb:PE X b tb)(hm:behindInMarks op b=false):PT X (.Compare a [op] [b] pos) (AV (kP r ta tb)):=by intro pins s σ H Q I h;refine wpAny_isTrue_Compare1 (aB (ha pins s σ H _ I h) fun v s1 ⟨x,H1,I1,r1,q1⟩=>aB (hb pins s1 σ H1 _ I1 q1) fun u s2 ⟨y,H2,I2,r2,q2⟩=>aB (ho pins s2 σ H2 x y v u _ I2 r1 r2 q2) fun c s3 ⟨z,H3,I3,r3,k,e,q3⟩=>?_) hm;subst e;cases r3;exact nJ ⟨H3,I3,q3⟩
theorem a7{a:Expr}(ho:cC X (compareOp op) r)(ha:PE X a ta)(hb:PE X b tb)(hm:behindInMarks op b=false:=by exact xR _):PT X (.Compare a [op] [b] pos) (AV (kP r ta tb)):=AW ho ha hb hm
def MS(r r':R2)(ta tb tc:TE):TE:=fun σ H Q=>ta σ H fun x H1=>tb σ H1 fun y H2=>r x y H2 fun z H3=>∃k,z=.bl k ∧
 (if k=true then tc σ H3 fun w' H4=>r' y w' H4 Q else Q (.bl false) H3)
theorem Fp{AX:CmpOp}{r':R2}(ho:cC X (compareOp op) r)(kH:cC X (compareOp AX) r')(ha:PE X a ta)(hb:PE X b tb)(hc:PE X c tc)
  (hm:lastMarks [op,AX] [b,c]=false:=by with_unfolding_all rfl):PE X (.Compare a [op,AX] [b,c] pos) (MS r r' ta tb tc):=by
 intro pins s σ H Q I h;refine Compare_chain (aB (ha pins s σ H _ I h) fun v s1 ⟨x,H1,I1,r1,q1⟩=>chain_link (aB (hb pins s1 σ H1 _ I1 q1) fun u s2 ⟨y,H2,I2,r2,q2⟩=>aB (ho pins s2 σ H2 x y v u _ I2 r1 r2 q2) fun d s3 ⟨z,H3,I3,r3,k,e,q3⟩=>?_)) hm;subst e;cases r3;refine nJ ?_;cases k with
 | false=>exact ite_ff ⟨.bl false,H3,I3,rfl,q3⟩
 | true=>exact ite_tt (chain_last (aB (hc pins s3 σ H3 _ I3 q3) fun w' s4 ⟨z',H4,I4,r4,q4⟩=>kH pins s4 σ H4 y z' u w' Q I4 r2 r4 q4))
theorem vh:(sizeLine:Nat)<2 ^ 63:=by rw [sizeLine_eq];decide
theorem vals1(r:Vals [x] us):∃u,us=[u]∧RelV x u:=by
 cases r with
 | cons r1 r2=>cases r2;exact ⟨_,rfl,r1⟩
theorem vals2{y:V}(r:Vals [x,y] us):∃u w',us=[u,w']∧RelV x u∧RelV y w':=by
 cases r with
 | cons r1 r2=>
  cases r2 with
  | cons r3 r4=>cases r4;exact ⟨_,_,rfl,r1,r3⟩
theorem xS:jR X (.builtin "abs") (fun xs H Q=>∃i,xs=[.int i]∧Q (.int (if i<0 then -i else i)) H):=by intro pins s σ H xs us Q I r h;obtain ⟨i,rfl,q⟩:=h;obtain ⟨u,rfl,t,rfl⟩:=vals1 r;exact call_abs_int fun u tk=>⟨.int (if i<0 then -i else i),H,I.tok _,⟨_,rfl⟩,q⟩
theorem Fq(hc:X.calm=true):jR X (.builtin "max") (fun xs H Q=>∃i j,xs=[.int i,.int j]∧Q (.int (if j>i then j else i)) H):=by
 intro pins s σ H xs us Q I r h;obtain ⟨i,j,rfl,q⟩:=h;obtain ⟨u,w',rfl,⟨t,rfl⟩,⟨t',rfl⟩⟩:=vals2 r;refine max_two_ints (I.ok.hd hc) fun h' tk k=>⟨_,H,I.kept k,?_,q⟩;by_cases hj:j>i;·rw [au hj,au hj];exact ⟨_,rfl⟩
 ·rw [ar hj,ar hj];exact ⟨_,rfl⟩
theorem MT(hc:X.calm=true):jR X (.builtin "min") (fun xs H Q=>∃i j,xs=[.int i,.int j]∧Q (.int (if j<i then j else i)) H):=by
 intro pins s σ H xs us Q I r h;obtain ⟨i,j,rfl,q⟩:=h;obtain ⟨u,w',rfl,⟨t,rfl⟩,⟨t',rfl⟩⟩:=vals2 r;refine min_two_ints (I.ok.hd hc) fun h' tk k=>⟨_,H,I.kept k,?_,q⟩;by_cases hj:j<i;·rw [au hj,au hj];exact ⟨_,rfl⟩
 ·rw [ar hj,ar hj];exact ⟨_,rfl⟩
end
structure oz (h:Heap) (x dx C:Addr) (mA:dh):Prop where
 obj:h.get? x=some (PySem.W.instObj C dx)
 ns:h.Ns1 dx mA
 ne:dx≠x
variable {dx:Addr} {mA:dh}
theorem MU(n:h.Ns1 dx mA):∃od,h.get? dx=some od∧∀name,PySem.W.lookIn name od=some (mA name):=by
 obtain ⟨o,es,ep,ho,hd,hk,_,hm⟩:=n;refine ⟨o,ho,fun name=>?_⟩;have e:=hm name;unfold nsFind findBy at e;rw [←Array.find?_toList] at e;unfold PySem.W.lookIn;rw [hd];dsimp only
 split
 ·rename_i y q
  rw [q] at e;exact fL some e
 ·rename_i q
  rw [q] at e;have a:es.toList.any (·.refKey)=false:=by rw [List.any_eq_false];intro y hy;obtain ⟨z,t,MV⟩:=hk y (Array.mem_toList_iff.mp hy);simp [DictEntry.refKey,MV]
  have a':¬es.toList.any (·.refKey)=true:=by rw [a];exact cZ
  rw [ar a'];exact fL some e
variable {C:Addr}
theorem oz.look{x:Addr}(I:oz h x dx C mA):∃od,PySem.W.InstAt h x (PySem.W.instObj C dx) C (some od)∧∀name,PySem.W.lookIn name od=some (mA name):=
 let ⟨od,ho,hl⟩:=MU I.ns
 ⟨od,⟨I.obj,rfl,rfl,ho⟩,hl⟩
section
variable {prog:Program} {w:World} {A:Around} {E:bV} {s:Shared} {K:ax} {x dx C f:Addr} {mA:dh} {name:Str} {v:Value}
theorem get_map{expr:Bool}{Q:bV}(X:K.In s.heap)(I:oz s.heap x dx C mA)(hg:PySem.W.plainGet K C name=true)(hh:PySem.W.hasDictIn K C=true)
  (ha:PySem.W.findIn K (.ref C) name=some none) (hv:mA name=some v) (qY:PySem.W.handedIn v=true) (h:Q v {s with toks:=s.toks+1}) :
  wpAny (model prog w) A (getAttr (.ref x) name expr) Q E s:=by
 obtain ⟨od,J,hl⟩:=I.look;exact PySem.W.get_value X J (PySem.W.plainGet_of hg).1 (PySem.W.findObj_own hh ha rfl (by rw [hl,hv])) qY h
theorem MW{pl:Sem Bool}{Q:Value×List Value→Shared→Prop}(X:K.In s.heap)(I:oz s.heap x dx C mA)(hg:PySem.W.plainGet K C name=true)
  (hf:PySem.W.findIn K (.ref C) name=some (some (.ref f))) (ht:PySem.W.isFn K (.ref f)=true) (hv:mA name=none) (h:Q (.ref f,[.ref x]) s) :
  wpAny (model prog w) A (getMethod (.ref x) name pl) Q E s:=by
 obtain ⟨od,J,hl⟩:=I.look;exact PySem.W.method_fn X J (PySem.W.plainGet_of hg).1 (PySem.W.plainGet_of hg).2 hf (jz.mp ht) (by show (PySem.W.lookIn name od).map (·.isSome)=some false;rw [hl,hv];rfl) h
theorem MX{ns:List Str}{Q:Unit→Shared→Prop}(X:K.In s.heap)(I:oz s.heap x dx C mA)
  (hs:PySem.W.findIn K (.ref C) "__setattr__"=some (some (.builtin "object.__setattr__"))) (hp:PySem.W.plainOver K C=true) (ht:PySem.W.takerIn K C name=some none) (hh:PySem.W.hasDictIn K C=true)
  (hw:PySem.Within mA ns) (Fs:ns.length≤sizeLine)
  (h:∀h',oz h' x dx C (fun y=>if y=name then some v else mA y)→Heap.SameBut dx s.heap h'→Q () {s with heap:=h',toks:=s.toks+2}) :
  wpAny (model prog w) A (setAttr (.ref x) name v) Q E s:=by
 obtain ⟨od,J,hl⟩:=I.look;refine PySem.W.set_plain X J hs (PySem.W.osa_open (s:={s with toks:=s.toks+1}) (r:=none) X J hp ht fun b=>?_);obtain ⟨cd,hc,kI⟩:=PySem.W.any_some hh;have hx:s.heap.get? x=some ⟨.ref C,some dx,.plain,#[]⟩:=I.obj;refine cw (d0 (cw (cw (wpAny_loadPart hx (cw (PySem.W.Looks.here (s:={s with toks:=s.toks+1}) (PySem.W.looks_clsIn X hc) ?_))))));rw [kI];refine d0 (a:=some dx) (cw (d0 (cw ?_)));refine wpAny_nsSet1 (s:={s with toks:=s.toks+1}) I.ns fun h' qZ jS=>?_;obtain ⟨oD,X2,Ya,MY,MZ,M0⟩:=qZ.count (PySem.Within.cons name v hw);refine cw (wpAny_lookBehind MY (by rw [MZ];exact pastItsLine_dict (ai M0 (by rw [d9];lia))) ?_)
 exact d0 (h _ ⟨(jS.2 _ (Ne.symm I.ne)).trans I.obj,qZ,I.ne⟩ jS)
theorem M1{R:Result→Shared→Prop}{vs:List Value}{kw:List (Str×Value)}(X:K.In s.heap)(hm:PySem.W.makesIn K C=true)
  (hi:PySem.W.findIn K (.ref C) "__init__"=some (some (.ref f))) (hf:PySem.W.typeIn K (.ref f)=some (.type "function"))
  (h:codeAny (model prog w) (A.under (.builtin "type.__call__" ⟨.ref C::vs,kw⟩)) (.call (.ref f) ⟨.ref (s.heap.objs.size+1)::vs,kw⟩) (PySem.W.InitBack (s.heap.objs.size+1) R)
   {s with heap:=(s.heap.push PySem.W.emptyDict).push (PySem.W.instObj C s.heap.objs.size)}) :
  codeAny (model prog w) A (.call (.ref C) ⟨vs,kw⟩) R s:=by
 obtain ⟨hh,g,d,t,os⟩:=s;exact PySem.W.make_core (PySem.W.makes_of X hm) (xc X hi) (fun self=>PySem.W.bind_fn X self hf) (.inl rfl) h
end
def fT(f:Str)(v:V):List (Str×V)→List (Str×V)
 | []=>[(f,v)]
 | (g,x)::r=>if g=f then (g,v)::r else (g,x)::fT f v r
theorem Ft(f g:Str)(v:V):∀fs:List (Str×V),(fT f v fs).lookup g=if g=f then some v else fs.lookup g
 | []=>by
  show List.lookup g [(f,v)]=_;by_cases h:g=f
  ·have hb:(g == f)=true:=jz.mpr h
   simp only [List.lookup,hb,au h]
  ·have hb:(g == f)=false:=uJ.mpr h
   simp only [List.lookup,hb,ar h]
 | (k,x)::r=>by
  have ih:=Ft f g v r;rw [show fT f v ((k,x)::r)=(if k=f then (k,v)::r else (k,x)::fT f v r) from rfl]
  by_cases hk:k=f
  ·rw [au hk]
   by_cases h:g=k
   ·have hb:(g == k)=true:=jz.mpr h
    simp only [List.lookup,hb,au (h.trans hk)]
   ·have hb:(g == k)=false:=uJ.mpr h
    simp only [List.lookup,hb,ar (fun e:g=f=>h (e.trans hk.symm))]
  ·rw [ar hk]
   by_cases h:g=k
   ·have hb:(g == k)=true:=jz.mpr h
    simp only [List.lookup,hb,ar (fun e:g=f=>hk (h.symm.trans e))]
   ·have hb:(g == k)=false:=uJ.mpr h
    simp only [List.lookup,hb];exact ih
theorem AY(f:Str)(v:V):∀fs:List (Str×V),f∈(fT f v fs).map (·.1)∧∀g,g∈fs.map (·.1)→g∈(fT f v fs).map (·.1)
 | []=>⟨by simp [fT],fun g h=>by simp at h⟩
 | (k,x)::r=>by
  obtain ⟨i1,i2⟩:=AY f v r;rw [show fT f v ((k,x)::r)=(if k=f then (k,v)::r else (k,x)::fT f v r) from rfl]
  by_cases hk:k=f
  ·rw [au hk]
   subst hk;exact ⟨by simp,fun g h=>by simpa using h⟩
  ·rw [ar hk]
   refine ⟨?_,fun g h=>?_⟩
   ·rw [nO]
    exact gW _ i1
   ·rw [nO] at h ⊢
    rcases dH.mp h with e | e;·exact dH.mpr (.inl e)
    ·exact gW _ (i2 g e)
theorem Fu(f:Str)(v:V):∀fs:List (Str×V),(fT f v fs).length≤fs.length+1
 | []=>by simp [fT]
 | (k,x)::r=>by
  have ih:=Fu f v r;rw [show fT f v ((k,x)::r)=(if k=f then (k,v)::r else (k,x)::fT f v r) from rfl]
  by_cases hk:k=f;·rw [au hk,d9,d9];lia
  ·rw [ar hk,d9,d9];lia
variable {v:V}
theorem jK.some_of{o:Option Value}(r:jK (some v) o):∃u,o=some u∧RelV v u:=by
 cases o with
 | none=>exact (show False from r).elim
 | some u=>exact ⟨u,rfl,r⟩
theorem jK.none_of{o:Option Value}(r:jK none o):o=none:=by
 cases o with
 | none=>rfl
 | some u=>exact (show False from r).elim
theorem M3{u:Value}(r:RelV v u):PySem.W.handedIn u=true:=by
 cases v with
 | aH=>cases (show u=Value.none from r);rfl
 | bl b=>cases (show u=Value.bool b from r);rfl
 | int i=>obtain ⟨t,e⟩:=(show ∃t,u=Value.int i t from r);cases e;rfl
 | str x=>obtain ⟨t,e⟩:=(show ∃t,u=Value.str x t from r);cases e;rfl
 | iD b=>obtain ⟨t,e⟩:=(show ∃t,u=Value.bytes b t from r);cases e;rfl
 | og b=>obtain ⟨t,e⟩:=(show ∃t,u=Value.float b t from r);cases e;rfl
 | ref a=>cases (show u=Value.ref a from r);rfl
 | ty n=>cases (show u=Value.type n from r);rfl
section
variable {P:Program} {w:World} {H H':Hp} {h h':Heap} {a C dx:Addr} {fs L5:List (Str×V)}
theorem xT(ay:cJ P w H h)(e:H a=some (.ins C dx fs)):∃mA,oz h a dx C mA∧(∀f,jK (fs.lookup f) (mA f))∧PySem.Within mA (fs.map (·.1))∧fs.length≤1000∧H dx=some (.own a):=by obtain ⟨d,z,ne,ob,mA,n,r,q⟩:=(show d5 P w H h a (.ins C dx fs) from ay a _ e);exact ⟨mA,⟨ob,n,ne⟩,r,q,z,d⟩
end
structure i_ (K:ax) (C:Addr):Prop where
 pg:PySem.W.plainGet K C Str.empty=true
 hd:PySem.W.hasDictIn K C=true
 po:PySem.W.plainOver K C=true
 sa:PySem.W.findIn K (.ref C) "__setattr__"=some (some (.builtin "object.__setattr__"))
theorem i_.get{K:ax}{C:Addr}(c:i_ K C)(f:Str):PySem.W.plainGet K C f=true:=c.pg
def oA(K:ax)(C:Addr)(f:Str):Prop:=PySem.W.findIn K (.ref C) f=some none
theorem oA.M4{f:Str}(n:oA K C f):PySem.W.takerIn K C f=some none:=by unfold PySem.W.takerIn;rw [show PySem.W.findIn K (.ref C) f=some none from n];rfl
structure Meth (K:ax) (C:Addr) (m:Str) (f:Addr):Prop where
 at_:PySem.W.findIn K (.ref C) m=some (some (.ref f))
 fn:PySem.W.isFn K (.ref f)=true
 kp:PySem.W.keepIn K (.ref f)=true
section
variable {X:Cx} {pins:aZ} {σ:St} {H:Hp} {s:Shared} {a C dx:Addr} {fs:List (Str×V)} {f:Str} {v:V} {A:Around} {E:bV}
variable {Q:bV}
theorem M5{b:Bool}(I:Inv X pins σ H s)(e:H a=some (.ins C dx fs))(c:i_ X.K C)(n:oA X.K C f)(l:fs.lookup f=some v)
  (h:∀u s',Inv X pins σ H s'→RelV v u→Q u s'):wpAny (model X.prog X.w) A (getAttr (.ref a) f b) Q E s:=by
 obtain ⟨mA,O,r,_,_,_⟩:=xT I.ay e;obtain ⟨u,hu,ru⟩:=jK.some_of (v:=v) (o:=mA f) (by rw [←l];exact r f)
 exact get_map I.dr O (c.get f) c.hd n hu (M3 ru) (h u _ (I.tok _) ru)
theorem Fv{m:Str}{g:Addr}{pl:Sem Bool}{Q:Value×List Value→Shared→Prop}(I:Inv X pins σ H s)(e:H a=some (.ins C dx fs))(c:i_ X.K C)(k:Meth X.K C m g)(l:fs.lookup m=none)
  (h:Q (.ref g,[.ref a]) s):wpAny (model X.prog X.w) A (getMethod (.ref a) m pl) Q E s:=by
 obtain ⟨mA,O,r,_,_,_⟩:=xT I.ay e;have hn:mA m=none:=jK.none_of (by rw [←l];exact r m)
 exact MW I.dr O (c.get m) k.at_ k.fn hn h
theorem M6{y:V}{u:Value}{Q:Unit→Shared→Prop}(I:Inv X pins σ H s)(e:H a=some (.ins C dx fs))(c:i_ X.K C)(n:oA X.K C f)(hl:fs.length<1000)(ry:RelV y u)
  (h:∀s',Inv X pins σ (upd H a (.ins C dx (fT f y fs))) s'→Q () s'):wpAny (model X.prog X.w) A (setAttr (.ref a) f u) Q E s:=by
 obtain ⟨mA,O,r,wi,_,ho⟩:=xT I.ay e;have hz:(fs.map (·.1)).length≤sizeLine:=by rw [aW,sizeLine_eq];lia
 refine MX I.dr O c.sa c.po n.M4 c.hd wi hz fun h' O' sb=>h _ ?_;have hd:∃o,h'.get? dx=some o:=let ⟨o,_,_,e',_⟩:=O'.ns;⟨o,e'⟩
 refine I.write (x:=a) (e:=dx) (by rw [e];exact True.intro) (.inr ho) (fun b q hb z=>(sb.2 b hb).trans z) hd ?_
 refine ⟨by rw [bG O.ne];exact ho,?_,O.ne,O'.obj,_,O'.ns,fun g=>?_,fun g hg=>?_⟩
 ·have:=Fu f y fs;lia
 ·show jK ((fT f y fs).lookup g) (if g=f then some u else mA g)
  rw [Ft];by_cases q:g=f;·rw [au q,au q];exact ry
  ·rw [ar q,ar q];exact r g
 ·by_cases q:g=f
  ·rw [q];exact (AY f y fs).1
  ·refine (AY f y fs).2 g (wi g fun z=>hg ?_)
   show (if g=f then some u else mA g)=none
   rw [ar q];exact z
theorem Inv.made(I:Inv X pins σ H s):Inv X pins σ (upd (upd H s.heap.objs.size (.own (s.heap.objs.size+1))) (s.heap.objs.size+1) (.ins C s.heap.objs.size []))
  {s with heap:=(s.heap.push PySem.W.emptyDict).push (PySem.W.instObj C s.heap.objs.size)}:=by
 have e1:(s.heap.push PySem.W.emptyDict).get? s.heap.objs.size=some PySem.W.emptyDict:=gg s.heap rfl;have e2:((s.heap.push PySem.W.emptyDict).push (PySem.W.instObj C s.heap.objs.size)).get? (s.heap.objs.size+1)=some (PySem.W.instObj C s.heap.objs.size):=by
  have:=gg (s.heap.push PySem.W.emptyDict) (o:=PySem.W.instObj C s.heap.objs.size) rfl
  rwa [Heap.size_push] at this
 have e3:(s.heap.push PySem.W.emptyDict).Ns s.heap.objs.size (fun _=>none):=⟨PySem.W.emptyDict,#[],_,e1,rfl,(fun e he=>absurd he (by simp)),fun _=>rfl⟩
 have I1:=I.laid (a:=s.heap.objs.size) (o:=.own (s.heap.objs.size+1)) (h':=s.heap.push PySem.W.emptyDict) (t':=s.toks) (fun b u q=>de _ q) (aO _) ⟨_,e1⟩;refine I1.laid (a:=s.heap.objs.size+1) (o:=.ins C s.heap.objs.size []) (t':=s.toks) (fun b u q=>de _ q) (i5 (Heap.size_push _ _)) ?_;have ne:s.heap.objs.size≠s.heap.objs.size+1:=dZ (Nat.lt_succ_self _);refine ⟨by rw [bG ne,aq],bO _,ne,e2,fun _=>none,(Heap.Ns1.of_empty e3).at fun o q=>de _ q,fun _=>True.intro,fun y hy=>absurd rfl hy⟩
theorem M7{prog:Program}{env:Env}{e:Expr}{pos:Pos}(hb:attributeBase e f env (eval e env)=eval e env)
  (h:wpAny (model prog w) A (eval e env) (fun o s₁=>wpAny (model prog w) A (getAttr o f true) Q E s₁) E s):wpAny (model prog w) A (eval (.Attribute e f pos) env) Q E s:=
 Attribute_any_ h (by rw [arm_eval_Attribute,hb])
end
def Fw(K:ax)(ta:TE)(f:Str):TE:=fun σ H Q=>ta σ H fun x H1=>∃a C dx fs v,x=.ref a∧H1 a=some (.ins C dx fs)∧i_ K C∧oA K C f∧fs.lookup f=some v∧Q v H1
def M8(K:ax)(ta tv:TE)(f:Str):TS:=fun D σ H=>tv σ H fun y H1=>ta σ H1 fun x H2=>∃a C dx fs,x=.ref a∧H2 a=some (.ins C dx fs)∧i_ K C∧oA K C f∧fs.length<1000 ∧
 D.nx σ (upd H2 a (.ins C dx (fT f y fs)))
section
variable {X:Cx} {o e value:Expr} {f:Str} {pos pos' qS:Pos} {ta tv:TE}
theorem oB(he:PE X e ta)(hb:attributeBase e f X.env (eval e X.env)=eval e X.env):PE X (.Attribute e f pos) (Fw X.K ta f):=by intro pins s σ H Q I h;refine M7 hb (aB (he pins s σ H _ I h) fun u s1 ⟨x,H1,I1,rx,a,C,dx,fs,v,ex,ea,c,n,l,q⟩=>?_);subst ex;obtain rfl:u=Value.ref a:=rx;exact M5 I1 ea c n l fun u' s2 I2 ru=>⟨v,H1,I2,ru,q⟩
theorem Fx(ha:PE X o ta)(hv:PE X value tv)(hs:swapsWith value (some (.Attribute o f pos')) pos.line X.env=pure false):PS X (.Assign [.Attribute o f pos'] value pos) (M8 X.K ta tv f):=by intro pins s σ H D I h;refine plainObj_wpAny_Assign_Attribute (aB (hv pins s σ H _ I h) fun u s1 ⟨y,H1,I1,ry,q⟩=>aB (ha pins s1 σ H1 _ I1 q) fun ov s2 ⟨x,H2,I2,rx,a,C,dx,fs,ex,ea,c,n,l,q2⟩=>?_) hs;subst ex;obtain rfl:ov=Value.ref a:=rx;exact M6 I2 ea c n l ry fun s3 I3=>⟨σ,_,I3,q2⟩
theorem Yf{pl:Sem Bool}{m:Str}{apos:Pos}{args:List Expr}{pins:aZ}{Q:bV}{te:TE}(he:PE X e te)(I:Inv X pins σ H s)
  (h:te σ H fun x H1=>∃a C dx fs g,x=.ref a∧H1 a=some (.ins C dx fs)∧i_ X.K C∧Meth X.K C m g∧fs.lookup m=none ∧
   ∀s1,Inv X pins σ H1 s1→wpAny (model X.prog X.w) X.A (callWith pos (.ref g) [.ref a] (backTo pos (starEach args X.env)) (backToKw pos (keywordEach [] X.env))) Q X.xe s1)
  (ht:eval (.Call (.Attribute e m apos) args [] pos) X.env=(do
   let ov ←eval e X.env
   standAt apos.atName
   let (f,first) ←holding [ov] (getMethod ov m pl)
   callWith pos f first (backTo pos (starEach args X.env)) (backToKw pos (keywordEach [] X.env)))) :
  wpAny (model X.prog X.w) X.A (eval (.Call (.Attribute e m apos) args [] pos) X.env) Q X.xe s:=by
 refine PySem.W.methodCall_KW (pl:=pl) (aB (he pins s σ H _ I h) fun u s1 ⟨x,H1,I1,rx,a,C,dx,fs,g,ex,ea,c,k,l,q⟩=>?_) ht
 subst ex
 obtain rfl:u=Value.ref a:=rx
 exact Fv I1 ea c k l (q s1 I1)
end
section
variable {X:Cx} {pins:aZ} {σ:St} {H:Hp} {s:Shared} {A:Around} {E:bV} {Q:bV} {c:Value} {b:Bool}
inductive ib (K:ax) (H:Hp):V→Value→Prop where
 | aH:ib K H .aH (.type "NoneType")
 | bl (x:Bool):ib K H (.bl x) (.type "bool")
 | int (i:Int):ib K H (.int i) (.type "int")
 | str (x:Str):ib K H (.str x) (.type "str")
 | og (x:UInt64):ib K H (.og x) (.type "float")
 | lst {a:Addr} {xs:List V} (e:H a=some (.lst xs)):ib K H (.ref a) (.type "list")
 | fO {a:Addr} {o:Obj} {xs:List V} (e:H a=some (.fO o (.lst xs))):ib K H (.ref a) (.type "list")
 | tup {a:Addr} {xs:List V} (e:H a=some (.tup xs)):ib K H (.ref a) (.type "tuple")
 | dK {a:Addr} {dw:List (Key×V)} (e:H a=some (.dK dw)):ib K H (.ref a) (.type "dict")
 | dT {a:Addr} {dw:List (List Key×V)} (e:H a=some (.dT dw)):ib K H (.ref a) (.type "dict")
 | ins {a C dx:Addr} {fs:List (Str×V)} (e:H a=some (.ins C dx fs)) (cl:i_ K C) (ha:PySem.W.findIn K (.ref C) "__class__"=some (some (.builtin "object.__class__")))
   (hn:PySem.W.specialIn K (.builtin "object.__class__") "__get__"=some (some (.builtin "getset_descriptor.__get__"))) (Fy:PySem.W.takesIn K (.builtin "object.__class__")=some true)
   (hm:PySem.W.mroIn K C (.type "object")=some true):ib K H (.ref a) (.ref C)
theorem M9{u t:Value}(I:Inv X pins σ H s)(rx:RelV x u)(ty:ib X.K H x t)(e:PySem.W.kitOne X.K t c=some b)(h:∀tk,Q (.bool b) {s with toks:=tk}) :
  wpAny (model X.prog X.w) A (call (.builtin "isinstance") [u,c]) Q E s:=by
 cases ty with
 | aH=>cases (show u=Value.none from rx);exact gX PySem.W.kitx_none I.dr True.intro e (fun z=>nomatch z) h
 | bl y=>cases (show u=Value.bool y from rx);exact gX PySem.W.kitx_bool I.dr True.intro e (fun z=>nomatch z) h
 | int i=>obtain ⟨t,q⟩:=(show ∃t,u=Value.int i t from rx);cases q;exact gX PySem.W.kitx_int I.dr True.intro e (fun z=>nomatch z) h
 | str y=>obtain ⟨t,q⟩:=(show ∃t,u=Value.str y t from rx);cases q;exact gX PySem.W.kitx_str I.dr True.intro e (fun z=>nomatch z) h
 | og y=>obtain ⟨t,q⟩:=(show ∃t,u=Value.float y t from rx);cases q;exact gX PySem.W.kitx_float I.dr True.intro e (fun z=>nomatch z) h
 | @lst a xs ea=>cases (show u=Value.ref a from rx);obtain ⟨_,_,n,_,h1⟩:=(show d5 X.prog X.w H s.heap a (.lst xs) from I.ay a _ ea);exact gX PySem.W.kitx_list I.dr ⟨_,h1,rfl⟩ e (fun z=>nomatch z) h
 | @fO a ob xs ea=>cases (show u=Value.ref a from rx);obtain ⟨_,_,_,n,_,h1⟩:=(show d5 X.prog X.w H s.heap a (.fO ob (.lst xs)) from I.ay a _ ea);exact gX PySem.W.kitx_list I.dr ⟨_,h1,rfl⟩ e (fun z=>nomatch z) h
 | @tup a xs ea=>cases (show u=Value.ref a from rx);obtain ⟨_,_,_,p⟩:=(show d5 X.prog X.w H s.heap a (.tup xs) from I.ay a _ ea);obtain ⟨o,h1,h2,_⟩:=p;exact gX PySem.W.kitx_tuple I.dr ⟨o,h1,h2⟩ e (fun z=>nomatch z) h
 | @dK a dw ea=>cases (show u=Value.ref a from rx);obtain ⟨_,_,vs,_,p⟩:=(show d5 X.prog X.w H s.heap a (.dK dw) from I.ay a _ ea);obtain ⟨o,es,ep,h1,h2,_⟩:=p;exact gX PySem.W.kitx_dict I.dr ⟨o,h1,h2.1⟩ e (fun z=>nomatch z) h
 | @dT a dw ea=>cases (show u=Value.ref a from rx);obtain ⟨_,_,xs,_,o,es,ep,h1,h2,_⟩:=(show d5 X.prog X.w H s.heap a (.dT dw) from I.ay a _ ea);exact gX PySem.W.kitx_dict I.dr ⟨o,h1,h2.1⟩ e (fun z=>nomatch z) h
 | @ins a C dx fs ea cl ha hn Fy hm=>cases (show u=Value.ref a from rx);obtain ⟨mA,O,_⟩:=xT I.ay ea;obtain ⟨od,J,_⟩:=O.look;exact gX (PySem.W.kitx_own (cl.get _) cl.hd ha hn Fy hm) I.dr J e (fun z=>nomatch z) h
end
structure cW (k:Nat) (A:Around):Prop where
 hd:A.handled=none
 dp:A.depth+3*k+5<recursionLimit
 un:A.units+16*k+200<cLine
variable {k:Nat}
theorem cW.mono{j:Nat}(r:cW k A)(h:j≤k):cW j A:=⟨r.hd,by have:=r.dp;lia,by have:=r.un;lia⟩
theorem cW.deeper(r:cW (k+1) A)(env:Env):cW k (A.deeper env):=
 ⟨r.hd,by have:=r.dp;show A.depth+1+3*k+5<_;lia,by have:=r.un;show A.units+3+16*k+200<_;lia⟩
variable {kw:List (Str×Value)}
theorem M_:(A.under (.builtin "type.__call__" ⟨.ref C::us,kw⟩)).depth=A.depth+1:=by first | rfl | simp [Around.under,Code.weight,Code.isCreation,Code.isGuard,Code.isCaller,Code.frames,Code.isFrame,guardIds]
theorem Na:(A.under (.builtin "type.__call__" ⟨.ref C::us,kw⟩)).units=A.units+1:=by first | rfl | simp [Around.under,Code.cUnits,Code.frames,Code.isFrame]
theorem cW.make(r:cW (k+1) A)(C:Addr)(us:List Value)(kw:List (Str×Value)):cW k (A.under (.builtin "type.__call__" ⟨.ref C::us,kw⟩)):=
 ⟨r.hd,by have:=r.dp;rw [M_];lia,by have:=r.un;rw [Na];lia⟩
theorem cW.depth(r:cW k A):A.depth<recursionLimit:=by have:=r.dp;lia
theorem cW.units(r:cW k A):A.units+64<cLine:=by have:=r.un;lia
theorem cW.vi(r:cW k A):A.units<cLine:=by have:=r.un;lia
def ja:TA:=fun _ H Q=>Q [] H
def fJ(ta:TE)(tr:TA):TA:=fun σ H Q=>ta σ H fun x H1=>tr σ H1 fun xs H2=>Q (x::xs) H2
section
variable {X:Cx} {e:Expr} {es:List Expr} {te:TE} {t:TA} {pos:Pos}
theorem af:PA X [] ja:=fun _ _ _ _ H Q I h=>Calls.spliced_nil ⟨[],H,I,.nil,h⟩
theorem Nb(ha:PE X e te)(hr:PA X es t)(hs:starEach (e::es) X.env=(false,eval e X.env)::starEach es X.env:=by rfl):PA X (e::es) (fJ te t):=by intro pos pins s σ H Q I h;rw [hs];show wpAny _ _ (spliced ((false,eval e X.env)::backTo pos (starEach es X.env))) _ _ s;refine Calls.spliced_cons (aB (ha pins s σ H _ I h) fun u s1 ⟨x,H1,I1,r1,q1⟩=>?_);exact aB (hr pos pins s1 σ H1 _ I1 q1) fun us s2 ⟨xs,H2,I2,r2,q2⟩=>⟨x::xs,H2,I2,.cons r1 r2,q2⟩
def Fz(t:TA):TE:=fun σ H Q=>t σ H fun xs H1=>xs.length≤sizeLine∧∀p,H1 p=none→Q (.ref p) (upd H1 p (.tup xs))
def oC(t:TA):TE:=fun σ H Q=>t σ H fun xs H1=>xs.length≤sizeLine∧∀p,H1 p=none→Q (.ref p) (upd H1 p (.lst xs))
theorem iJ{x1}(h:PA X es t):PE X (.Tuple es x1 pos) (Fz t):=by
 intro pins s σ H Q I hq;refine wpAny_Tuple_spliced (aB (h pos pins s σ H _ I hq) fun us s1 ⟨xs,H1,I1,r,z,q⟩=>⟨by rw [←r.length];exact z,?_⟩)
 have hf:H1 s1.heap.objs.size=none:=I1.ay.fresh (aO _);refine ⟨.ref s1.heap.objs.size,upd H1 s1.heap.objs.size (.tup xs),I1.laid (t':=s1.toks) (fun b u e=>de _ e) (aO _) ?_,rfl,q _ hf⟩;exact ⟨z,us,r,⟨_,gg _ rfl,rfl,_,rfl⟩⟩
theorem b6(h:PA X es t):PE X (.List es pos) (oC t):=by
 intro pins s σ H Q I hq;refine wpAny_List_spliced (aB (h pos pins s σ H _ I hq) fun us s1 ⟨xs,H1,I1,r,z,q⟩=>⟨by rw [←r.length];exact z,?_⟩)
 have hf:H1 s1.heap.objs.size=none:=I1.ay.fresh (aO _);refine ⟨.ref s1.heap.objs.size,upd H1 s1.heap.objs.size (.lst xs),I1.laid (t':=s1.toks) (fun b u e=>de _ e) (aO _) ?_,rfl,q _ hf⟩;exact ⟨z,us,0,r,gg _ rfl⟩
end
abbrev Sp:=List V→Hp→VK→XK→Prop
abbrev ic:=List Env→Hp→Shared→XK→Value→Shared→Prop
structure oE (P:Program) (w:World) (K:ax) (mg:dh) (base:Heap) (A:Around) (outer:List Env) (s:Shared) (H:Hp):Prop where
 frames:A.frames=some outer
 mod:Mod K mg base
 bs:∀b o,base.get? b=some o→s.heap.get? b=some o∧H b=none
 gr:base.objs.size≤s.heap.objs.size
 iE:s.heap.FunFrames base outer
 kG:∀b∈cE outer,H b=none
 ay:cJ P w H s.heap
 bare:AllBare s.gens
def CE(outer:List Env)(P:Program)(w:World)(H:Hp)(s:Shared)(Q:VK)(u:Value)(s':Shared):Prop:=
 ∃v H',s'.os=s.os∧AllBare s'.gens∧Un (cE outer) [] H H' s.heap s'.heap∧cJ P w H' s'.heap∧RelV v u∧Q v H'
def CR(CX:ic)(outer:List Env)(P:Program)(w:World)(H:Hp)(s:Shared)(Q:VK)(E:XK)(r:Result)(s':Shared):Prop:=
 match r with
 | .ok (.ret u)=>CE outer P w H s Q u s'
 | .ok _=>False
 | .error e=>CX outer H s E e s'
structure a8 (P:Program) (w:World) (K:ax) (mg:dh) (base:Heap) (CX:ic) (k:Nat) (f:Addr) (fd:FuncData) (ps:List Str) (sp:Sp):Prop where
 len:∀vs H Q E,sp vs H Q E→vs.length=ps.length
 run:∀(A:Around) (outer:List Env) (s:Shared) (H:Hp) (args:Args) (us:List Value) (vs:List V) (Q:VK) (E:XK),cW k A→oE P w K mg base A outer s H→BindsTo s fd args (ps.zip us)→Vals vs us→sp vs H Q E→
  codeAny (model P w) A (.call (.ref f) args) (CR CX outer P w H s Q E) s
variable {mg:dh} {base:Heap} {outer:List Env}
theorem oE.make(e:oE P w K mg base A outer s H)(C:Addr)(us:List Value)(kw:List (Str×Value)) :
  oE P w K mg base (A.under (.builtin "type.__call__" ⟨.ref C::us,kw⟩)) outer s H:=⟨by first | exact e.frames | (simpa [Around.under,Code.envs,Code.isFrame,pushEnvs] using e.frames),e.mod,e.bs,e.gr,e.iE,e.kG,e.ay,e.bare⟩
section
variable {X:Cx} {pins:aZ} {σ:St} {H:Hp} {s s':Shared}
theorem Inv.FA(I:Inv X pins σ H s):oE X.prog X.w X.K X.mg X.base X.A X.stack s H:=
 ⟨I.ok.frames,I.ok.mod,I.bs,ai I.ok.gr I.sz,I.stack,I.qL,I.ay,I.bare⟩
theorem Inv.after{Q:VK}{u:Value}(I:Inv X pins σ H s)(h:CE X.stack X.prog X.w H s Q u s'):EP X pins σ Q u s':=by obtain ⟨v,H',os,bare,un,ay,r,q⟩:=h;obtain ⟨hh,g,d,t,Nc⟩:=s';obtain rfl:Nc=s.os:=os;exact ⟨v,H',I.call (h':=hh) (g':=g) (d':=d) (t':=t) (ch:=[]) un ay bare (fun b z=>absurd z (by simp)),r,q⟩
end
def AZ(sp:Sp)(eF:List V)(E:XK)(t:TA):TE:=fun σ H Q=>t σ H fun vs H1=>sp (vs++eF) H1 Q E
def Nd(C:Addr)(m:Str)(sp:Sp)(eF:List V)(E:XK)(ta:TE)(t:TA):TE:=fun σ H Q=>ta σ H fun x H1=>∃a dx fs,x=.ref a∧H1 a=some (.ins C dx fs)∧fs.lookup m=none ∧
 t σ H1 fun vs H2=>sp (x::(vs++eF)) H2 Q E
def Nf(C:Addr)(sp:Sp)(eF:List V)(E:XK)(t:TA):TE:=fun σ H Q=>t σ H fun vs H1=>∀x dx,H1 x=none→H1 dx=none→dx≠x→
 sp (.ref x::(vs++eF)) (upd (upd H1 dx (.own x)) x (.ins C dx [])) (fun v H2=>v=.aH∧Q (.ref x) H2) E
def Binds(K:ax)(fd:FuncData)(ps:List Str)(ds:List Value):Prop:=
 ∀(s:Shared) (us:List Value),K.In s.heap→(us++ds).length=ps.length→BindsTo s fd ⟨us,[]⟩ (ps.zip (us++ds))
variable {ps:List Str}
theorem Binds.all{fd:FuncData}(h:∀us:List Value,us.length=ps.length→bindArgs fd ⟨us,[]⟩=pure (ps.zip us)):Binds K fd ps []:=fun s us _ hl=>by rw [nQ] at hl ⊢;exact .of_eq (h us hl)
def Passes(CX:ic)(X:Cx)(E:XK):Prop:=∀(pins:aZ) (σ:St) (H:Hp) (s:Shared) (e:Value) (s':Shared),Inv X pins σ H s→CX X.stack H s E e s'→X.xe e s'
section
variable {X:Cx} {CX:ic} {k:Nat} {f C:Addr} {fd:FuncData} {ps:List Str} {sp:Sp} {eF:List V} {ds:List Value} {E:XK} {x m:Str} {p pos apos:Pos} {e o:Expr} {es:List Expr} {ta:TE} {t:TA}
variable {pins:aZ} {Q:VK}
theorem FC{vs:List V}(F:a8 X.prog X.w X.K X.mg X.base CX k f fd ps sp)(hr:cW k X.A)(hb:Binds X.K fd ps ds)(hd:Vals eF ds)(hx:Passes CX X E)
  (I:Inv X pins σ H s) (r:Vals vs us) (h:sp (vs++eF) H Q E):wpAny (model X.prog X.w) X.A (call (.ref f) us) (EP X pins σ Q) X.xe s:=by
 have r2:Vals (vs++eF) (us++ds):=r.append hd;have hl:(us++ds).length=ps.length:=by rw [←r2.length];exact F.len _ _ _ _ h
 refine wpAny_call (codeAny_mono (F.run X.A X.stack s H ⟨us,[]⟩ (us++ds) (vs++eF) Q E hr I.FA (hb s us I.dr hl) r2 h) fun r s' hq=>?_);cases r with
 | error e=>exact hx pins σ H s e s' I hq
 | ok fl=>
  cases fl with
  | ret u=>exact I.after hq
  | next=>exact False.elim hq
  | brk=>exact False.elim hq
  | cont=>exact False.elim hq
theorem xU(F:a8 X.prog X.w X.K X.mg X.base CX k f fd ps sp)(hr:cW k X.A)(hg:Gl X x)(hm:X.mg x=some (.ref f))(hk:PySem.W.keepIn X.K (.ref f)=true)(hb:Binds X.K fd ps ds)(hd:Vals eF ds)(hx:Passes CX X E)
  (ha:PA X (e::es) t) (kS:(x == ("__debug__":Str))=false:=by decide) (he:starEach (e::es) X.env=(false,eval e X.env)::starEach es X.env:=by rfl) (gM:(backTo pos (starEach es X.env)).any (·.1)=false:=by rfl) :
  PE X (.Call (.Name x p) (e::es) [] pos) (AZ sp eF E t):=by
 intro pins s σ H Q I h;refine xf (xB I hg hm ?_ kS);refine PySem.W.callWith_K (h₀:=X.base) I.ok.mod.cQ hk (aB (ha pos pins s σ H _ I h) fun us s1 ⟨vs,H1,I1,r,q⟩=>⟨I1.dr,?_⟩) he gM;exact FC F hr hb hd hx I1 r q
theorem aL{j:Nat}(F:a8 X.prog X.w X.K X.mg X.base CX k f fd ps sp)(hr:cW j X.A)(hm:X.mg x=some (.ref f))(hk:PySem.W.keepIn X.K (.ref f)=true)(hb:Binds X.K fd ps [])(hx:Passes CX X E)
  (ha:PA X (e::es) t) (hj:k≤j:=by decide) (hg:Gl X x:=by exact rfl) (kS:(x == ("__debug__":Str))=false:=by decide) (he:starEach (e::es) X.env=(false,eval e X.env)::starEach es X.env:=by rfl) (gM:(backTo pos (starEach es X.env)).any (·.1)=false:=by rfl) :
  PE X (.Call (.Name x p) (e::es) [] pos) (AZ sp [] E t):=xU F (hr.mono hj) hg hm hk hb .nil hx ha kS he gM
theorem jb{pl:Sem Bool}(he:PE X o ta)(c:i_ X.K C)(hm:Meth X.K C m f)(F:a8 X.prog X.w X.K X.mg X.base CX k f fd ps sp)(hr:cW k X.A)(hb:Binds X.K fd ps ds)(hd:Vals eF ds)(hx:Passes CX X E)(ha:PA X (e::es) t)
  (qP:starEach (e::es) X.env=(false,eval e X.env)::starEach es X.env:=by rfl) (gM:(backTo pos (starEach es X.env)).any (·.1)=false:=by rfl)
  (ht:eval (.Call (.Attribute o m apos) (e::es) [] pos) X.env=(do
   let ov ←eval o X.env
   standAt apos.atName
   let (f,first) ←holding [ov] (getMethod ov m pl)
   callWith pos f first (backTo pos (starEach (e::es) X.env)) (backToKw pos (keywordEach [] X.env))):=by rfl) :
  PE X (.Call (.Attribute o m apos) (e::es) [] pos) (Nd C m sp eF E ta t):=by
 intro pins s σ H Q I h
 refine PySem.W.methodCall_KW (pl:=pl) (aB (he pins s σ H _ I h) fun u s1 ⟨x,H1,I1,rx,a,dx,fs,ex,ea,l,q⟩=>?_) ht
 subst ex
 obtain rfl:u=Value.ref a:=rx
 refine Fv I1 ea c hm l ?_
 refine PySem.W.callWith_K (first:=[.ref a]) (h₀:=X.base) I.ok.mod.cQ hm.kp (aB (ha pos pins s1 σ H1 _ I1 q) fun us s2 ⟨vs,H2,I2,r,q2⟩=>⟨I2.dr,?_⟩) qP gM
 exact FC (us:=.ref a::us) (vs:=.ref a::vs) F hr hb hd hx I2 (.cons rfl r) q2
structure Mk (K:ax) (C f:Addr):Prop where
 makes:PySem.W.makesIn K C=true
 init:PySem.W.findIn K (.ref C) "__init__"=some (some (.ref f))
 fn:PySem.W.isFn K (.ref f)=true
 kp:PySem.W.keepIn K (.ref C)=true
theorem Ng{vs:List V}(M:Mk X.K C f)(F:a8 X.prog X.w X.K X.mg X.base CX k f fd ps sp)(hr:cW (k+1) X.A)(hb:Binds X.K fd ps ds)(hd:Vals eF ds)
  (hx:Passes CX X E) (I:Inv X pins σ H s) (r:Vals vs us)
  (h:∀x dx,H x=none→H dx=none→dx≠x→sp (.ref x::(vs++eF)) (upd (upd H dx (.own x)) x (.ins C dx [])) (fun v H2=>v=.aH∧Q (.ref x) H2) E) :
  wpAny (model X.prog X.w) X.A (call (.ref C) us) (EP X pins σ Q) X.xe s:=by
 have hq:=h (s.heap.objs.size+1) s.heap.objs.size (I.ay.fresh (Nat.le_succ _)) (I.ay.fresh (aO _)) (dZ (Nat.lt_succ_self _));have I2:=Inv.made (C:=C) I;have r2:Vals (V.ref (s.heap.objs.size+1)::(vs++eF)) (Value.ref (s.heap.objs.size+1)::(us++ds)):=.cons rfl (r.append hd);have hl:(Value.ref (s.heap.objs.size+1)::us++ds).length=ps.length:=by have e:=r2.length;rw [F.len _ _ _ _ hq] at e;exact e.symm
 refine wpAny_call (M1 (f:=f) I.dr M.makes M.init (jz.mp M.fn) (codeAny_mono (F.run _ X.stack _ _ ⟨Value.ref (s.heap.objs.size+1)::us,[]⟩ (Value.ref (s.heap.objs.size+1)::(us++ds)) _ _ E (hr.make C us [])
  (I2.FA.make C us []) (hb _ (Value.ref (s.heap.objs.size+1)::us) I2.dr hl) r2 hq) fun r s' oF=>?_))
 cases r with
 | error e=>exact hx pins σ _ _ e s' I2 oF
 | ok fl=>
  cases fl with
  | ret u=>obtain ⟨v,H',I3,rv,ev,q3⟩:=I2.after oF;subst ev;exact ⟨rv,⟨V.ref (s.heap.objs.size+1),H',I3,rfl,q3⟩⟩
  | next=>exact False.elim oF
  | brk=>exact False.elim oF
  | cont=>exact False.elim oF
theorem Nh(M:Mk X.K C f)(F:a8 X.prog X.w X.K X.mg X.base CX k f fd ps sp)(hr:cW (k+1) X.A)(hg:Gl X x)(hm:X.mg x=some (.ref C))(hb:Binds X.K fd ps ds)(hd:Vals eF ds)(hx:Passes CX X E)
  (ha:PA X (e::es) t) (kS:(x == ("__debug__":Str))=false:=by decide) (he:starEach (e::es) X.env=(false,eval e X.env)::starEach es X.env:=by rfl) (gM:(backTo pos (starEach es X.env)).any (·.1)=false:=by rfl) :
  PE X (.Call (.Name x p) (e::es) [] pos) (Nf C sp eF E t):=by
 intro pins s σ H Q I h;refine xf (xB I hg hm ?_ kS);refine PySem.W.callWith_K (h₀:=X.base) I.ok.mod.cQ M.kp (aB (ha pos pins s σ H _ I h) fun us s1 ⟨vs,H1,I1,r,q⟩=>⟨I1.dr,?_⟩) he gM;exact Ng M F hr hb hd hx I1 r q
end
section
variable {X:Cx} {CX:ic} {k:Nat} {f C:Addr} {fd:FuncData} {ps ks:List Str} {sp:Sp} {E:XK} {x m:Str} {p pos apos Ni:Pos} {e o:Expr} {es:List Expr} {Y1:List Keyword} {te ta:TE} {t tk:TA} {nm:Option Str}
variable {g:List Value→List Value→List Value} {gV:List V→List V→List V}
end
structure bI (N P:List Str) (sc:Scope):Prop where
 kind:sc.kind=.function
 co:sc.isCoroutine=false
 gen:sc.isGenerator=false
 nd:N.Nodup
 pre:N.take P.length=P
 par:∀x∈P,sc.names.lookup x=some .local∨sc.names.lookup x=some .cell
 Nj:∀y∈sc.names,y.2≠.free
variable {N:List Str} {sc:Scope}
theorem b9{P:List Str}(h1:sc.kind=.function:=by rfl)(h2:sc.isCoroutine=false:=by rfl)(h3:sc.isGenerator=false:=by rfl)(h4:N.Nodup:=by decide +kernel)(h5:N.take P.length=P:=by rfl)(h6:∀x∈P,sc.names.lookup x=some .local∨sc.names.lookup x=some .cell:=by decide +kernel)(h7:∀y∈sc.names,y.2≠.free:=by decide +kernel):bI N P sc:=⟨h1,h2,h3,h4,h5,h6,h7⟩
theorem FD{kindOf:Str→Option NameKind}{x:Str}:∀{binds:List (Str×Value)} {m:dh},(∀v,(x,v)∉binds)→bindL kindOf binds m x=m x
 | [],_,_=>rfl
 | (n,v)::r,m,h=>by
  unfold bindL;rw [FD fun w hw=>h w (gW _ hw)]
  split
  ·have:x≠n:=by rintro rfl;exact h v lK
   simp [this]
  ·rfl
theorem FE{kindOf:Str→Option NameKind}{x:Str}:∀{binds:List (Str×Value)} {m:dh},(∀v,(x,v)∉binds)→bindC kindOf binds m x=m x
 | [],_,_=>rfl
 | (n,v)::r,m,h=>by
  unfold bindC;rw [FE fun w hw=>h w (gW _ hw)]
  split
  ·rfl
  ·have:x≠n:=by rintro rfl;exact h v lK
   simp [this]
theorem FF{kindOf:Str→Option NameKind}{x:Str}{v:Value}:∀{P:List Str} {vs:List Value} {i:Nat} {m:dh},P.Nodup→P[i]?=some x→vs[i]?=some v→kindOf x=some .local→
  bindL kindOf (P.zip vs) m x=some v
 | [],_,_,_,_,h,_,_=>by simp at h
 | _::_,[],_,_,_,_,h,_=>by simp at h
 | p::P,w::vs,0,m,nd,h1,h2,hk=>by simp at h1 h2;subst h1;subst h2;show bindL kindOf ((p,w)::P.zip vs) m p=_;unfold bindL;rw [FD fun v hv=>(xg.mp nd).1 (qC hv).1,au hk];simp
 | p::P,w::vs,i+1,m,nd,h1,h2,hk=>by show bindL kindOf ((p,w)::P.zip vs) m x=_;unfold bindL;exact FF (i:=i) (xg.mp nd).2 (by simpa using h1) (by simpa using h2) hk
theorem FG{kindOf:Str→Option NameKind}{x:Str}{v:Value}:∀{P:List Str} {vs:List Value} {i:Nat} {m:dh},P.Nodup→P[i]?=some x→vs[i]?=some v→kindOf x≠some .local→
  bindC kindOf (P.zip vs) m x=some v
 | [],_,_,_,_,h,_,_=>by simp at h
 | _::_,[],_,_,_,_,h,_=>by simp at h
 | p::P,w::vs,0,m,nd,h1,h2,hk=>by simp at h1 h2;subst h1;subst h2;show bindC kindOf ((p,w)::P.zip vs) m p=_;unfold bindC;rw [FE fun v hv=>(xg.mp nd).1 (qC hv).1,ar hk];simp
 | p::P,w::vs,i+1,m,nd,h1,h2,hk=>by show bindC kindOf ((p,w)::P.zip vs) m x=_;unfold bindC;exact FG (i:=i) (xg.mp nd).2 (by simpa using h1) (by simpa using h2) hk
def start(N:List Str)(vs:List V):St:=vs.map some++List.replicate (N.length-vs.length) none
def ie(CX:ic)(P:Program)(w:World)(K:ax)(mg:dh)(base:Heap)(N:List Str)(qual:Str)(scope:Scope)(f:Addr)(cd:Value)(A:Around)(outer:List Env)(s:Shared)(H:Hp)(E:XK):Cx where
 prog:=P
 w:=w
 K:=K
 mg:=mg
 base:=base
 A:=A.deeper (envOfC qual scope s.heap.objs.size f cd)
 N:=N
 s₀:=s
 H₀:=H
 env:=envOfC qual scope s.heap.objs.size f cd
 outer:=outer
 stack:=envOfC qual scope s.heap.objs.size f cd::outer
 ex:=[]
 calm:=true
 fn:=fun _=>true
 pn:=[]
 xe:=fun e s'=>wpAny (model P w) (A.deeper (envOfC qual scope s.heap.objs.size f cd)) (leaving (envOfC qual scope s.heap.objs.size f cd) e) (fun _ ig=>CX outer H s E e ig) (fun e' ig=>CX outer H s E e' ig) s'
theorem FH{x:Str}(h:sc.names.lookup x=some .cell):∃c,(cellsFrom n sc.names []).lookup x=some c:=by have q:=PySem.W.cellsFrom_some sc.names n [] (.inl h);exact Option.isSome_iff_exists.mp q
variable {CX:ic} {qual:Str} {scope:Scope} {f:Addr}
theorem Nk{cd:Value}{s1:Shared}{E:XK}{vs:List V}
  (S:bI N ps scope) (hd:A.handled=none) (e0:oE P w K mg base A outer s H) (hl:vs.length=ps.length) (r:Vals vs us)
  (x:InCallC s s.heap.objs.size (bindL (envOfC qual scope s.heap.objs.size f cd).kindOf (ps.zip us) fun _=>none) (cellsFrom (s.heap.objs.size+1) scope.names []) (bindC (envOfC qual scope s.heap.objs.size f cd).kindOf (ps.zip us) fun _=>none) s1) :
  Inv (ie CX P w K mg base N qual scope f cd A outer s H E) [] (start N vs) H s1:=by
 have gM:ps.length≤N.length:=by have:=fL List.length S.pre;rw [lL] at this;lia
 obtain ⟨h1,tk,rfl,hk⟩:=x.done;have vj:∀b:Addr,b∉(ie CX P w K mg base N qual scope f cd A outer s H E).ex:=fun b z=>absurd (show b∈([]:List Addr) from z) (by simp)
 refine ⟨⟨e0.mod,S.kind,rfl,rfl,aO _,fun y z c h1 h2=>?_,fun y hy=>?_,fun y c _ h=>?_,fun _=>hd,Around.frames_deeper e0.frames,.inr ⟨rfl,rfl⟩,fun b z=>absurd z (vj b),e0.bs,e0.gr,fun b _ _=>vj b,fun b z=>absurd z (vj b),e0.iE,e0.kG⟩,
  rfl,e0.bare,Un.kept hk,⟨_,x.toInCall.ns,fun i y v h1 h2 h3=>?_⟩,fun y c h=>⟨_,x.cell y c h⟩,e0.ay.fresh (aO _),fun y c h=>?_,fun p hp=>absurd (show p∈([]:aZ) from hp) (by simp),e0.ay.kept hk,?_⟩
 ·exact name_of_addr x.apart (jA h1) (jA h2)
 ·have hy:scope.names.lookup y=some .cell∨scope.names.lookup y=some .free:=hy
  rcases hy with hy | hy;·exact FH hy
  ·exact absurd rfl (S.Nj _ (jA hy))
 ·exact Nat.le_of_lt (x.above y c (jA h))
 ·have hi:i<vs.length:=by
   unfold start at h2;by_cases hi:i<vs.length;·exact hi
   ·rw [gY (by simpa using hi)] at h2
    rw [kv] at h2
    split at h2 <;> cases h2
  have ha:vs[i]?=some v:=by
   unfold start at h2;rw [ir (by simpa using hi),eS] at h2
   cases e:vs[i]? with
   | none=>rw [e] at h2;cases h2
   | some a=>rw [e] at h2;cases h2;rfl
  obtain ⟨u,hu,rv⟩:=r.get ha;have hp:ps[i]?=some y:=by rw [←S.pre,Ar (by lia)];exact h1
  have FI:ps.Nodup:=by rw [←S.pre];exact S.nd.sublist (List.take_sublist _ _)
  refine ⟨u,rv,?_⟩;rcases S.par y (uQ hp) with k | k;·exact .inl ⟨k,FF FI hp hu k⟩
  ·obtain ⟨c,e⟩:=FH (n:=s.heap.objs.size+1) k
   refine .inr ⟨.inl k,c,e,?_⟩;have q:=x.cell y c e;rw [FG FI hp hu (by show scope.names.lookup y≠_;rw [k];decide)] at q
   exact q
 ·exact e0.ay.fresh (Nat.le_of_lt (x.above y c (jA h)))
 ·unfold start
  show _=N.length;rw [iu,aW,iw];lia
theorem A0{name:Str}{params:Arguments}{body:List Stmt}{dV kV doc pm aT ct oc:Value}{an od:Option Addr}
  {eY:Array (Option Value)} {sp:Sp} (lk:K.lookup f=some ⟨oc,od,.func (PySem.W.fnOf name qual params body scope dV kV doc pm an aT ct),eY⟩) (eU:PySem.W.codeIn K aT qual=true) (S:bI N ps scope)
  (len:∀vs H Q E,sp vs H Q E→vs.length=ps.length)
  (jc:∀(A:Around) (outer:List Env) (s:Shared) (H:Hp) (vs:List V) (Q:VK) (E:XK),cW k (A.deeper (envOfC qual scope s.heap.objs.size f aT))→sp vs H Q E→
   ∃t,ej (ie CX P w K mg base N qual scope f aT A outer s H E) body t∧t {nx:=fun _ H'=>Q .aH H',rt:=Q} (start N vs) H) :
  a8 P w K mg base CX (k+1) f (PySem.W.fnOf name qual params body scope dV kV doc pm an aT ct) ps sp:=by
 refine ⟨len,fun A outer s H args us vs Q E hr e0 hb r iK=>?_⟩;have hl:=len _ _ _ _ iK;have KX:K.In s.heap:=e0.mod.cQ.keeps fun b o e=>(e0.bs b o e).1;have lim:s.heap.NoLimit:=e0.mod.nolimit.keeps fun b o e=>(e0.bs b o e).1;have Nl:∀y∈ps.zip us,scope.names.lookup y.1=some .local∨(scope.names.lookup y.1=some .cell∧((cellsFrom (s.heap.objs.size+1) scope.names []).lookup y.1).isSome=true):=fun⟨n,v⟩ hy=>by
  rcases S.par n (qC hy).1 with q | q;·exact .inl q
  ·exact .inr ⟨q,PySem.W.cellsFrom_some _ _ _ (.inl q)⟩
 refine codeAny_call_function hr.depth (KX _ _ lk) rfl S.co S.gen rfl (PySem.W.codeRec_of KX eU) (hb _ _ _ _ ?_);refine wpAny_newFunctionEnv_cells S.kind Nl fun env he s1 x=>?_;subst he;refine ⟨lim.keeps x.toInCall.keep,codeAny_func ?_⟩;obtain ⟨t,ht,hq⟩:=jc A outer s H vs Q E (hr.deeper _) iK;have I:Inv (ie CX P w K mg base N qual scope f aT A outer s H E) [] (start N vs) H s1:=Nk S hr.hd e0 hl r x;refine cf (ht [] s1 (start N vs) H _ I hq) (fun fl s' hs=>?_) fun e s' hs=>hs;have fin:∀{σ':St} {H':Hp} {v:V} {u:Value},Inv (ie CX P w K mg base N qual scope f aT A outer s H E) [] σ' H' s'→RelV v u→Q v H'→CE outer P w H s Q u s':=
  fun{σ' H' v u} J rv q=>⟨v,H',J.os,J.bare,J.base,J.ay,rv,q⟩
 cases fl with
 | ret u=>obtain ⟨v,σ',H',J,rv,q⟩:=hs;exact fin J rv q
 | next=>obtain ⟨σ',H',J,q⟩:=hs;exact fin (v:=V.aH) (u:=Value.none) J rfl q
 | brk=>obtain ⟨_,_,_,q⟩:=hs;exact False.elim q
 | cont=>obtain ⟨_,_,_,q⟩:=hs;exact False.elim q
section
variable {X:Cx} {x:Str} {p pos:Pos} {e:Expr} {es:List Expr} {t:TA} {id T:String} {r:List V→Hp→VK→Prop}
def A3(r:List V→Hp→VK→Prop)(t:TA):TE:=fun σ H Q=>t σ H fun vs H1=>r vs H1 Q
theorem a9(hc:jR X (.builtin id) r)(hg:Gl X x)(hm:X.mg x=none)(hv:bootBuiltins x=some (.builtin id))(ha:PA X (e::es) t)(hn:x ≠ "__name__":=by decide)(kS:(x == ("__debug__":Str))=false:=by decide)
  (he:starEach (e::es) X.env=(false,eval e X.env)::starEach es X.env:=by rfl) (gM:(backTo pos (starEach es X.env)).any (·.1)=false:=by rfl):PE X (.Call (.Name x p) (e::es) [] pos) (A3 r t):=by
 intro pins s σ H Q I h;refine xf (oj I hg hm hv ?_ hn kS);exact PyProof.Rows.callWith_builtin1 (aB (ha pos pins s σ H _ I h) fun us s1 ⟨vs,H1,I1,r1,q1⟩=>hc pins s1 σ H1 vs us Q I1 r1 q1) he gM
theorem q_(hc:jR X (.type T) r)(hg:Gl X x)(hm:X.mg x=none)(hv:bootBuiltins x=some (.type T))(ha:PA X (e::es) t)(hn:x ≠ "__name__":=by decide)(kS:(x == ("__debug__":Str))=false:=by decide)
  (he:starEach (e::es) X.env=(false,eval e X.env)::starEach es X.env:=by rfl) (gM:(backTo pos (starEach es X.env)).any (·.1)=false:=by rfl):PE X (.Call (.Name x p) (e::es) [] pos) (A3 r t):=by
 intro pins s σ H Q I h;refine xf (oj I hg hm hv ?_ hn kS);exact uN (aB (ha pos pins s σ H _ I h) fun us s1 ⟨vs,H1,I1,r1,q1⟩=>hc pins s1 σ H1 vs us Q I1 r1 q1) he gM
end
end L2
namespace HT
open PySem PyProof.Rows
section
open PySem.SeqAt
open PySem.AutoSeq1 (wpAny_loadPart')
open PySem.MeetsSeq PySem.MeetsSeq2 PySem.MeetsSeq3
end
section
variable {prog:Program} {w:World} {A:Around} {E:bV} {s:Shared}
def d7(n d:Nat):Option Int→Nat
 | none=>d
 | some v=>if v<0 then (v+(n:Int)).toNat else min v.toNat n
theorem Nm(n d k:Nat):d7 n d (some (k:Int))=min k n:=by
 show (if (k:Int)<0 then ((k:Int)+(n:Int)).toNat else min (k:Int).toNat n)=min k n
 rw [ar (by lia),d_]
end
end HT
namespace L2
open PySem PySem.Spec PyProof.Rows
abbrev TO:=St→Hp→(Option Int→Hp→Prop)→Prop
def PO(X:Cx)(e:Option Expr)(t:TO):Prop:=
 ∀(pins:aZ) (s:Shared) (σ:St) (H:Hp) (Q:Option Int→Hp→Prop),Inv X pins σ H s→t σ H Q→
  wpAny (model X.prog X.w) X.A (evalPart e X.env) (fun u s'=>∃o H',Inv X pins σ H' s'∧IsPart u o∧Q o H') X.xe s
def Nn:TO:=fun _ H Q=>Q none H
def Np(t:TE):TO:=fun σ H Q=>t σ H fun x H1=>∃i,x=.int i∧Q (some i) H1
section
variable {X:Cx} {e:Expr} {te:TE} {lo hi:Option Expr} {tl th:TO} {pos p2:Pos}
theorem rd:PO X none Nn:=by intro pins s σ H Q I h;rw [evalPart_none];exact d0 ⟨none,H,I,.none,h⟩
theorem rf(h:PE X e te):PO X (some e) (Np te):=by intro pins s σ H Q I hw;rw [evalPart_some];refine aB (h pins s σ H _ I hw) fun u s1 ⟨x,H1,I1,r1,q1⟩=>?_;obtain ⟨i,rfl,q⟩:=q1;obtain ⟨t,rfl⟩:=r1;exact ⟨some i,H1,I1,.int i t,q⟩
def FJ(X:Cx)(r:V→Option Int→Option Int→Hp→VK→Prop):Prop:=
 ∀(pins:aZ) (s:Shared) (σ:St) (H:Hp) (x:V) (v vl vu:Value) (lo hi:Option Int) (sl:Addr) (Q:VK),Inv X pins σ H s→RelV x v→s.heap.IsSliceOf sl vl vu .none→IsPart vl lo→IsPart vu hi→r x lo hi H Q→
  ∃T id,typeLookup (.type T) "__getitem__"=pure (some (.builtin id))∧s.TypeIs v T∧wpAny (model X.prog X.w) X.A (getItem v (.ref sl)) (EP X pins σ Q) X.xe s
def Nq(r:V→Option Int→Option Int→Hp→VK→Prop)(te:TE)(tl th:TO):TE:=fun σ H Q=>te σ H fun x H1=>tl σ H1 fun l H2=>th σ H2 fun u H3=>r x l u H3 Q
theorem rg{r:V→Option Int→Option Int→Hp→VK→Prop}(hr:FJ X r)(he:PE X e te)(hl:PO X lo tl)(hu:PO X hi th):PE X (.Subscript e (.Slice lo hi none p2) pos) (Nq r te tl th):=by intro pins s σ H Q I h;refine Subscript_ (aB (he pins s σ H _ I h) fun v s1 ⟨x,H1,I1,r1,q1⟩=>?_);refine wpAny_Slice (aB (hl pins s1 σ H1 _ I1 q1) fun vl s2 ⟨l,H2,I2,pl,q2⟩=>aB (hu pins s2 σ H2 _ I2 q2) fun vu s3 ⟨u,H3,I3,pu,q3⟩=>?_);rw [evalPart_none];refine d0 ?_;have I4:Inv X pins σ H3 {s3 with heap:=s3.heap.push {cls:=.type "slice",data:=.fields #[vl,vu,.none]}}:=I3.kept (t':=s3.toks) fun b ob q=>de _ q;obtain ⟨T,id,hT,ht,hg⟩:=hr pins {s3 with heap:=s3.heap.push {cls:=.type "slice",data:=.fields #[vl,vu,.none]}} σ H3 x v vl vu l u s3.heap.objs.size Q I4 r1 (Heap.IsSliceOf.new ..) pl pu q3;show wpAny (model X.prog X.w) X.A (subscriptTail e (.Slice lo hi none p2) v (.ref s3.heap.objs.size)) (EP X pins σ Q) X.xe {s3 with heap:=s3.heap.push {cls:=.type "slice",data:=.fields #[vl,vu,.none]}};exact tail_any (ops:=[.ref s3.heap.objs.size,v]) ht hT hg (by with_unfolding_all rfl)
def mq(xs:List V)(lo hi:Option Int):List V:=(xs.drop (HT.d7 xs.length 0 lo)).take (HT.d7 xs.length xs.length hi-HT.d7 xs.length 0 lo)
theorem Nr(xs:List V)(lo hi:Option Int):(mq xs lo hi).length≤xs.length:=by unfold mq;rw [lL,List.length_drop];lia
end
def fk(n:Nat)(i:Int):Option Nat:=if 0≤i then (if i<n then some i.toNat else none) else if -(n:Int)≤i then some (i+n).toNat else none
def cK{α:Type}(xs:List α)(i:Int):Option α:=(fk xs.length i).bind fun j=>xs[j]?
variable {i:Int} {j:Nat}
theorem FK{n:Nat}(h:fk n i=some j):seqIndex? i n=some j∧j<n∧-(n:Int)≤i∧i<n:=by
 unfold fk at h;by_cases h0:0≤i
 ·rw [au h0] at h
  by_cases h1:i<n
  ·rw [au h1] at h
   have e:i.toNat=j:=Option.some.inj h;exact ⟨by rw [seqIndex_of h0 h1,e],by lia,by lia,h1⟩
  ·rw [ar h1] at h;cases h
 ·rw [ar h0] at h
  by_cases h1:-(n:Int)≤i
  ·rw [au h1] at h
   have e:(i+n).toNat=j:=Option.some.inj h;exact ⟨by rw [seqIndex_neg (by lia) h1,e],by lia,h1,by lia⟩
  ·rw [ar h1] at h;cases h
theorem A4{α:Type}{xs:List α}{v:α}(h:cK xs i=some v):∃j,seqIndex? i xs.length=some j∧xs[j]?=some v∧j<xs.length∧-(xs.length:Int)≤i∧i<xs.length:=by
 unfold cK at h;cases e:fk xs.length i with
 | none=>rw [e] at h;cases h
 | some j=>rw [e] at h;obtain ⟨h1,h2,h3,h4⟩:=FK e;exact ⟨j,h1,h,h2,h3,h4⟩
theorem gN{α:Type}{xs:List α}{v:α}(h:xs[j]?=some v):cK xs (j:Int)=some v:=by
 have hj:j<xs.length:=(cG.mp h).1;have e:fk xs.length (j:Int)=some j:=by unfold fk;rw [au (by lia),au (by lia)];simp
 unfold cK;rw [e];exact h
variable {α:Type}
theorem FL(xs:List α)(v:α):cK (xs++[v]) (-1)=some v:=by
 have hl:(xs++[v]).length=xs.length+1:=by simp
 have e:fk (xs++[v]).length (-1)=some xs.length:=by
  unfold fk;rw [hl,ar (by decide),au (by lia)]
  congr 1
  lia
 unfold cK;rw [e];show (xs++[v])[xs.length]?=some v;simp
def FN(b:Expr):Prop:=∀o i,subscripted b false o i=operate [o,i] (getItem o i)
def rh(X:Cx)(r:R2):Prop:=
 ∀(value slice:Expr) (pins:aZ) (s:Shared) (σ:St) (H:Hp) (x y:V) (v u:Value) (Q:VK),Inv X pins σ H s→RelV x v→RelV y u→r x y H Q→
  subscripted slice false v u=operate [v,u] (getItem v u)→wpAny (model X.prog X.w) X.A (subscriptTail value slice v u) (EP X pins σ Q) X.xe s
def A5(X:Cx)(id:String)(r:V→List V→Hp→VK→Prop):Prop:=
 ∀(pins:aZ) (s:Shared) (σ:St) (H:Hp) (x:V) (xs:List V) (v:Value) (us:List Value) (Q:VK),Inv X pins σ H s→RelV x v→Vals xs us→r x xs H Q→
  wpAny (model X.prog X.w) X.A (call (.builtin id) (v::us)) (EP X pins σ Q) X.xe s
section
variable {X:Cx} {a b:Expr} {ta tb:TE} {pos:Pos}
theorem A6{r:R2}(hr:rh X r)(ha:PE X a ta)(hb:PE X b tb)(hs:FN b):PE X (.Subscript a b pos) (kP r ta tb):=by intro pins s σ H Q I h;exact Subscript_ (AQ ha hb I h fun v u s2 x y H2 I2 rx ry q=>hr a b pins s2 σ H2 x y v u Q I2 rx ry q (hs _ _))
theorem az{a:Expr}{r:R2}(hr:rh X r)(ha:PE X a ta)(hb:PE X b tb)(hs:FN b:=by exact fun _ _=>rfl):PE X (.Subscript a b pos) (kP r ta tb):=A6 hr ha hb hs
def FO(K:ax):R2:=fun x y H Q=>∃p xs i v,x=.ref p∧y=.int i∧aX K H p xs∧cK xs i=some v∧Q v H
def FP(K:ax):R2:=fun x y H Q=>∃p xs i v,x=.ref p∧y=.int i∧dU K H p xs∧cK xs i=some v∧Q v H
theorem a_:rh X (FO X.K):=by
 intro value slice pins s σ H x y v u Q I rx ry h hs;obtain ⟨p,xs,i,z,rfl,rfl,hq,he,q⟩:=h;cases rx;obtain ⟨t,rfl⟩:=ry;obtain ⟨ao,r,pl,hz⟩:=I.list hq;obtain ⟨j,h1,h2,h3,h4,h5⟩:=A4 he;obtain ⟨w,ew,ou⟩:=r.get h2;have hl:=r.length;have hn:=vh;have fin:EP X pins σ Q w s:=⟨z,H,I,ou,q⟩;by_cases h0:0≤i
 ·have hj:i.toNat=j:=by rw [seqIndex_of h0 h5] at h1;exact Option.some.inj h1
  exact item_listR pl.isList h0 (by lia) (by rw [hj];simpa using ew) fin hs
 ·have hj:(i+(ao.toArray.size:Int)).toNat=j:=by
   rw [seqIndex_neg (by lia) h4] at h1
   rw [dJ,←hl];exact Option.some.inj h1
  exact subscriptTail_builtinR (x:=w) pl.isList.typeIs slot_list_getitem.lookup
   (wpAny_getItem_list_neg (Q:=fun r s'=>r=w∧EP X pins σ Q r s') pl.isList (by lia) (by rw [dJ] <;> lia) (by lia) (by rw [hj];simpa using ew) ⟨rfl,fin⟩) hs
theorem b7:rh X (FP X.K):=by
 intro value slice pins s σ H x y v u Q I rx ry h hs;obtain ⟨p,xs,i,z,rfl,rfl,hq,he,q⟩:=h;cases rx;obtain ⟨t,rfl⟩:=ry;obtain ⟨ao,r,pl,hz⟩:=I.tuple hq;obtain ⟨j,h1,h2,h3,h4,h5⟩:=A4 he;obtain ⟨w,ew,ou⟩:=r.get h2;have hl:=r.length;have hn:=vh;have fin:EP X pins σ Q w s:=⟨z,H,I,ou,q⟩
 exact subscriptTail_builtinR (x:=w) pl.typeIs slot_tuple_getitem.lookup
  (getItem_tuple (j:=j) (Q:=fun r s'=>r=w∧EP X pins σ Q r s') pl (by lia) (by lia) (by rw [dJ,←hl];exact h1) (by simpa using ew) ⟨rfl,fin⟩) hs
theorem Nt(ao:List Value)(n j:Nat)(u:Value):Obj.mapSeq (·.setIfInBounds j u) {cls:=.type "list",data:=.seq ao.toArray n}={cls:=.type "list",data:=.seq (ao.set j u).toArray n}:=by simp [Obj.mapSeq]
theorem Inv.lst{pins:aZ}{σ:St}{H:Hp}{s:Shared}{p:Addr}{xs:List V}(I:Inv X pins σ H s)(h:H p=some (.lst xs)) :
  ∃(ao:List Value) (n:Nat),Vals xs ao∧s.heap.get? p=some {cls:=.type "list",data:=.seq ao.toArray n}∧xs.length≤sizeLine:=by
 obtain ⟨z,ao,n,r,e⟩:=I.ay p _ h;exact ⟨ao,n,r,e,z⟩
variable {pins:aZ} {σ:St} {H:Hp} {s:Shared}
theorem Inv.Nu{p:Addr}{xs ys:List V}{ao its':List Value}{n n':Nat}{f:Obj→Obj}(I:Inv X pins σ H s)(h:H p=some (.lst xs))
  (ho:s.heap.get? p=some {cls:=.type "list",data:=.seq ao.toArray n}) (hf:f {cls:=.type "list",data:=.seq ao.toArray n}={cls:=.type "list",data:=.seq its'.toArray n'}) (r:Vals ys its') (hz:ys.length≤sizeLine) (t:Nat) :
  Inv X pins σ (upd H p (.lst ys)) {s with heap:=s.heap.update p f,toks:=t}:=by
 have e:(s.heap.update p f).get? p=some {cls:=.type "list",data:=.seq its'.toArray n'}:=by rw [Heap.get?_update_self f ho (by rw [hf] <;> rfl),hf]
 refine I.write (x:=p) (e:=p) (by rw [h];trivial) (.inl rfl) (fun b u hb q=>(Heap.get?_update_other _ _ (Ne.symm hb)).trans q) ⟨_,e⟩ ?_
 exact ⟨hz,its',n',r,e⟩
def Nv:V→V→V→Hp→(Hp→Prop)→Prop:=fun o i v H Q=>∃p xs k j,o=.ref p∧i=.int k∧H p=some (.lst xs)∧fk xs.length k=some j∧Q (upd H p (.lst (xs.set j v)))
theorem set_list:AJ X Nv:=by
 intro pins s σ H o i v ov iv u Q I ro ri rv h;obtain ⟨p,xs,k,j,rfl,rfl,hp,hj,q⟩:=h;cases ro;obtain ⟨t,rfl⟩:=ri;obtain ⟨ao,n,r,ho,hz⟩:=I.lst hp;obtain ⟨h1,h2,h3,h4⟩:=FK hj;have hl:=r.length;have hn:=vh;have I':Inv X pins σ (upd H p (.lst (xs.set j v))) {s with heap:=s.heap.update p (Obj.mapSeq (·.setIfInBounds j u))}:=
  I.Nu hp ho (Nt ao n j u) (r.set rv j) (by rw [uR];exact hz) s.toks
 by_cases h0:0≤k
 ·have hk:k.toNat=j:=by rw [seqIndex_of h0 h4] at h1;exact Option.some.inj h1
  exact PySem.W.ki_setAt ho h0 (by lia) (by rw [dJ,←hl];exact h4) (by rw [hk];exact ⟨_,I',q⟩)
 ·have hk:(k+(ao.toArray.size:Int)).toNat=j:=by
   rw [seqIndex_neg (by lia) h3] at h1
   rw [dJ,←hl];exact Option.some.inj h1
  exact PySem.W.ki_setBack ho (by lia) (by rw [dJ,←hl];exact h3) (by lia) (by rw [hk];exact ⟨_,I',q⟩)
theorem Nw(lo hi:Option Int)(n:Nat):(sliceBounds lo hi none n).1=((HT.d7 n 0 lo:Nat):Int)∧(sliceBounds lo hi none n).2.1=((HT.d7 n n hi:Nat):Int)∧(sliceBounds lo hi none n).2.2=1:=by
 refine ⟨?_,?_,rfl⟩
 ·cases lo with
  | none=>simp [sliceBounds,HT.d7]
  | some i=>
   simp only [sliceBounds,HT.d7,Option.getD_none,show (1:Int)>0 by decide,if_true]
   by_cases h:i<0;·simp only [h,if_true] <;> lia
   ·simp only [h,if_false] <;> lia
 ·cases hi with
  | none=>simp [sliceBounds,HT.d7]
  | some i=>
   simp only [sliceBounds,HT.d7,Option.getD_none,show (1:Int)>0 by decide,if_true]
   by_cases h:i<0;·simp only [h,if_true] <;> lia
   ·simp only [h,if_false] <;> lia
theorem Nx(ao:List Value)(lo hi:Option Int):slicePick ao.toArray lo hi none=((ao.drop (HT.d7 ao.length 0 lo)).take (HT.d7 ao.length ao.length hi-HT.d7 ao.length 0 lo)).toArray:=by obtain ⟨h1,h2,h3⟩:=Nw lo hi ao.toArray.size;unfold slicePick;rw [h1,h2,h3];simp only [sliceRange_one,pick_run,dJ] <;> rfl
def Ny(K:ax):V→Option Int→Option Int→Hp→VK→Prop:=fun x lo hi H Q=>∃a xs,x=.ref a∧aX K H a xs∧∀p,H p=none→Q (.ref p) (upd H p (.lst (mq xs lo hi)))
theorem rj:FJ X (Ny X.K):=by
 intro pins s σ H x v vl vu lo hi sl Q I rx hs pl pu h;obtain ⟨a,xs,rfl,hx,q⟩:=h;cases rx;obtain ⟨ao,r,ht,hz⟩:=I.list hx;have hlen:=r.length;refine ⟨"list",_,slot_list_getitem.lookup,ht.isList.typeIs,?_⟩;refine wpAny_getItem_list_slice ht.isList hs pl pu .none (by simp) ?_ (by rw [dJ] <;> lia)
 rw [Nx,←hlen];refine ⟨.ref s.heap.objs.size,_,I.laid (t':=s.toks) (o:=.lst (mq xs lo hi)) (fun b ob q=>de _ q) (aO _) ?_,rfl,q _ (I.ay.fresh (aO _))⟩;exact ⟨ai (Nr xs lo hi) hz,_,0,(r.drop (HT.d7 xs.length 0 lo)).take (HT.d7 xs.length xs.length hi-HT.d7 xs.length 0 lo),gg _ rfl⟩
def jT:V→Bool
 | .aH=>true
 | .bl _=>true
 | .int _=>true
 | .str _=>true
 | _=>false
def rk:V→V→Bool
 | .aH,.aH=>true
 | .bl a,.bl b=>a == b
 | .bl a,.int b=>(if a then 1 else 0) == b
 | .int a,.bl b=>a == (if b then 1 else 0)
 | .int a,.int b=>a == b
 | .str a,.str b=>a == b
 | _,_=>false
variable {x:V} {v:Value}
theorem A7{A:Around}{y:V}{u:Value}(ry:RelV y u)(rx:RelV x v)(fy:jT y=true)(fx:jT x=true):SeqAt.EqAt A s u v (rk y x):=by
 cases y with
 | aH=>
  cases ry;cases x with
  | aH=>cases rx;exact SeqAt.EqAt.same _
  | bl b=>cases rx;exact SeqAt.EqAt.none_bool b
  | int b=>obtain ⟨t,rfl⟩:=rx;exact SeqAt.EqAt.none_int b t
  | str b=>obtain ⟨t,rfl⟩:=rx;exact SeqAt.EqAt.none_str b t
  | _=>exact absurd (show false=true from fx) cZ
 | bl a=>
  cases ry;cases x with
  | aH=>cases rx;exact SeqAt.EqAt.bool_none a
  | bl b=>cases rx;exact SeqAt.EqAt.bool_bool a b
  | int b=>obtain ⟨t,rfl⟩:=rx;exact SeqAt.EqAt.bool_int a b t
  | str b=>obtain ⟨t,rfl⟩:=rx;exact SeqAt.EqAt.bool_str a b t
  | _=>exact absurd (show false=true from fx) cZ
 | int a=>
  obtain ⟨t',rfl⟩:=ry;cases x with
  | aH=>cases rx;exact SeqAt.EqAt.int_none a t'
  | bl b=>cases rx;exact SeqAt.EqAt.int_bool a t' b
  | int b=>obtain ⟨t,rfl⟩:=rx;exact SeqAt.EqAt.int_int a t' b t
  | str b=>obtain ⟨t,rfl⟩:=rx;exact SeqAt.EqAt.int_str a t' b t
  | _=>exact absurd (show false=true from fx) cZ
 | str a=>
  obtain ⟨t',rfl⟩:=ry;cases x with
  | aH=>cases rx;exact SeqAt.EqAt.str_none a t'
  | bl b=>cases rx;exact SeqAt.EqAt.str_bool a t' b
  | int b=>obtain ⟨t,rfl⟩:=rx;exact SeqAt.EqAt.str_int a t' b t
  | str b=>obtain ⟨t,rfl⟩:=rx;exact SeqAt.EqAt.str_str a t' b t
  | _=>exact absurd (show false=true from fx) cZ
 | _=>exact absurd (show false=true from fy) cZ
theorem cD:jR X (.builtin "len") (fun xs H Q=>∃p ys,xs=[.ref p]∧(aX X.K H p ys∨dU X.K H p ys)∧Q (.int ys.length) H):=by
 intro pins s σ H xs us Q I r h;obtain ⟨p,ys,rfl,hq,q⟩:=h;obtain ⟨u,rfl,rx⟩:=vals1 r;cases rx;have hn:=vh;rcases hq with hq | hq
 ·obtain ⟨ao,r',pl,hz⟩:=I.list hq
  have hlen:=r'.length;exact Calls.call_len_list pl.isList (by simp only [dJ] <;> lia) ⟨.int ys.length,H,I.tok _,⟨s.toks+1,by rw [dJ,hlen]⟩,q⟩
 ·obtain ⟨ao,r',pl,hz⟩:=I.tuple hq
  have hlen:=r'.length;exact len_tuple pl (by simp only [dJ] <;> lia) ⟨.int ys.length,H,I.tok _,⟨s.toks+1,by rw [dJ,hlen]⟩,q⟩
theorem vk:jR X (.type "list") (fun xs H Q=>∃p ys,xs=[.ref p]∧(aX X.K H p ys∨dU X.K H p ys)∧∀l,H l=none→Q (.ref l) (upd H l (.lst ys))):=by
 intro pins s σ H xs us Q I r h;obtain ⟨p,ys,rfl,hq,q⟩:=h;obtain ⟨u,rfl,rx⟩:=vals1 r;cases rx
 have fin:∀(ao:List Value),Vals ys ao→ys.length≤sizeLine→∀(h':Heap) (c':Nat),(∀b o',s.heap.get? b=some o'→h'.get? b=some o')→
   h'.get? s.heap.objs.size=some {cls:=.type "list",dict:=none,data:=.seq ao.toArray c',slots:=#[]}→EP X pins σ Q (.ref s.heap.objs.size) {s with heap:=h'}:=fun ao r' hz h' c' kp e=>
  ⟨.ref s.heap.objs.size,_,I.laid (t':=s.toks) kp (aO _) (show d5 X.prog X.w _ h' _ (.lst ys) from ⟨hz,ao,c',r',e⟩),rfl,q _ (I.ay.fresh (aO _))⟩
 rcases hq with hq | hq
 ·obtain ⟨ao,r',pl,hz⟩:=I.list hq
  have hlen:=r'.length;obtain ⟨o,ho,hc,n,hd⟩:=pl.isList;exact call_list_seq p (.inl rfl) ho hc hd (fun h' c' kp e=>fin ao r' hz h' c' kp e) (by simp only [dJ] <;> lia)
 ·obtain ⟨ao,r',pl,hz⟩:=I.tuple hq
  have hlen:=r'.length;obtain ⟨o,ho,hc,n,hd⟩:=pl;exact call_list_seq p (.inr rfl) ho hc hd (fun h' c' kp e=>fin ao r' hz h' c' kp e) (by simp only [dJ] <;> lia)
def A8(K:ax)(T:String)(x:V)(H:Hp):Prop:=match x with
 | .str _=>T="str"
 | .int _=>T="int"
 | .ref p=>(T="list"∧∃xs,aX K H p xs)∨(T="tuple"∧∃o,K.lookup p=some o∧o.cls=.type "tuple"∧o.dict=none) ∨
   (T="dict"∧((∃dw,H p=some (.dK dw))∨∃dw,H p=some (.dT dw)))∨(T="set"∧∃S n,H p=some (.set S n))
 | _=>False
theorem FQ{T:String}(I:Inv X pins σ H s)(r:RelV x v)(ty:A8 X.K T x H) :
  s.TypeIs v T∧∀a,v=.ref a→∃ob,s.heap.get? a=some ob∧ob.dict=none:=by
 cases x with
 | str z=>obtain ⟨t,rfl⟩:=r;cases (show T="str" from ty);exact ⟨typeIs_str s z t,fun _ e=>nomatch e⟩
 | int i=>obtain ⟨t,rfl⟩:=r;cases (show T="int" from ty);exact ⟨typeIs_int s i t,fun _ e=>nomatch e⟩
 | ref p=>
  cases r;rcases ty with ⟨rfl,xs,hq⟩ | ⟨rfl,o,hk,hc,hd⟩ | ⟨rfl,hk⟩ | ⟨rfl,S,n,hk⟩
  ·obtain ⟨ao,_,pl,_⟩:=I.list hq
   refine ⟨pl.isList.typeIs,fun a e=>?_⟩;cases e;obtain ⟨o,n,e,c,hd,_⟩:=pl;exact ⟨o,e,hd⟩
  ·refine ⟨⟨o,I.dr p o hk,hc⟩,fun a e=>?_⟩
   cases e;exact ⟨o,I.dr _ o hk,hd⟩
  ·have z:∃o,s.heap.get? p=some o∧o.ExactDict:=by
    rcases hk with ⟨dw,hk⟩ | ⟨dw,hk⟩
    ·obtain ⟨_,_,_,_,o,_,_,e,ex,_⟩:=I.ay p _ hk
     exact ⟨o,e,ex⟩
    ·obtain ⟨_,_,_,_,o,_,_,e,ex,_⟩:=I.ay p _ hk
     exact ⟨o,e,ex⟩
   obtain ⟨o,e,ex⟩:=z;refine ⟨⟨o,e,ex.1⟩,fun a e2=>?_⟩;cases e2;exact ⟨o,e,ex.2.1⟩
  ·obtain ⟨o,_,_,_,e,ex,_⟩:=I.ay p _ hk
   refine ⟨⟨o,e,ex.1⟩,fun a e2=>?_⟩;cases e2;exact ⟨o,e,ex.2.1⟩
 | _=>exact False.elim ty
def Nz(K:ax)(T:String)(r:V→List V→Hp→VK→Prop)(to:TE):TE:=fun σ H Q=>to σ H fun x H1=>A8 K T x H1∧r x [] H1 Q
def NA(K:ax)(T:String)(r:V→List V→Hp→VK→Prop)(to:TE)(t:TA):TE:=fun σ H Q=>to σ H fun x H1=>A8 K T x H1∧t σ H1 fun xs H2=>r x xs H2 Q
variable {o e:Expr} {es:List Expr} {to:TE} {t:TA} {name:Str} {apos gO:Pos} {T id:String} {r:V→List V→Hp→VK→Prop}
theorem NB(pa:PlainAttrs T)(slot:Slot T name id)(A9:typeOf (.builtin id)=pure (.type "method_descriptor"))(hm:A5 X id r)(ho:PE X o to)
  (A_:attributeBase o name X.env (eval o X.env)=eval o X.env:=by rfl) (Ba:(apos.endLine == gO.line)=true:=by rfl):PE X (.Call (.Attribute o name apos) [] [] gO) (Nz X.K T r to):=by
 intro pins s σ H Q I h;refine wpAny_Call_method0_late A_ Ba (aB (ho pins s σ H _ I h) fun v s1 ⟨x,H1,I1,r1,ty,q1⟩=>?_);obtain ⟨h1,h2⟩:=FQ I1 r1 ty;exact ⟨T,id,pa,slot,A9,h1,h2,Calls.callWith_builtin rfl (PySem.evalArgs_none (hm pins s1 σ H1 x [] v [] Q I1 r1 .nil q1))⟩
theorem FR(pa:PlainAttrs T)(slot:Slot T name id)(A9:typeOf (.builtin id)=pure (.type "method_descriptor"))(hm:A5 X id r)(ho:PE X o to)(ha:PA X (e::es) t)
  (A_:attributeBase o name X.env (eval o X.env)=eval o X.env:=by rfl)
  (NC:((backTo gO (starEach (e::es) X.env)).all (fun x=>!x.1) && (backToKw gO (keywordEach [] X.env)).all (fun x=>x.1.isSome)
   && decide ((e::es).length+([]:List Keyword).length+(if ([]:List Keyword).isEmpty then 0 else 1)<30))=true:=by rfl)
  (Ba:(apos.endLine == gO.line)=true:=by rfl) (hs:starEach (e::es) X.env=(false,eval e X.env)::starEach es X.env:=by rfl) (ND:(backTo gO (starEach es X.env)).any (·.1)=false:=by rfl) :
  PE X (.Call (.Attribute o name apos) (e::es) [] gO) (NA X.K T r to t):=by
 intro pins s σ H Q I h;refine wpAny_Call_method_late A_ NC Ba rfl (aB (ho pins s σ H _ I h) fun v s1 ⟨x,H1,I1,r1,ty,q1⟩=>?_);obtain ⟨h1,h2⟩:=FQ I1 r1 ty;refine ⟨T,id,pa,slot,A9,h1,h2,?_⟩;have hA:=ha gO pins s1 σ H1 _ I1 q1;rw [hs] at hA ⊢;refine Calls.callWith_builtin (by show (false || (backTo gO (starEach es X.env)).any (·.1))=false;rw [ND] <;> rfl) (Calls.evalArgs_plain ?_)
 exact aB hA fun us s2 ⟨vs,H2,I2,r2,q2⟩=>hm pins s2 σ H2 x vs v us Q I2 r1 r2 q2
end
def FT(X:Cx)(id:String)(r:V→List V→Hp→VK→Prop):Prop:=
 ∀(pins:aZ) (s:Shared) (σ:St) (H:Hp) (x:V) (xs:List V) (v:Value) (us:List Value) (Q:VK),Inv X pins σ H s→RelV x v→Vals xs us→r x xs H Q→
  wpAny (model X.prog X.w) X.A (call (.builtin id) (v::us)) (EP X pins σ Q) X.xe s
theorem Vals.one:∀{x:V} {us:List Value},Vals [x] us→∃u,us=[u]∧RelV x u
 | _,_,.cons r .nil=>⟨_,rfl,r⟩
theorem Vals.zero:∀{us:List Value},Vals [] us→us=[]
 | _,.nil=>rfl
theorem Vals.rep{xs:List V}{us:List Value}(h:Vals xs us):∀k:Nat,Vals (List.replicate k xs).flatten (List.replicate k us).flatten
 | 0=>.nil
 | k+1=>by rw [lM,lM,uS,uS];exact Vals.append h (Vals.rep h k)
theorem foldl_rep(ao:List Value):∀(k:Nat) (acc:List Value),
  List.foldl (fun x1 x2=>x1++x2) acc.toArray (List.replicate k ao.toArray)=(acc++(List.replicate k ao).flatten).toArray
 | 0,acc=>by simp
 | k+1,acc=>by
  have e:acc.toArray++ao.toArray=(acc++ao).toArray:=by simp
  have e2:(acc++ao)++(List.replicate k ao).flatten=acc++(List.replicate (k+1) ao).flatten:=by rw [lM,uS,gH]
  rw [←e2,←foldl_rep ao k (acc++ao),←e,lM,List.foldl_cons]
section
variable {X:Cx} {pins:aZ} {σ:St} {H:Hp} {s:Shared} {l b:Addr} {xs ys zs:List V}
variable {ao:List Value} {n t':Nat}
theorem Inv.FU{its':List Value}{f:Array Value→Array Value}(I:Inv X pins σ H s)(hH:H l=some (.lst xs))
  (e:s.heap.get? l=some {cls:=.type "list",data:=.seq ao.toArray n}) (hf:f ao.toArray=its'.toArray) (hv:Vals ys its') (hz:ys.length≤sizeLine) :
  Inv X pins σ (upd H l (.lst ys)) {s with heap:=s.heap.update l (Obj.mapSeq f),toks:=t'}:=by
 have q:=PySem.IsL.update e f;rw [hf] at q;refine I.write (x:=l) (e:=l) (by rw [hH];exact trivial) (.inl rfl) (fun b' u hb hu=>(Heap.get?_update_other s.heap (Obj.mapSeq f) (Ne.symm hb)).trans hu) ⟨_,q⟩ ?_
 exact ⟨hz,its',_,hv,q⟩
theorem Inv.FV(I:Inv X pins σ H s)(hv:Vals ys ao)(hz:ys.length≤sizeLine) :
  Inv X pins σ (upd H s.heap.objs.size (.lst ys)) {s with heap:=s.heap.push {cls:=.type "list",data:=.seq ao.toArray},toks:=t'}:=
 I.laid (fun _ _ q=>de _ q) (aO _) ⟨hz,ao,0,hv,gg _ rfl⟩
theorem Inv.fresh(I:Inv X pins σ H s):H s.heap.objs.size=none:=I.ay.fresh (aO _)
theorem Inv.rl(I:Inv X pins σ H s)(hH:H l=some (.lst xs)):xs.length≤sizeLine∧∃(ao:List Value) (n:Nat),Vals xs ao∧xs.length=ao.length∧s.heap.get? l=some {cls:=.type "list",data:=.seq ao.toArray n}:=by obtain ⟨z,ao,n,r,e⟩:=I.ay l _ hH;exact ⟨z,ao,n,r,r.length,e⟩
theorem FW(h:n≤sizeLine):Builtin.List.listTooLong n=false:=by unfold Builtin.List.listTooLong;exact gU (by lia)
end
section
variable {X:Cx}
def NF:V→List V→Hp→VK→Prop:=fun x vs H Q=>∃l xs y,x=.ref l∧vs=[y]∧H l=some (.lst xs)∧xs.length<sizeLine∧Q .aH (upd H l (.lst (xs++[y])))
theorem rp:FT X "list.append" NF:=by
 intro pins s σ H x vs v us Q I rx rv h;obtain ⟨l,xs,y,rfl,rfl,hH,hz,q⟩:=h;cases rx;obtain ⟨u,rfl,ru⟩:=rv.one;obtain ⟨z,ao,n,r,hl,e⟩:=I.rl hH;refine call_meets F.slot_list_append ⟨_,e,rfl⟩ F.entry_list_append (F.args_list_append_2 _ _) (PySem.list_append l ao.toArray n u (by rw [dJ];lia)) ⟨e,?_⟩
 refine ⟨.aH,_,I.FU (its':=ao++[u]) hH e (by simp) (r.append (.cons ru .nil)) ?_,rfl,q⟩
 rw [iu,As];lia
def NG:V→List V→Hp→VK→Prop:=fun x vs H Q=>∃l b xs zs,x=.ref l∧vs=[.ref b]∧H l=some (.lst xs)∧H b=some (.lst zs)∧xs.length+zs.length≤sizeLine∧Q .aH (upd H l (.lst (xs++zs)))
theorem Y2:FT X "list.extend" NG:=by
 intro pins s σ H x vs v us Q I rx rv h;obtain ⟨l,b,xs,zs,rfl,rfl,hH,hB,hz,q⟩:=h;cases rx;obtain ⟨u,rfl,ru⟩:=rv.one;cases ru;obtain ⟨z,ao,n,r,hl,e⟩:=I.rl hH;obtain ⟨z2,oG,n2,r2,NH,e2⟩:=I.rl hB;have Fs:ao.toArray.size+oG.toArray.size≤sizeLine:=by rw [dJ,dJ];lia
 have Bb:¬(!ao.toArray.isEmpty && Builtin.List.listTooLong (ao.toArray.size+oG.toArray.size))=true:=by rw [FW Fs,Bool.and_false];exact cZ
 refine call_meets F.slot_list_extend ⟨_,e,rfl⟩ F.entry_list_extend (F.args_list_extend_2 _ _)
  (AutoSeq1.list_extend_list_list_0 l ao.toArray n b oG.toArray n2 Bb (by rw [dJ];lia) (by lia)) ⟨e,e2,?_⟩
 refine ⟨.aH,_,I.FU (its':=ao++oG) hH e (by simp) (r.append r2) ?_,rfl,q⟩
 rw [iu];lia
def NI:R2:=fun x y H Q=>∃l b xs zs,x=.ref l∧y=.ref b∧H l=some (.lst xs)∧H b=some (.lst zs)∧xs.length+zs.length≤sizeLine∧∀p,H p=none→Q (.ref p) (upd H p (.lst (xs++zs)))
theorem oH:cC X (binaryOp .Add) NI:=by
 intro pins s σ H x y v u Q I rx ry h;obtain ⟨l,b,xs,zs,rfl,rfl,hH,hB,hz,q⟩:=h;cases rx;cases ry;obtain ⟨z,ao,n,r,hl,e⟩:=I.rl hH;obtain ⟨z2,oG,n2,r2,NH,e2⟩:=I.rl hB;refine PySem.P.add_list e e2 ?_ (by rw [dJ,dJ];lia)
 have ea:ao.toArray++oG.toArray=(ao++oG).toArray:=by simp
 rw [ea];exact ⟨.ref _,_,I.FV (t':=s.toks) (r.append r2) (by rw [iu];lia),rfl,q _ I.fresh⟩
def NK:R2:=fun x y H Q=>∃l k xs,x=.ref l∧y=.int k∧H l=some (.lst xs)∧-(2 ^ 63)≤k∧k<2 ^ 63∧xs.length*k.toNat≤sizeLine ∧
 ∀p,H p=none→Q (.ref p) (upd H p (.lst (List.replicate k.toNat xs).flatten))
theorem len_rep(xs:List α)(k:Nat):(List.replicate k xs).flatten.length=k*xs.length:=by
 induction k with
 | zero=>simp
 | succ k ih=>rw [lM,uS,iu,ih,Nat.succ_mul,Nat.add_comm]
theorem xV:cC X (binaryOp .Mult) NK:=by
 intro pins s σ H x y v u Q I rx ry h;obtain ⟨l,k,xs,rfl,rfl,hH,h1,h2,hz,q⟩:=h;cases rx;obtain ⟨t,rfl⟩:=ry;obtain ⟨z,ao,n,r,hl,e⟩:=I.rl hH;have hlen:ao.toArray.size*k.toNat≤sizeLine:=by rw [dJ,←hl];exact hz
 have NL:¬ao.toArray.size*k.toNat>(2 ^ 63-1) / 8:=by
  have:(sizeLine:Nat)≤(2 ^ 63-1) / 8:=by decide
  lia
 have NM:¬(!Builtin.List.listFitsIndex k)=true:=by rw [fitsIndex_both h1 h2];exact cZ
 have Bb:¬Builtin.List.listTooLong (ao.toArray.size*k.toNat)=true:=by rw [FW hlen];exact cZ
 have NN:List.foldl (fun x1 x2=>x1++x2) #[] (List.replicate (if ao.toArray.isEmpty=true then 0 else k.toNat) ao.toArray)=(List.replicate k.toNat ao).flatten.toArray:=by
  have f0:∀m:Nat,List.foldl (fun x1 x2=>x1++x2) #[] (List.replicate m ao.toArray)=(List.replicate m ao).flatten.toArray:=fun m=>by have:=foldl_rep ao m [];rw [fh] at this;exact this
  rw [f0];cases ao with
  | nil=>simp
  | cons a r'=>rw [ar (by simp)]
 refine wpAny_binaryOp_repeat_ref (T:="list") (U:="int") (by decide) ⟨_,e,rfl⟩ (fun s'=>typeIs_int s' k t) noFill_list_mul F.fills_int_mul F.slot_int_rmul repeat_list F.slot_int_index.lookup
  (call_meets F.slot_int_rmul (typeIs_int s k t) F.entry_int_rmul (F.args_int_rmul_2 _ _) (int___rmul___int_list k t l ao.toArray n)
   ⟨e,rfl,⟨_,e,rfl⟩,call_meets F.slot_list_mul ⟨_,e,rfl⟩ F.entry_list_mul (F.args_list_mul_2 _ _) (AutoListH.list___mul___list_int_3 l ao.toArray n k t NM NL Bb) ⟨e,?_⟩⟩)
 rw [NN];exact ⟨.ref _,_,I.FV (t':=s.toks) (r.rep k.toNat) (by rw [len_rep,jB];exact hz),rfl,q _ I.fresh⟩
end
section
variable {prog:Program} {w:World} {A:Around} {E:bV} {s:Shared}
end
section
variable {X:Cx}
end
end L2
namespace FX
open PySem PySem.W PySem.Calls PyProof.Rows
variable {P:Params} {h:Heap}
theorem NO:∀(ns:List Int) (vs:List Value),WellAll P h vs (ns.map WData.int)→IntsAre vs ns:=by
 intro ns
 induction ns with
 | nil=>intro vs w;rw [List.map_nil] at w;cases w;exact .nil
 | cons n ns ih=>
  intro vs w;rw [nO] at w;cases w with
  | cons a b=>cases a;exact .cons _ _ (ih _ b)
variable {l:OpenLaw} {n:Nat}
theorem NP(hn:l.most=some n){args:List WData}{vals:List Value}
  (xW:l.row.toRowW.claim.pre args=true) (Bc:WellAll P h vals args) :
  ∃a vs ns,vals=[Value.ref a]∧args=[WData.list (ns.map WData.int)]∧h.get? a=some {cls:=.type "list",data:=.seq vs.toArray}∧IntsAre vs ns∧ns.length≤n:=by
 have NQ:WShape.hasAll [] args [.list .int]=true:=(pre_splitW xW).1;have hc:l.pre.holds [] {args:=args}=true:=(pre_splitW xW).2;obtain ⟨d,r,rfl,h1,h2⟩:=hasAllW_cons NQ;obtain rfl:=hasAllW_nil h2;obtain ⟨xs,rfl,h3⟩:=hasW_list h1;obtain ⟨ns,rfl⟩:=items_int h3;have hlen:ns.length≤n:=by
  unfold OpenLaw.pre at hc;have h4:(WTm.not (.lt (.lit (.int (n:Int))) (.len (.arg 0)))).holds [] {args:=[.list (ns.map .int)]}=true:=by have h4:=(holds_andW hc).1;rw [hn] at h4;exact h4
  have h5:=condW_of h4 (w_not (w_lt w_lit (w_len_list (w_arg rfl))));rw [aW] at h5;refine Nat.le_of_not_lt fun q=>?_;have q':(n:Int)<((ns.length:Nat):Int):=by lia
  first
   | (rw [dM q'] at h5;exact absurd h5 (by decide))
   | (simp at h5;lia)
 cases Bc with
 | cons w1 w2=>
  cases w2;cases w1 with
  | list ho NR=>exact ⟨_,_,ns,rfl,rfl,ho,NO ns _ NR,hlen⟩
theorem NS(l:OpenLaw)(args:List WData):l.row.toRowW.claim.post args (.bool true) args=true:=
 postW_of (r:=l.row.toRowW) (X:=(true == true))
  (show WShape.has [] (.bool true) .bool=true by first | rfl | decide | simp [WShape.has,WShape.arms,WShape.armsAll])
  (show (WTm.eq .res (.lit (.bool true))).value [] {args:=args,res:=some (.bool true),after:=args}=some (.bool (true == true)) from w_eq_bool (w_res rfl) w_lit) rfl
theorem NT{q:Program}{loose:List Str}{XP:(Str→Option Value)→Heap→Prop}{YP:World→Heap→Prop}{d:DefRec}
  (hn:l.most=some n) (mw:d.params.defaults=[])
  (call:∀(w:World) (s₀ s₁:Shared) (mg mb:dh) (fa:Addr) (o:Obj) (pm cd doc:Value) (a:Addr) (vs:List Value) (ns:List Int),
   Ground q loose [] XP w s₀ mg mb s₁.heap→YP w s₁.heap→
   s₁.heap.get? fa=some o→o.data=.func (docDef d.name d.params d.body d.scope pm cd doc)→s₁.heap.CodeRec cd d.name→mg d.name=some (.ref fa)→
   s₁.heap.get? a=some {cls:=.type "list",data:=.seq vs.toArray}→IntsAre vs ns→ns.length≤n→s₁.gens = #[]→
   codeAny (model l.prog w) callerA (.call (.ref fa) ⟨[.ref a],[]⟩) (fun r s'=>r=.ok (.ret (.bool true))∧OldK s₁.heap s'.heap∧s'.os=s₁.os∧AllBare s'.gens) s₁) :
  WalkO q loose XP YP l.row.toRowW d [] (fun f vs=>PySem.call f vs):=by
 intro w s₀ s₁ mg mb G Y fa o pm cd doc dV kV ho hd eU hD vm hg args vals as xW Zp Zq Bc Zr;obtain rfl:dV=.none:=Dflts.none hD mw;obtain rfl:kV=.none:=Dflts.noKw hD;obtain ⟨a,vs,ns,rfl,rfl,Bd,hints,hlen⟩:=NP hn xW Bc;refine enter_call (codeAny_mono (call w s₀ s₁ mg mb fa o pm cd doc a vs ns G Y ho (fd_plain hd) eU vm Bd hints hlen hg) fun r s' hq=>?_);obtain ⟨rfl,h2,h3,h4⟩:=hq;exact ⟨.inl ⟨.bool true,.bool true,[],rfl,fun _=>rfl,.bool true,NS l _,fun _=>⟨List.Pairwise.nil,fun _ hm=>(nomatch hm)⟩⟩,h2,h3,h4⟩
section
variable {prog:Program} {w:World} {A:Around} {E:bV} {s:Shared} {K:Frag}
end
end FX
namespace L2
open PySem PySem.Spec PyProof.Rows
theorem FY:∀{vs:List Value} {ns:List Int},IntsAre vs ns→Vals (ns.map V.int) vs
 | _,_,.nil=>.nil
 | _,_,.cons n t h=>.cons ⟨t,rfl⟩ (FY h)
def Be(H:Hp):Prop:=∀b,H b=none∨∃o xs,H b=some (.fO o (.lst xs))
variable {K:ax} {k:Nat} {x:Str}
theorem NU{P:Program}{w:World}{mg mb:dh}{CX:ic}{fa a:Addr}{fd:FuncData}{sp:Sp}{s₁:Shared}{vs:List Value}{ns:List Int}
  (KX:K.In s₁.heap) (FZ:s₁.heap.Ns mainGlobals mg) (hb:s₁.heap.Ns builtinsNs mb) (NV:∀x:Str,x ≠ "__name__"→mb x=bootBuiltins x) (NW:s₁.heap.NoLimit) (hg:s₁.gens = #[])
  (ha:s₁.heap.get? a=some {cls:=.type "list",data:=.seq vs.toArray}) (hi:IntsAre vs ns) (hl:ns.length≤sizeLine) (hr:cW k callerA)
  (F:∀base:Heap,K.In base→base.Ns mainGlobals mg→a8 P w K mg base CX k fa fd [x] sp) (NX:∀(s:Shared) (u:Value),BindsTo s fd ⟨[u],[]⟩ [(x,u)])
  (iK:∀H:Hp,Be H→aX K H a (ns.map V.int)→sp [.ref a] H (fun v _=>v=.bl true) fun _ _ _=>False)
  (Bf:∀H e s',CX [] H s₁ (fun _ _ _=>False) e s'→False) :
  codeAny (model P w) callerA (.call (.ref fa) ⟨[.ref a],[]⟩) (fun r s'=>r=.ok (.ret (.bool true))∧OldK s₁.heap s'.heap∧s'.os=s₁.os∧AllBare s'.gens) s₁:=by
 have rv:=FY hi;have NY:=hi.length
 have core:∀H:Hp,Be H→aX K H a (ns.map V.int)→cJ P w H s₁.heap→(∀b,H b≠none→b=a)→(H a≠none→K.lookup a=none)→
   codeAny (model P w) callerA (.call (.ref fa) ⟨[.ref a],[]⟩) (fun r s'=>r=.ok (.ret (.bool true))∧OldK s₁.heap s'.heap∧s'.os=s₁.os∧AllBare s'.gens) s₁:=by
  intro H hO hS ay hA hK;have F0:∀{b:Addr} {o:Obj},s₁.heap.get? b=some o→H b=none→(kF s₁.heap H).get? b=some o:=fun e n=>L7 e n;have vj:∀{b:Addr} {o:Obj} {es:Array DictEntry} {ep:Nat},s₁.heap.get? b=some o→o.data=.dict es ep→H b=none:=fun{b o es ep} e d=>by
   cases q:H b with
   | none=>rfl
   | some u=>
    have e':b=a:=hA b (by rw [q];simp)
    subst e';rw [ha] at e;cases e;have d':Data.seq vs.toArray _=Data.dict es ep:=d;cases d'
  have xX:∀{b:Addr} {m:dh},s₁.heap.Ns b m→(kF s₁.heap H).Ns b m:=fun{b m} ⟨o,es,ep,e,d,r⟩=>⟨o,es,ep,F0 e (vj e d),d,r⟩;have F3:K.In (kF s₁.heap H):=fun b o e=>F0 (KX b o e) (by
   cases q:H b with
   | none=>rfl
   | some u=>
    have e':b=a:=hA b (by rw [q];simp)
    subst e';rw [hK (by rw [q];simp)] at e;cases e)
  have hM:Mod K mg (kF s₁.heap H):=⟨F3,xX FZ,⟨mb,xX hb,NV⟩,let ⟨mc,h1,h2⟩:=NW;⟨mc,xX h1,h2⟩⟩
  have e0:oE P w K mg (kF s₁.heap H) callerA [] s₁ H:=⟨rfl,hM,fun b o e=>L8 e,i5 (L6 _ _),trivial,fun b hb=>absurd (show b∈([]:List Addr) from hb) (by simp),ay,.of_eq hg⟩
  refine codeAny_mono ((F _ F3 (xX FZ)).run callerA [] s₁ H ⟨[.ref a],[]⟩ [.ref a] [.ref a] _ _ hr e0 (NX s₁ (.ref a)) (.cons rfl .nil) (iK H hO hS)) fun r s' h=>?_;cases r with
  | error e=>exact (Bf H e s' h).elim
  | ok fl=>
   cases fl with
   | next=>exact False.elim h
   | brk=>exact False.elim h
   | cont=>exact False.elim h
   | ret u=>
    obtain ⟨v,H',os,bare,un,NZ,r',q⟩:=h;have q':v=.bl true:=q;subst q';obtain rfl:u=Value.bool true:=r';refine ⟨rfl,OldK.of_keep fun b o e=>?_,os,bare⟩;cases q:H b with
    | none=>exact un.keep b o e q (by intro z;exact absurd (show b∈([]:List Addr) from z) (by simp)) (by simp)
    | some u=>
     rcases hO b with z | ⟨ob,xs,z⟩;·rw [q] at z;cases z
     ·have z2:=un.fF b ob _ z
      obtain ⟨e1,_⟩:=ay b _ z;obtain ⟨e2,_⟩:=NZ b _ z2;rw [e] at e1;cases e1;exact e2
 cases hk:K.lookup a with
 | some o=>have e:=KX a o hk;rw [ha] at e;cases e;refine core (fun _=>none) (fun _=>.inl rfl) (.inr ⟨_,vs.toArray,_,hk,rfl,rfl,rfl,by rw [dJ,NY];exact hl,by simpa using rv⟩) (fun b u z=>by have z':(none:Option HO)=some u:=z;cases z') (fun b z=>absurd rfl z) fun z=>absurd rfl z
 | none=>
  refine core (fun b=>if b=a then some (.fO {cls:=.type "list",data:=.seq vs.toArray} (.lst (ns.map V.int))) else none) (fun b=>?_) (.inl (.inr ⟨{cls:=.type "list",data:=.seq vs.toArray},au rfl⟩)) (fun b u z=>?_) (fun b z=>?_) fun _=>hk
  ·by_cases hb:b=a
   ·exact .inr ⟨_,_,au hb⟩
   ·exact .inl (ar hb)
  ·by_cases hb:b=a
   ·have z':=(au hb).symm.trans z
    cases z';subst hb;exact ⟨ha,by rw [aW];exact hl,vs,_,rv,ha⟩
   ·have z':=(ar hb).symm.trans z
    cases z'
  ·by_cases hb:b=a
   ·exact hb
   ·exact absurd (ar hb) z
abbrev F4 {K:ax} {h:Heap} (_:K.In h):PySem.W.Frag:=K
variable {n:Nat}
theorem N0{l:PySem.W.OpenLaw}{q:Program}{loose:List Str}{XP:(Str→Option Value)→Heap→Prop}{YP:World→Heap→Prop}{d:DefRec}{K:Params→PySem.W.Frag}{CX:World→ic}{sp:World→Sp}
  (hn:l.most=some n) (qZ:n≤sizeLine) (mw:d.params.defaults=[]) (hr:cW k callerA)
  (hY:∀(w:World) (h:Heap),YP w h→(K w.params).In h)
  (F:∀(w:World) (mg:dh) (fa:Addr) (h:Heap),(K w.params).In h→h.Ns mainGlobals mg→mg d.name=some (.ref fa)→
   ∃fd:FuncData,(∀(s:Shared) (u:Value),BindsTo s fd ⟨[u],[]⟩ [(x,u)]) ∧
    ∀base:Heap,(K w.params).In base→base.Ns mainGlobals mg→a8 l.prog w (K w.params) mg base (CX w) k fa fd [x] (sp w))
  (iK:∀(w:World) (H:Hp) (a:Addr) (ns:List Int),ns.length≤n→Be H→aX (K w.params) H a (ns.map V.int)→sp w [.ref a] H (fun v _=>v=.bl true) fun _ _ _=>False)
  (Bf:∀(w:World) (H:Hp) (s:Shared) (e:Value) (s':Shared),CX w [] H s (fun _ _ _=>False) e s'→False) :
  PySem.W.WalkO q loose XP YP l.row.toRowW d [] (fun f vs=>PySem.call f vs):=by
 refine FX.NT hn mw fun w s₀ s₁ mg mb fa o pm cd doc a vs ns G Y ho hd eU vm Bd hints hlen hg=>?_;have KX:=hY w _ Y;obtain ⟨fd,hb,hF⟩:=F w mg fa _ KX G.T.g vm;exact NU KX G.T.g G.T.b G.T.builtins G.T.nolimit hg Bd hints (ai hlen qZ) hr hF hb (fun H hO hS=>iK w H a ns hlen hO hS) fun H e s'=>Bf w H s₁ e s'
def inClass(s:Stmt)(j:Nat):Stmt:=match s with
 | .ClassDef _ _ _ body _ _ _ _ _ _ _=>body.getD j (.Pass ⟨0,0,0,0⟩)
 | _=>.Pass ⟨0,0,0,0⟩
def ik(s:Stmt):Arguments:=match s with
 | .FunctionDef _ a _ _ _ _ _ _ _ _=>a
 | _=>{posonlyargs:=[],args:=[],vararg:=none,kwonlyargs:=[],kw_defaults:=[],kwarg:=none,defaults:=[]}
def fm(s:Stmt):List Stmt:=match s with
 | .FunctionDef _ _ b _ _ _ _ _ _ _=>b
 | _=>[]
def aR(s:Stmt):Scope:=match s with
 | .FunctionDef _ _ _ _ _ _ sc _ _ _=>sc
 | _=>{kind:=.function,names:=[],isGenerator:=false,isCoroutine:=false}
abbrev bW:ic:=fun _ _ _ _ _ _=>False
abbrev E0:XK:=fun _ _ _=>False
theorem aG{X:Cx}:Passes bW X E0:=fun _ _ _ _ _ _ _ h=>h.elim
structure eG (K:ax) (x qual:Str) (st:Stmt) (f:Addr) (fd:FuncData):Prop where
 ex:∃(oc:Value) (od:Option Addr) (kV doc pm:Value) (an:Option Addr) (aT ct:Value) (eY:Array (Option Value)),
  fd=PySem.W.fnOf x qual (ik st) (fm st) (aR st) .none kV doc pm an aT ct∧K.lookup f=some ⟨oc,od,.func fd,eY⟩∧PySem.W.codeIn K aT qual=true
 kp:PySem.W.keepIn K (.ref f)=true
abbrev aP (K:ax) (x:Str) (st:Stmt) (f:Addr) (fd:FuncData):Prop:=eG K x x st f fd
section
variable {P:Program} {w:World} {K:ax} {mg:dh} {base:Heap}
variable {qual:Str} {st:Stmt} {f:Addr} {fd:FuncData} {N ps:List Str} {sp:Sp}
theorem eG.ok(F:eG K x qual st f fd)(S:bI N ps (aR st))(len:∀vs H Q E,sp vs H Q E→vs.length=ps.length)
  (jc:∀(aT:Value) (A:Around) (outer:List Env) (s:Shared) (H:Hp) (vs:List V) (Q:VK) (E:XK),cW k (A.deeper (envOfC qual (aR st) s.heap.objs.size f aT))→sp vs H Q E→
   ∃t,ej (ie bW P w K mg base N qual (aR st) f aT A outer s H E).oo (fm st) t∧t {nx:=fun _ H'=>Q .aH H',rt:=Q} (start N vs) H):a8 P w K mg base bW (k+1) f fd ps sp:=by
 obtain ⟨oc,od,kV,doc,pm,an,aT,ct,eY,rfl,lk,eU⟩:=F.ex;refine A0 lk eU S len fun A outer s H vs Q E hr iK=>?_;obtain ⟨t,h,q⟩:=jc aT A outer s H vs Q E hr iK;exact ⟨t,h.oo,q⟩
theorem eG.cH(F:eG K x qual st f fd)(S:bI N ps (aR st))
  (jc:∀(aT:Value) (A:Around) (outer:List Env) (s:Shared) (H:Hp) (vs:List V) (Q:VK) (E:XK),cW k (A.deeper (envOfC qual (aR st) s.heap.objs.size f aT))→sp vs H Q E→
   ∃t,ej (ie bW P w K mg base N qual (aR st) f aT A outer s H E).oo (fm st) t∧t {nx:=fun _ H'=>Q .aH H',rt:=Q} (start N vs) H)
  (len:∀vs H Q E,sp vs H Q E→vs.length=ps.length:=by intro vs H Q E h;repeat first | (obtain ⟨rfl,_⟩:=h;rfl) | (subst h;rfl) | obtain ⟨_,h⟩:=h):a8 P w K mg base bW (k+1) f fd ps sp:=F.ok S len jc
theorem eG.binds(F:eG K x qual st f fd)
  (h:∀(kV doc pm:Value) (an:Option Addr) (aT ct:Value) (us:List Value),us.length=ps.length→bindArgs (PySem.W.fnOf x qual (ik st) (fm st) (aR st) .none kV doc pm an aT ct) ⟨us,[]⟩=pure (ps.zip us)):Binds K fd ps []:=by
 obtain ⟨oc,od,kV,doc,pm,an,aT,ct,eY,rfl,lk,eU⟩:=F.ex;exact .all (h kV doc pm an aT ct)
theorem eG.cj(F:eG K x qual st f fd)
  (h:∀(kV doc pm:Value) (an:Option Addr) (aT ct:Value) (us:List Value),us.length=ps.length→bindArgs (PySem.W.fnOf x qual (ik st) (fm st) (aR st) .none kV doc pm an aT ct) ⟨us,[]⟩=pure (ps.zip us):=by intro _ _ _ _ _ _ us hl;rcases us with _ | ⟨_,_ | ⟨_,_ | ⟨_,_ | ⟨_,_ | ⟨_,_ | ⟨_,_ | ⟨_,_⟩⟩⟩⟩⟩⟩⟩ <;> first | rfl | (simp at hl;done)):Binds K fd ps []:=F.binds h
theorem ck{oc:Value}{od an:Option Addr}{eY:Array (Option Value)}{kV doc pm aT ct:Value}(l:K.lookup f=some ⟨oc,od,.func (PySem.W.fnOf x qual (ik st) (fm st) (aR st) .none kV doc pm an aT ct),eY⟩)
  (c:PySem.W.codeIn K aT qual=true) (k:PySem.W.keepIn K (.ref f)=true):eG K x qual st f (PySem.W.fnOf x qual (ik st) (fm st) (aR st) .none kV doc pm an aT ct):=⟨⟨oc,od,kV,doc,pm,an,aT,ct,eY,rfl,l,c⟩,k⟩
end
theorem jd(h:n≤1000):n<sizeLine:=i6 h (by decide)
section
variable {X:Cx}
theorem pv(i:Nat){pos:Pos}(hN:X.N[i]?=some x:=by rfl)(hv:l4 X.env.scope x:=by first | exact Or.inl rfl | exact Or.inr (Or.inl rfl) | exact Or.inr (Or.inr rfl))(hd:(x == ("__debug__":Str))=false:=by decide)
  (eU:(x == ("__classdict__":Str))=false:=by decide):PE X (.Name x pos) (xy i):=Me hN hv hd eU
end
variable {A B:Prop}
theorem dD(h:B):if false=true then A else B:=by rw [ar cZ];exact h
theorem fo(h:A):if true=true then A else B:=by rw [au rfl];exact h
theorem bQ{c:Prop}[Decidable c](h1:c→A)(h2:¬c→B):if c then A else B:=by
 by_cases h:c
 ·rw [au h]
  exact h1 h
 ·rw [ar h]
  exact h2 h
def ah(H H':Hp):Prop:=∀b o,H b=some o→H' b=some o
theorem ah.refl(H:Hp):ah H H:=fun _ _ h=>h
variable {H:Hp}
theorem ah.trans{H1 H2:Hp}(a:ah H H1)(b:ah H1 H2):ah H H2:=fun c o h=>b c o (a c o h)
theorem ah.seq{H':Hp}{a:Addr}{xs:List V}(e:ah H H')(h:aX K H a xs):aX K H' a xs:=by
 rcases h with (h | ⟨o,h⟩) | h;·exact .inl (.inl (e _ _ h))
 ·exact .inl (.inr ⟨o,e _ _ h⟩)
 ·exact .inr h
end L2
set_option maxHeartbeats 4000000
namespace L2
open PySem PySem.Spec PyProof.Rows
structure xY (P:Program) (w:World) (outer:List Env) (H:Hp) (s:Shared) (H':Hp) (ea C:Addr) (B:Heap) (t:Addr) (s':Shared):Prop where
 os:s'.os=s.os
 bare:AllBare s'.gens
 fl:Heap.FlyingW B outer ea (.ref C) (.ref t) s'.heap
 ay:cJ P w H' B
 kb:∀b o,s.heap.get? b=some o→H b=none→b∉cE outer→B.get? b=some o
 tb:∀b o,s.heap.get? b=some o→b∉cE outer→∃o',B.get? b=some o'
 sl:∀b o,s.heap.get? b=some o→H b=none→b∈cE outer→∃l,s'.heap.get? b=some {o with slots:=l}
 Zs:∀b∈cE outer,H b=none
 N3:∀b o,s.heap.get? b=some o→H b=none→H' b=none
 fP:∀b xs,H b=some (.tup xs)→H' b=some (.tup xs)
 fF:∀b o u,H b=some (.fO o u)→H' b=some (.fO o u)
 fQ:∀b ps,H b=some (.kD ps)→∃more,H' b=some (.kD (ps++more))
def fq(P:Program)(w:World):ic:=fun outer H s E e s'=>∃ea C H' B t,e=.ref ea∧xY P w outer H s H' ea C B t s'∧E (.ref C) none H'
section
variable {P:Program} {w:World} {outer:List Env} {H H':Hp} {s s':Shared} {ea C t:Addr} {B:Heap}
def ExcAt(ea C:Addr)(h:Heap):Prop:=∃oe,h.get? ea=some oe∧oe.cls=.ref C∧PySem.W.notCls oe=true
def N4(ea C:Addr):HO:=.ext (ExcAt ea C)
end
section
variable {X:Cx} {pins:aZ} {σ:St} {H H':Hp} {s s':Shared} {ea C t:Addr} {B:Heap}
structure rq (X:Cx) (E:XK):Prop where
 g9:X.stack=X.env::X.outer
 fr:X.env.frame=some X.env.locals
 ex:X.ex=[]
 xe:X.xe=fun e s'=>wpAny (model X.prog X.w) X.A (leaving X.env e) (fun _ ig=>fq X.prog X.w X.outer X.H₀ X.s₀ E e ig) (fun e' ig=>fq X.prog X.w X.outer X.H₀ X.s₀ E e' ig) s'
theorem xZ{env:Env}{outer:List Env}{L:Addr}(h:env.frame=some L):cE (env::outer)=L::cE outer:=by unfold cE;rw [xa,h]
variable {E:XK}
theorem xY.leave(L:rq X E)(I:Inv X pins σ H s)(f:xY X.prog X.w X.stack H s H' ea C B t s'){h:Heap}(x:Heap.FlyingW B X.outer ea (.ref C) (.ref t) h)(up:s'.heap.UpToSlots h):xY X.prog X.w X.outer X.H₀ X.s₀ H' ea C B t {s' with heap:=h}:=by
 have nL:∀b o,X.s₀.heap.get? b=some o→b≠X.env.locals:=fun b o e=>dZ (dB (bK e) I.ok.above);have ns:∀b o,X.s₀.heap.get? b=some o→b∉cE X.outer→b∉cE X.stack:=fun b o e nb z=>by
  rw [L.g9,xZ L.fr] at z;rcases dH.mp z with z | z;·exact nL b o e z
  ·exact nb z
 have nx:∀b:Addr,b∉X.ex:=fun b z=>by rw [L.ex] at z;cases z
 refine ⟨f.os.trans I.os,f.bare,x,f.ay,fun b o e n nb=>?_,fun b o e nb=>?_,fun b o e n hb=>?_,I.ok.kG,fun b o e n=>?_,fun b xs e=>f.fP b xs (I.base.fP b xs e),fun b o u e=>f.fF b o u (I.base.fF b o u e),fun b ps e=>?_⟩;·exact f.kb b o (I.base.keep b o e n nb (nx b)) (I.base.free b o e n (nx b)) (ns b o e nb)
 ·obtain ⟨o',e'⟩:=I.base.there b o e (nx b)
  exact f.tb b o' e' (ns b o e nb)
 ·obtain ⟨l,q⟩:=I.base.slot b o e n hb (nx b)
  have hs:b∈cE X.stack:=by rw [L.g9,xZ L.fr];exact gW _ hb
  obtain ⟨l2,q2⟩:=f.sl b _ q (I.base.free b o e n (nx b)) hs;obtain ⟨_,o2,q3,nf⟩:=f.fl.2.2.1.mem hs;rw [q2] at q3;cases q3;obtain ⟨l3,q4⟩:=up b _ q2 nf;exact ⟨l3,q4⟩
 ·obtain ⟨o',e'⟩:=I.base.there b o e (nx b)
  exact f.N3 b o' e' (I.base.free b o e n (nx b))
 ·obtain ⟨m1,e1⟩:=I.base.fQ b ps e
  obtain ⟨m2,e2⟩:=f.fQ b _ e1;exact ⟨m1++m2,by rw [e2,Array.append_assoc]⟩
theorem x6:Passes (fq X.prog X.w) X (fun _ _ _=>False):=fun pins σ H s e s' I h=>by obtain ⟨_,_,_,_,_,_,_,q⟩:=h;exact q.elim
theorem Bg(L:rq X E):Passes (fq X.prog X.w) X E:=fun pins σ H s e s' I h=>by
 obtain ⟨ea,C,H',B,t,rfl,f,q⟩:=h;rw [L.xe];refine wpAny_leaves_onW (by rw [I.ok.frames,L.g9]) L.fr (by have z:=f.fl;rw [L.g9] at z;exact z) fun h' x up=>?_
 exact ⟨ea,C,H',B,t,rfl,f.leave L I x up,q⟩
end
variable {K:ax} {h:Heap}
theorem N6{C:Addr}{rz:List Value}{newId:String}(cQ:K.In h)(hq:PySem.W.excIn K C rz newId=true) :
  ∃bm N nm qn bs hdct sn sub ab col dd k0 k1 k2 k3 k5 mN,h.get? C=some (excClassObj nm qn C N bs bm hdct sn sub ab col dd k0 k1 k2 k3 k5 newId)∧h.Ns N mN∧mN "__init__"=none∧OwnTail h rz bm∧PySem.W.mroIn K C=fun b=>some ((Value.ref C::bm).contains b):=by
 unfold PySem.W.excIn at hq
 split at hq
 ·rename_i rA cls slt look
  split at hq
  ·rename_i CC rest a0 a1 a2 a3 nn a5 em es
   simp only [uT,jz,Bool.not_eq_true'] at hq;obtain ⟨⟨⟨⟨⟨e1,e2⟩,e3⟩,e4⟩,e5⟩,e6⟩:=hq;subst e1 e2;have N7:PySem.W.mroIn K CC=fun b=>some ((Value.ref CC::rest).contains b):=by
    funext b
    unfold PySem.W.mroIn PySem.W.clsIn;rw [look];simp [em]
   obtain ⟨c1,c2,c3,c4,c5,c6,c7,c8,c9,N8,Zt⟩:=cls;dsimp only at em e3 e5 e6;subst em e3;have N9:slt = #[a0,a1,a2,a3,some (.builtin nn),a5]:=by obtain ⟨ll⟩:=slt;simp only at es;rw [es]
   subst N9;exact ⟨rest,c4,c1,c5,c2,c6,c7,c8,c9,N8,rA,a0,a1,a2,a3,a5,_,cQ _ _ look,.of_isNs (PySem.W.isNs_of_in cQ e5),PySem.W.nsMap_none_of_in cQ e5 e6,PySem.W.tail_of_in cQ e4,N7⟩
  ·cases hq
 ·cases hq
section
variable {X:Cx} {E:XK} {x:Str} {C:Addr} {np gO pos:Pos} {e:Expr} {es:List Expr} {ta:TA} {B newId N_:String} {rz:List Value}
def Oa(C:Addr)(E:XK)(ta:TA):TS:=fun _ σ H=>ta σ H fun vs H1=>vs.length≤sizeLine∧E (.ref C) none H1
theorem Bh(L:rq X E)(hc:X.calm=true)(FB:ExcBaseFacts B newId N_ rz)(hq:PySem.W.excIn X.K C rz newId=true)(hg:Gl X x)(hm:X.mg x=some (.ref C))(ha:PA X (e::es) ta)
  (hs:starEach (e::es) X.env=(false,eval e X.env)::starEach es X.env:=by rfl) (hp:(backTo gO (starEach es X.env)).any (·.1)=false:=by rfl) (hd:(x == ("__debug__":Str))=false:=by decide) :
  PS X (.Raise (some (.Call (.Name x np) (e::es) [] gO)) none pos) (Oa C E ta):=by
 intro pins s σ H D I h;obtain ⟨bm,N,nm,qn,bs,hdct,sn,sub,ab,col,dd,k0,k1,k2,k3,k5,mN,hC,hN,Ob,T,_⟩:=N6 I.ok.mod.cQ hq
 refine wpAny_Raise_call_subT (C:=C) (nm:=nm) (q:=qn) (N:=N) (bs:=bs) (bm:=bm) (hdct:=hdct) (sn:=sn) (sub:=sub) (ab:=ab) (col:=col) (dd:=dd) (k0:=k0) (k1:=k1) (k2:=k2) (k3:=k3) (k5:=k5) FB (mN:=mN) (T.hasType FB.hasBase) (I.ok.hd hc)
  (by rw [hs];show (false || (backTo gO (starEach es X.env)).any (·.1))=false;rw [hp];rfl) Ob (xB I hg hm ⟨rfl,?_⟩ hd)
 have h1:=ha gO pins s σ H _ I h;rw [hs] at h1 ⊢;refine Calls.evalArgs_plain (aB h1 fun us s2 ⟨vs,H1,I1,r,hl,q⟩=>⟨rfl,by rw [←r.length];exact hl,I1.bk _ _ hC,hN.keeps I1.bk,T.keeps I1.bk,fun h' ea mk=>?_⟩)
 rw [L.xe];have nL:∀b o,X.s₀.heap.get? b=some o→b≠X.env.locals:=fun b o q=>dZ (dB (bK q) I1.ok.above);have ns:∀b o,X.s₀.heap.get? b=some o→b∉cE X.outer→b∉cE X.stack:=fun b o q nb z=>by
  rw [L.g9,xZ L.fr] at z;rcases dH.mp z with z | z;·exact nL b o q z
  ·exact nb z
 have nx:∀b:Addr,b∉X.ex:=fun b z=>by rw [L.ex] at z;cases z
 have ff:s2.heap.FunFrames (PySem.W.hideAll s2.heap (cE X.stack)) (X.env::X.outer):=by have z:=I1.stack;rw [←L.g9];exact PySem.W.funFrames_hide z fun env he a hf=>List.mem_filterMap.mpr ⟨env,he,hf⟩
 refine wpAny_leaves_madeW (base:=PySem.W.hideAll s2.heap (cE X.stack)) (h:=s2.heap) (by rw [I1.ok.frames,L.g9]) L.fr (fun b o q=>PySem.W.of_hideAll _ q) ff mk fun h2 t fl _ _ up=>?_
 refine ⟨ea,C,H1,_,t,rfl,⟨I1.os,I1.bare,fl,fun a o e1=>?_,fun b o e1 n nb=>?_,fun b o e1 nb=>?_,fun b o e1 n hb=>?_,I1.ok.kG,fun b o e1 n=>?_,I1.base.fP,I1.base.fF,I1.base.fQ⟩,q⟩
 ·refine (I1.ay a o e1).gL (fun b u hb e2=>w_ _ e2 fun z=>?_) (fun _ z=>z) fun _ _ z=>z
  have n0:=I1.qL b z;rcases hb with hb | hb
  ·subst hb
   rw [e1] at n0;cases n0
  ·rw [hb] at n0
   cases n0
 ·exact w_ _ (I1.base.keep b o e1 n nb (nx b)) (ns b o e1 nb)
 ·obtain ⟨o',e2⟩:=I1.base.there b o e1 (nx b)
  exact ⟨o',w_ _ e2 (ns b o e1 nb)⟩
 ·obtain ⟨l,e2⟩:=I1.base.slot b o e1 n hb (nx b)
  have jS:b∈cE X.stack:=by rw [L.g9,xZ L.fr];exact gW _ hb
  obtain ⟨_,o2,e3,nf⟩:=I1.stack.mem jS;rw [e2] at e3;cases e3;obtain ⟨l2,e4⟩:=up b _ (mk.keeps _ _ e2) nf;exact ⟨l2,e4⟩
 ·obtain ⟨o',e2⟩:=I1.base.there b o e1 (nx b)
  exact I1.base.free b o e1 n (nx b)
end
section
variable {X:Cx} {k:Nat} {f C:Addr} {fd:FuncData} {ps:List Str} {sp:Sp} {eF:List V} {ds:List Value} {x m:Str} {p pos apos:Pos} {e o:Expr} {es:List Expr} {ta:TE} {t:TA}
variable {te:TX} {i:Nat} {pos':Pos}
end
section
variable {X:Cx} {pins:aZ} {σ:St} {H:Hp} {s:Shared} {ea:Addr}
end
section
variable {M:Model} {A:Around} {E:bV} {h:Heap} {g:Array GenState} {d:Drawn} {t:Nat} {os:OsState} {e:Addr} {oe:Obj} {Q:Bool→Shared→Prop}
variable {nm q Zu q':Str} {C N D N':Addr} {bs bm Zv my:List Value} {hdct Zw:Bool} {sn Zx:List Str} {sub Zy:List Value} {ab Zz:Bool} {col ZA:Option Bool} {dd ZC:Option Addr} {k0 k1 k2 k3 k5 j0 j1 j2 j3 j5:Option Value} {newId ZD:String}
end
section
variable {X:Cx} {body:List Stmt} {b₀:Stmt} {ZE:List Stmt} {np ZF pos:Pos} {x n:Str} {D:Addr} {tb:ZG} {ts:TS} {rz:List Value} {newId:String} {i:Nat}
end
section
variable {P:Program} {w:World} {K:ax} {mg:dh} {base:Heap}
variable {x qual:Str} {st:Stmt} {f:Addr} {fd:FuncData} {N ps:List Str} {k:Nat} {sp:Sp}
theorem eG.Bi(F:eG K x qual st f fd)(S:bI N ps (aR st))(len:∀vs H Q E,sp vs H Q E→vs.length=ps.length)
  (jc:∀(aT:Value) (A:Around) (outer:List Env) (s:Shared) (H:Hp) (vs:List V) (Q:VK) (E:XK),cW k (A.deeper (envOfC qual (aR st) s.heap.objs.size f aT))→sp vs H Q E→
   rq (ie (fq P w) P w K mg base N qual (aR st) f aT A outer s H E) E→
   ∃t,ej (ie (fq P w) P w K mg base N qual (aR st) f aT A outer s H E) (fm st) t∧t {nx:=fun _ H'=>Q .aH H',rt:=Q} (start N vs) H):a8 P w K mg base (fq P w) (k+1) f fd ps sp:=by
 obtain ⟨oc,od,kV,doc,pm,an,aT,ct,eY,rfl,lk,eU⟩:=F.ex;exact A0 lk eU S len fun A outer s H vs Q E hr iK=>jc aT A outer s H vs Q E hr iK ⟨rfl,rfl,rfl,rfl⟩
theorem eG.fU(F:eG K x qual st f fd)(S:bI N ps (aR st))
  (jc:∀(aT:Value) (A:Around) (outer:List Env) (s:Shared) (H:Hp) (vs:List V) (Q:VK) (E:XK),cW k (A.deeper (envOfC qual (aR st) s.heap.objs.size f aT))→sp vs H Q E→
   rq (ie (fq P w) P w K mg base N qual (aR st) f aT A outer s H E) E→
   ∃t,ej (ie (fq P w) P w K mg base N qual (aR st) f aT A outer s H E) (fm st) t∧t {nx:=fun _ H'=>Q .aH H',rt:=Q} (start N vs) H)
  (len:∀vs H Q E,sp vs H Q E→vs.length=ps.length:=by intro vs H Q E h;repeat first | (obtain ⟨rfl,_⟩:=h;rfl) | (subst h;rfl) | obtain ⟨_,h⟩:=h):a8 P w K mg base (fq P w) (k+1) f fd ps sp:=F.Bi S len jc
end
structure oI (K:ax) (C:Addr):Prop where
 ci:PySem.W.hasDictIn K C=true
 ga:PySem.W.findIn K (.ref C) "__getattribute__"=some (some (.builtin "BaseException.__getattribute__"))
 gn:PySem.W.findIn K (.ref C) "__getattr__"=some none
 ca:PySem.W.findIn K (.ref C) "__class__"=some (some (.builtin "object.__class__"))
 mo:PySem.W.mroIn K C (.type "object")=some true
 mb:PySem.W.mroIn K C (.type "BaseException")=some true
section
variable {prog:Program} {w:World} {A:Around} {E:bV} {h:Heap} {g:Array GenState} {d:Drawn} {t:Nat} {os:OsState} {K:ax} {a C:Addr} {o:Obj}
theorem Oc{R:Result→Shared→Prop}(cQ:K.In h)(c:oI K C)(hx:h.get? a=some o)(hc:o.cls=.ref C)(hq:R (.ok (.ret (.ref C))) ⟨h,g,d,t,os⟩) :
  codeAny (model prog w) A (.call (.builtin "getset_descriptor.__get__") ⟨[.builtin "object.__class__",.ref a,.ref C],[]⟩) R ⟨h,g,d,t,os⟩:=by
 have F5:(⟨h,g,d,t,os⟩:Shared).TypeIs (.builtin "object.__class__") "getset_descriptor":=Au;have L1:=PySem.W.looks_mroIn (M:=model prog w) cQ c.mo;have ow:=F.owner_object_class;refine codeAny_call_builtin F.slot_gs_get.plain F.entry_gs_get (F.slot_gs_get.check _ _ _ _ _ _ _ _ F5 (F.args_gs_get _ _ _) ?_)
 repeat (any_goals (first | assumption | (with_reducible refine uU hx ?_;rw [hc]) | (rw [ow];with_reducible refine L1.at ?_) | wp_step))
 refine ⟨Code.quiet_builtin _ (by decide +kernel),codeAny_builtin F.entry_object_class ?_⟩
 repeat (any_goals (first | assumption | (with_reducible refine uU hx ?_;rw [hc]) | wp_step))
variable {tk:Tok}
theorem Od{Q:Fin→Shared→Prop}(cQ:K.In h)(c:oI K C)(hx:h.get? a=some o)(hc:o.cls=.ref C)(hq:Q (.done (.ret (.ref C))) ⟨h,g,d,t,os⟩) :
  wpAny (model prog w) A (Builtin.«object.__getattribute__» ⟨[.ref a,.str "__class__" tk],[]⟩) Q E ⟨h,g,d,t,os⟩:=by
 have F5:(⟨h,g,d,t,os⟩:Shared).TypeIs (.builtin "object.__class__") "getset_descriptor":=Au;have L1:=xc (M:=model prog w) cQ c.ca;have f5:=Au;have f6:=F.slot_gs_get.lookup;have f7:=F.slot_gs_set.lookup
 repeat (any_goals (first | assumption | (with_reducible refine uU hx ?_;rw [hc]) | with_reducible refine L1.at ?_ | wp_step))
 refine Oc cQ c hx hc ?_
 repeat (any_goals (first | assumption | wp_step))
theorem Oe{M:Model}{nv:Value}{Q:Unit→Shared→Prop}(cQ:K.In h)(c:oI K C)(hx:h.get? a=some o)(hc:o.cls=.ref C)(hq:Q () ⟨h,g,d,t,os⟩) :
  wpAny M A (checkBuiltinCall "BaseException.__getattribute__" ⟨[.ref a,nv],[]⟩) Q E ⟨h,g,d,t,os⟩:=by
 have hk:builtinKind "BaseException.__getattribute__"=some .slot:=by decide +kernel
 have hs:splitId "BaseException.__getattribute__"=some ("BaseException","__getattribute__"):=by decide +kernel
 have L1:=PySem.W.looks_mroIn (M:=M) cQ c.mb;have ha:=F.args_bexc_ga (.ref a) nv;simp only [checkBuiltinCall,hk,hs];refine cw ?_;unfold isInstance
 repeat (first | (with_reducible refine uU hx ?_;rw [hc]) | with_reducible refine L1.at ?_ | wp_step)
 exact hq
theorem Of{fill expr:Bool}{Q:bV}(cQ:K.In h)(c:oI K C)(hx:h.get? a=some o)(hc:o.cls=.ref C)(hq:Q (.ref C) ⟨h,g,d,t,os⟩) :
  wpAny (model prog w) A (getAttrBy (.ref a) (.str "__class__" tk) fill expr) Q E ⟨h,g,d,t,os⟩:=by
 have f3:=F.attrBase_ValueError.ga.bind (.ref a);have z0:(expr && onTheHeap (Value.builtin "BaseException.__getattribute__"))=false:=by cases expr <;> rfl
 have z2:(Value.builtin "BaseException.__getattribute__" == Value.builtin "object.__getattribute__")=false:=by decide +kernel
 have z1:(onTheHeap (Value.ref C) && Value.builtin "BaseException.__getattribute__" == Value.builtin "object.__getattribute__")=false:=by rw [z2];rfl
 have L1:=xc (M:=model prog w) cQ c.ga;have L2:=xc (M:=model prog w) cQ c.gn
 repeat (any_goals (first | assumption | (with_reducible refine uU hx ?_;rw [hc]) | with_reducible refine L1.at ?_ | with_reducible refine L2.at ?_ | wp_step))
 refine codeAny_call_builtin F.attrBase_ValueError.ga.plain F.entry_bexc_ga (Oe cQ c hx hc (Od cQ c hx hc ?_))
 repeat (any_goals (first | assumption | wp_step))
theorem Og{Q:Option Value→Shared→Prop}(cQ:K.In h)(c:oI K C)(hx:h.get? a=some o)(hc:o.cls=.ref C)(hq:Q (some (.ref C)) ⟨h,g,d,t+1,os⟩) :
  wpAny (model prog w) A (getAttr? (.ref a) "__class__") Q E ⟨h,g,d,t,os⟩:=by
 unfold getAttr? getAttrBy?
 repeat (any_goals (first | assumption | with_reducible apply Of cQ c hx hc | wp_step))
theorem Oh(c:oI K C):PySem.W.KitX K (.ref a) (.ref C) (ExcAt a C) where
 ty:=fun M h _ k=>by obtain ⟨oe,e1,e2,_⟩:=k;exact e2▸(PySem.W.Looks.ld e1).andThen .now
 it:=fun M h cQ _=>by
  obtain ⟨cd,hc,_⟩:=PySem.W.any_some c.ci;unfold PySem.W.clsIn at hc
  split at hc
  ·rename_i look
   intro A' Q' E' s' k q;unfold isType loadHead;exact cw (wpAny_loadPart (k _ _ (cQ _ _ look)) (d0 q))
  ·cases hc
 ne:=fun h tp dd ao n sl cQ Oi=>by
  obtain ⟨cd,hc,_⟩:=PySem.W.any_some c.ci;refine Bool.eq_false_iff.mpr fun q=>?_;have e:C=tp:=Value.ref.inj (jz.mp q);subst e;unfold PySem.W.clsIn at hc
  split at hc
  ·rename_i look
   have z:=(cQ _ _ look).symm.trans Oi;cases z
  ·cases hc
 ca:=fun{prog w A E Q s} cQ k z=>by obtain ⟨oe,e1,e2,_⟩:=k;obtain ⟨h,g,d,t,os⟩:=s;exact Og cQ c e1 e2 z
end
def x8(a:Addr)(h:Heap):Prop:=∃o ep,h.get? a=some o∧o.ExactDict∧o.data=.dict #[] ep∧(a == sysModules)=false
theorem x8.Bj{a:Addr}(e:x8 a h):PySem.W.KitAt a "dict" h:=by obtain ⟨o,_,e,c,_⟩:=e;exact ⟨o,e,c.1⟩
def F6(a:Addr):HO:=.ext (x8 a)
inductive vn (K:ax) (H:Hp):V→Value→Prop where
 | of {x:V} {t:Value} (h:ib K H x t):vn K H x t
 | exc {a C:Addr} (e:H a=some (N4 a C)) (c:oI K C):vn K H (.ref a) (.ref C)
 | rA {a:Addr} (e:H a=some (F6 a)):vn K H (.ref a) (.type "dict")
def F7:V→Value
 | .ty n=>.type n
 | .ref a=>.ref a
 | _=>.none
def Oj:V→Bool
 | .ty _=>true
 | .ref _=>true
 | _=>false
def Ol(K:ax):List V→Hp→VK→Prop:=fun xs H Q=>∃x c t b,xs=[x,c]∧Oj c=true∧vn K H x t∧PySem.W.kitOne K t (F7 c)=some b∧Q (.bl b) H
variable {X:Cx}
theorem je(hK:X.K=K:=by rfl):jR X (.builtin "isinstance") (Ol K):=by
 intro pins s σ H xs us Q I r h;subst hK;obtain ⟨x,c,t,b,rfl,hc,ty,e,q⟩:=h;obtain ⟨u,cv,rfl,rx,rc⟩:=vals2 r;have ec:cv=F7 c:=by
  cases c with
  | ty n=>exact rc
  | ref a=>exact rc
  | _=>cases hc
 subst ec;cases ty with
 | of ty=>exact M9 I rx ty e fun tk=>⟨.bl b,H,I.tok tk,rfl,q⟩
 | @rA a ea=>cases rx;obtain ⟨k,_,_⟩:=(show d5 X.prog X.w H s.heap a (.ext (x8 a)) from I.ay a _ ea);exact gX PySem.W.kitx_dict I.dr k.Bj e (fun z=>nomatch z) fun tk=>⟨.bl b,H,I.tok tk,rfl,q⟩
 | @exc a C ea cc=>cases rx;obtain ⟨k,_,_⟩:=(show d5 X.prog X.w H s.heap a (.ext (ExcAt a C)) from I.ay a _ ea);exact gX (Oh cc) I.dr k e (fun z=>nomatch z) fun tk=>⟨.bl b,H,I.tok tk,rfl,q⟩
def fV:List V→List V→Bool
 | [],[]=>true
 | x::xs,y::ys=>rk x y && fV xs ys
 | _,_=>false
def x9(K:ax)(neg:Bool):R2:=fun x y H Q=>∃a b xs ys,x=.ref a∧y=.ref b∧dU K H a xs∧dU K H b ys∧xs.all jT=true∧ys.all jT=true∧Q (.bl (if neg then !fV xs ys else fV xs ys)) H
theorem Bk{A:Around}{s:Shared}:∀{xs ys:List V} {us vs:List Value},Vals xs us→Vals ys vs→xs.all jT=true→ys.all jT=true→
  ∃e:Nat→Bool,(∀j (h1:j<us.length) (h2:j<vs.length),SeqAt.EqAt A s us[j] vs[j] (e j))∧((List.range (min us.length vs.length)).all e && us.length == vs.length)=fV xs ys
 | [],[],_,_,.nil,.nil,_,_=>⟨fun _=>true,fun j h1=>absurd h1 (nR _),by simp [fV]⟩
 | [],_::_,_,_,.nil,.cons _ _,_,_=>⟨fun _=>true,fun j h1=>absurd h1 (nR _),by simp [fV]⟩
 | _::_,[],_,_,.cons _ _,.nil,_,_=>⟨fun _=>true,fun j _ h2=>absurd h2 (nR _),by simp [fV]⟩
 | x::xs,y::ys,u::us,v::vs,.cons r1 t1,.cons r2 t2,f1,f2=>by
  rw [List.all_cons,uT] at f1 f2;obtain ⟨e,h,q⟩:=Bk (A:=A) (s:=s) t1 t2 f1.2 f2.2;refine ⟨fun j=>match j with | 0=>rk x y | k+1=>e k,fun j h1 h2=>?_,?_⟩
  ·cases j with
   | zero=>exact A7 r1 r2 f1.1 f2.1
   | succ k=>exact h k (by simpa using h1) (by simpa using h2)
  ·have em:min (u::us).length (v::vs).length=min us.length vs.length+1:=by simp only [d9];lia
   rw [em,List.range_succ_eq_map,List.all_cons,List.all_map];show (rk x y && (List.range (min us.length vs.length)).all e && ((us.length+1) == (vs.length+1)))=(rk x y && fV xs ys);rw [←q];have eb:((us.length+1) == (vs.length+1))=(us.length == vs.length):=by rw [uP,jz,jz];lia
   rw [eb,Bool.and_assoc]
theorem F8(hu:X.A.units<cLine):cC X (compareOp .Eq) (x9 X.K false):=by
 intro pins s σ H x y v u Q I rx ry h;obtain ⟨a,b,xs,ys,rfl,rfl,h1,h2,f1,f2,q⟩:=h;cases rx;cases ry;obtain ⟨us,r1,t1,_⟩:=I.tuple h1;obtain ⟨vs,r2,t2,_⟩:=I.tuple h2;obtain ⟨e,he,eq⟩:=Bk (A:=X.A.in1) (s:=s) r1 r2 f1 f2;refine SeqAt.eq_tupleAt (e:=e) t1 t2 hu (fun j z1 z2=>by simpa using he j (by simpa using z1) (by simpa using z2)) ⟨.bl (fV xs ys),H,I,?_,q⟩
 show _=Value.bool (fV xs ys);rw [←eq];simp
theorem Om(hu:X.A.units<cLine):cC X (compareOp .NotEq) (x9 X.K true):=by
 intro pins s σ H x y v u Q I rx ry h;obtain ⟨a,b,xs,ys,rfl,rfl,h1,h2,f1,f2,q⟩:=h;cases rx;cases ry;obtain ⟨us,r1,t1,_⟩:=I.tuple h1;obtain ⟨vs,r2,t2,_⟩:=I.tuple h2;obtain ⟨e,he,eq⟩:=Bk (A:=X.A.in1) (s:=s) r1 r2 f1 f2;refine SeqAt.RcNeAt.tuples (e:=e) t1 t2 hu (fun j z1 z2=>by simpa using he j (by simpa using z1) (by simpa using z2)) _ _ _ _ ⟨.bl (!fV xs ys),H,I,?_,q⟩
 show _=Value.bool (!fV xs ys);rw [←eq];simp
theorem boot_isinstance:bootBuiltins "isinstance"=some (.builtin "isinstance"):=by decide +kernel
theorem boot_abs:bootBuiltins "abs"=some (.builtin "abs"):=by decide +kernel
theorem boot_min:bootBuiltins "min"=some (.builtin "min"):=by decide +kernel
theorem boot_max:bootBuiltins "max"=some (.builtin "max"):=by decide +kernel
theorem boot_int:bootBuiltins "int"=some (.type "int"):=by decide +kernel
theorem boot_bool:bootBuiltins "bool"=some (.type "bool"):=by decide +kernel
theorem boot_tuple:bootBuiltins "tuple"=some (.type "tuple"):=by decide +kernel
theorem boot_list:bootBuiltins "list"=some (.type "list"):=by decide +kernel
end L2
namespace My
open PySem L2
def jf(n:Int):Bool:=(List.range 32).all fun e=>decide (e<2) || decide (n<(e:Int)*(e:Int)) || decide (n % (e:Int)≠0)
variable {n d:Int}
theorem F9(h2:n≤997)(hd:2≤d)(hq:d*d≤n)(hm:n % d=0):jf n=false:=by
 have hd2:d<32:=by
  by_cases h:d<32;·exact h
  ·have:32*32≤d*d:=Int.mul_le_mul (by lia) (by lia) (by lia) (by lia)
   lia
 obtain ⟨k,rfl⟩:∃k:Nat,d=(k:Int):=⟨d.toNat,by lia⟩
 cases e:jf n with
 | false=>rfl
 | true=>
  have z:=lO.mp e k (ku.mpr (by lia))
  simp only [Bool.or_eq_true,lQ] at z;rcases z with (z | z) | z;·lia
  ·lia
  ·exact absurd hm z
theorem Oo(hq:n<d*d)(hd:2≤d)(hm:∀e:Int,2≤e→e<d→n % e≠0):jf n=true:=by
 refine lO.mpr fun k _=>?_;simp only [Bool.or_eq_true,lQ];by_cases h1:k<2;·exact .inl (.inl h1)
 ·by_cases h2:n<(k:Int)*(k:Int)
  ·exact .inl (.inr h2)
  ·refine .inr (hm k (by lia) ?_)
   by_cases h3:(k:Int)<d;·exact h3
   ·have:d*d≤(k:Int)*(k:Int):=Int.mul_le_mul (by lia) (by lia) (by lia) (by lia)
    lia
inductive Td where
 | a (w:Str)
 | b (w:Str) (n:Int)
def Td.vs:Td→List V
 | .a w=>[.str w]
 | .b w n=>[.str w,.int n]
def Td.vo:Td→Bool
 | .a w=>decide (w="fractions")
 | .b _ _=>false
def Td.iL:Td→Bool
 | .a _=>false
 | .b w n=>decide (w="wheel") && (decide (2≤n) && decide (n≤997) && jf n)
def Td.good(d:Td):Bool:=d.vo || d.iL
def Td.prime:Td→V
 | .a _=>.aH
 | .b _ n=>.int n
end My
namespace L2
open PySem PySem.Spec PyProof.Rows
abbrev Cx.aY (X:Cx) (N:List Str) (scope:Scope) (cl:List (Str×Addr)) (s₃:Shared) (H₃:Hp) (fp:List Addr):Cx:=
 {X with N:=N,s₀:=s₃,H₀:=H₃,env:=compEnvC scope cl s₃.heap.objs.size X.env,outer:=X.stack,stack:=X.stack,ex:=fp,fn:=fun _=>false,pn:=[],xe:=fun _ _=>False}
inductive jU (X:Cx):List Expr→TT→Prop where
 | nil:jU X [] (fun _ H Q=>Q true H)
 | one {c:Expr} {t:TT} (h:PT X c t):jU X [c] t
def jV(wi:TI)(ρ:St→St)(tt:TT)(te:TE):TE:=fun σ H Q=>wi σ H fun J H1=>∀D,H1 D=none→∃W:Nat→Nat→List V→Hp→Prop,(∃m,W 0 m [] (upd H1 D (.lst []))) ∧
 ∀i m ys Hc,W i m ys Hc→Hc D=some (.lst ys)∧((J.stop i Hc∧Q (.ref D) Hc)∨(J.go i Hc∧∀x H',J.dW i Hc x H'→tt (some x::ρ σ) H' fun b H2=>
  if b=true then te (some x::ρ σ) H2 fun y H3=>H3 D=some (.lst ys)∧ys.length<sizeLine∧∃m',m'<m∧W (i+1) m' (ys++[y]) (upd H3 D (.lst (ys++[y]))) else ∃m',m'<m∧W (i+1) m' ys H2))
section
variable {X:Cx} {N:List Str} {scope:Scope} {cl:List (Str×Addr)} {x:Str} {px pos:Pos} {iter elt:Expr} {ifs:List Expr} {wi:TI} {ρ:St→St} {tt:TT} {te:TE}
structure Bl (X:Cx) (N:List Str) (scope:Scope) (cl:List (Str×Addr)) (x:Str) (ρ:St→St):Prop where
 vp:closureFor scope X.env=pure cl
 kind:scope.kind=.function
 vq:∀y∈scope.names,y.2≠.cell
 names:∀y∈scope.names,y.2=.local→scope.names.lookup y.1=some .local
 sub:∀p∈cl,X.env.cells.lookup p.1=some p.2
 has:∀y,((relabel scope X.env).names.lookup y=some .cell∨(relabel scope X.env).names.lookup y=some .free)→∃c,cl.lookup y=some c
 n0:N[0]?=some x
 nd:N.Nodup
 hx:scope.names.lookup x=some .local
 vt:∀(σ:St) (j:Nat) (v:V),(ρ σ)[j]?=some (some v)→∃(i:Nat) (y:Str),N[j+1]?=some y∧X.N[i]?=some y∧σ[i]?=some (some v)∧l4 X.env.scope y∧(X.env.kindOf y=some .cell∨X.env.kindOf y=some .free)∧((relabel scope X.env).names.lookup y=some .cell∨(relabel scope X.env).names.lookup y=some .free)
 len:∀σ:St,σ.length=X.N.length→(ρ σ).length+1=N.length
theorem F_{names:List (Str×NameKind)}(h:(names.all fun q=>(q.2 != .cell && q.2 != .free) || (cl.lookup q.1).isSome)=true) :
  ∀y,(names.lookup y=some .cell∨names.lookup y=some .free)→∃c,cl.lookup y=some c:=fun y hy=>by
 have key:∀k:NameKind,(k != .cell && k != .free)=false→names.lookup y=some k→∃c,cl.lookup y=some c:=fun k hk e=>by have z:=lO.mp h (y,k) (jA e);rw [hk,Bool.false_or] at z;exact Option.isSome_iff_exists.mp z
 rcases hy with e | e;·exact key .cell rfl e
 ·exact key .free rfl e
theorem join_some{o:Option (Option V)}{v:V}(h:some o.join=some (some v)):o=some (some v):=by
 cases o with
 | none=>cases h
 | some o=>cases h;rfl
def x_(X:Cx)(sc:Scope):List Str→List Nat→Prop
 | n::ns,i::is=>(X.N[i]?=some n∧l4 X.env.scope n∧(X.env.kindOf n=some .cell∨X.env.kindOf n=some .free)∧((relabel sc X.env).names.lookup n=some .cell∨(relabel sc X.env).names.lookup n=some .free))∧x_ X sc ns is
 | _,[]=>True
 | [],_::_=>False
theorem Bm{X:Cx}{sc:Scope}:∀{ns:List Str} {is:List Nat},x_ X sc ns is→∀(σ:St) (j:Nat) (v:V),(is.map fun i=>σ[i]?.join)[j]?=some (some v)→∃(i:Nat) (n:Str),ns[j]?=some n∧X.N[i]?=some n∧σ[i]?=some (some v)∧l4 X.env.scope n∧(X.env.kindOf n=some .cell∨X.env.kindOf n=some .free)∧((relabel sc X.env).names.lookup n=some .cell∨(relabel sc X.env).names.lookup n=some .free)
 | _,[],_,_,_,_,e=>by cases e
 | [],_::_,h,_,_,_,_=>h.elim
 | n::_,i::_,h,_,0,_,e=>⟨i,n,rfl,h.1.1,join_some e,h.1.2⟩
 | _::_,_::_,h,σ,j+1,v,e=>Bm h.2 σ j v e
theorem fW(is:List Nat)(h1:closureFor scope X.env=pure cl)(h:x_ X scope N.tail is:=by repeat' first | exact True.intro | refine And.intro ⟨rfl,Or.inr (Or.inl rfl),.inl rfl,.inl rfl⟩ ?_)(h2:scope.kind=.function:=by rfl)(h3:∀y∈scope.names,y.2≠.cell:=by decide +kernel)(h4:∀y∈scope.names,y.2=.local→scope.names.lookup y.1=some .local:=by decide +kernel)(h5:∀p∈cl,X.env.cells.lookup p.1=some p.2:=by repeat' first | exact List.forall_mem_nil _ | refine List.forall_mem_cons.mpr ⟨rfl,?_⟩)(h6:((relabel scope X.env).names.all fun q=>(q.2 != .cell && q.2 != .free) || (cl.lookup q.1).isSome)=true:=by rfl)(h7:N[0]?=some x:=by rfl)(h8:N.Nodup:=by decide +kernel)(h9:scope.names.lookup x=some .local:=by rfl)(hr:∀σ:St,ρ σ=is.map fun i=>σ[i]?.join:=by exact fun _=>rfl)(hl:is.length+1=N.length:=by rfl):Bl X N scope cl x ρ:=
 ⟨h1,h2,h3,h4,h5,F_ h6,h7,h8,h9,fun σ j v e=>by rw [hr] at e;rw [←List.getElem?_tail];exact Bm h σ j v e,fun σ _=>by rw [hr,aW];exact hl⟩
theorem jg(B:Bl X N scope cl x ρ)(hc:X.calm=true)(hi:PI X (.Name x px) iter wi)(ht:∀s₃ H₃ fp,jU (X.aY N scope cl s₃ H₃ fp) ifs tt)(he:∀s₃ H₃ fp,PE (X.aY N scope cl s₃ H₃ fp) elt te)
  (hs:∀x,foldedSetIterable iter X.env x=pure x:=by intro _;rfl):PE X (.ListComp elt [⟨.Name x px,iter,ifs,0⟩] scope pos) (jV wi ρ tt te):=by
 intro pins s σ H Q I h
 rw [eval_ListComp]
 refine xh (use:=none) rfl hs B.vp B.kind B.names (aB (hi pins s σ H _ I h) fun v s1 h1=>aB h1 fun qU s2 h2=>?_)
 obtain ⟨it,fp,tn,J,H2,rfl,I2,T,fG,f2,q2⟩:=h2
 have nD:H2 s2.heap.objs.size=none:=I2.ay.fresh (aO _)
 obtain ⟨W,⟨m0,w0⟩,turn⟩:=q2 _ nD
 refine uM (xi B.vq (by intro y hy;simp at hy) (fun h₁ eZ e7=>?_) B.kind)
 dsimp only at eZ e7 ⊢
 generalize hD:s2.heap.objs.size=D at nD w0 turn eZ e7 ⊢
 generalize eI:({s2 with heap:=s2.heap.push {cls:=.type "list",dict:=none,data:=.seq ([]:List Value).toArray}}:Shared)=s3
 have I3:Inv X pins σ (upd H2 D (.lst [])) s3:=by
  subst hD eI
  exact I2.laid (t':=s2.toks) (fun b u e=>de _ e) (aO _) ⟨bO _,[],_,.nil,gg _ rfl⟩
 have e3:s3.heap=s2.heap.push {cls:=.type "list",dict:=none,data:=.seq ([]:List Value).toArray}:=by rw [←eI]
 have e_:∀b o,s2.heap.get? b=some o→s3.heap.get? b=some o:=fun b o e=>by rw [e3];exact de _ e
 rw [←e3] at eZ e7 ⊢
 have below:∀b o,s3.heap.get? b=some o→b≠s3.heap.objs.size:=fun b o e=>dZ (bK e)
 have dm:∀b o,s3.heap.get? b=some o→h₁.get? b=some o:=fun b o e=>e7.extBut b o (below b o e) (de _ e)
 have gu:∀b∈fp,∃o,s2.heap.get? b=some o∧∀v,o.data≠.cell v:=T.obj _ _ fG
 have oJ:∀b∈fp,b≠D:=fun b hb z=>by
  obtain ⟨o,e,_⟩:=gu b hb
  rw [z,←hD] at e
  exact absurd (bK e) (gF _)
 have cT:∀y c,cl.lookup y=some c→X.env.cells.lookup y=some c:=fun y c e=>B.sub (y,c) (jA e)
 have oK:=I3.qL
 have fU:(X.aY N scope cl s3 (upd H2 D (.lst [])) fp).Ok:=by
  refine ⟨I.ok.mod,B.kind,I.ok.glob,I.ok.blt,aO _,fun a b c e1 e2=>I.ok.inj a b c (cT a c e1) (cT b c e2),fun y hy=>B.has y hy,(fun _ _ z _=>absurd z cZ),(fun _=>I.ok.hd hc),I.ok.frames,.inl rfl,fun b hb=>⟨?_,fun y c e z=>?_⟩,fun b o e=>?_,ai I.ok.gr I3.sz,fun b o e hb=>?_,fun b hb z=>?_,I3.stack,oK⟩
  ·obtain ⟨o,e,_⟩:=gu b hb
   exact below b o (e_ b o e)
  ·exact (f2 b hb).2.2.2.2.1 y c (cT y c e) z
  ·exact I3.bs b o e
  ·rcases (f2 b hb).2.2.2.1 with z | z
   ·exact I.ok.l_ b o e z
   ·exact absurd (dB (bK e) (ai I.ok.gr z)) (gF _)
  ·rcases dH.mp (I3.qK b z) with z | z
   ·exact (f2 b hb).2.1 z
   ·exact (f2 b hb).2.2.1 z
 have IB:∀tk:Nat,Inv (X.aY N scope cl s3 (upd H2 D (.lst [])) fp) [] (none::ρ σ) (upd H2 D (.lst [])) {s3 with heap:=h₁,toks:=tk}:=fun tk=>by
  refine ⟨fU,rfl,I3.bare,Un.kept dm,⟨_,eZ,fun j y v e1 e2 e3=>?_⟩,fun y c e=>?_,?_,fun y c e=>I3.g_ y c (cT y c e),(fun p hp=>nomatch hp),I3.ay.kept dm,?_⟩
  ·cases j with
   | zero=>cases e2
   | succ j=>
    obtain ⟨i,y',a1,a2,a3,a4,a5,a6⟩:=B.vt σ j v e2
    have jW:N[j+1]?=some y:=e1
    rw [jW] at a1
    cases a1
    obtain ⟨m,hn,hl⟩:=I3.loc
    obtain ⟨u,r,l⟩:=hl i y v a2 a3 a4
    refine ⟨u,r,.inr ⟨a6,?_⟩⟩
    obtain ⟨c,ec⟩:=B.has y a6
    rcases l with ⟨k,_⟩ | ⟨_,c',jh,z⟩
    ·rcases a5 with q | q <;> (rw [k] at q;cases q)
    ·have:=cT y c ec
     rw [this] at jh
     cases jh
     obtain ⟨o,ho,hd⟩:=z
     exact ⟨c,ec,o,dm _ _ ho,hd⟩
  ·obtain ⟨v,o,ho,hd⟩:=I3.cell y c (cT y c e)
   exact ⟨v,o,dm _ _ ho,hd⟩
  ·exact I3.ay.fresh (aO _)
  ·show (none::ρ σ).length=N.length
   rw [d9]
   exact B.len σ I.len
 have fin:∀{σ':St} {H':Hp} {s':Shared},Inv (X.aY N scope cl s3 (upd H2 D (.lst [])) fp) [] σ' H' s'→Q (.ref D) H'→compPost (model X.prog X.w) X.A X.xe none (EP X pins σ Q) (.ref D) s3.heap.objs.size (.ok .next) s':=fun{σ' H' s'} J q=>by
  obtain ⟨m,hn,_⟩:=J.loc
  refine ⟨m,hn,fun h' fb=>⟨.ref D,H',?_,rfl,q⟩⟩
  have old:∀b o,s3.heap.get? b=some o→b≠s3.heap.objs.size:=below
  have u1:Un (cE X.stack) fp (upd H2 D (.lst [])) H' s3.heap h':=by
   refine ⟨fun b o e n hb hx=>?_,fun b o e n hb hx=>?_,J.base.free,fun b o e hx=>?_,J.base.fP,J.base.fF,J.base.fQ⟩
   ·exact (fb.2 b (old b o e)).trans (J.base.keep b o e n hb hx)
   ·obtain ⟨sl,z⟩:=J.base.slot b o e n hb hx
    exact ⟨sl,(fb.2 b (old b o e)).trans z⟩
   ·obtain ⟨o',z⟩:=J.base.there b o e hx
    exact ⟨o',(fb.2 b (old b o e)).trans z⟩
  have oM:cJ X.prog X.w H' h':=fun b u e=>by
   refine (J.ay b u e).gL (fun c v hc z=>(fb.2 c fun y=>?_).trans z) (fun _ z=>z) fun _ _ z=>z
   have fr:=J.free
   have y':c=s3.heap.objs.size:=y
   rcases hc with hc | hc
   ·rw [←hc,y'] at e
    exact absurd (fr.symm.trans e) (by simp)
   ·rw [y'] at hc
    exact absurd (fr.symm.trans hc) (by simp)
  refine I3.jM (s':={s' with heap:=h'}) (ch:=fp) (J.os) u1 oM J.bare fun b hb=>?_
  obtain ⟨g0,g1,g2,g3,g4,g5⟩:=f2 b hb
  exact ⟨g3,g1,g4,g5⟩
 have eV:∀{H':Hp},(∀b∈fp,H' b=none)→∀b∈fp,jP (X.aY N scope cl s3 (upd H2 D (.lst [])) fp) [] H' b:=fun hn b hb=>by
  refine ⟨hn b hb,?_,?_,.inl hb,fun y c e z=>(f2 b hb).2.2.2.2.1 y c (cT y c e) z,fun p hp=>nomatch hp⟩
  ·obtain ⟨o,e,_⟩:=gu b hb
   exact below b o (e_ b o e)
  ·exact fU.ma b hb
 have loop:∀tk:Nat,codeAny (model X.prog X.w) X.A (.compLoop (.ListComp elt [⟨.Name x px,iter,ifs,0⟩] scope pos) 0 (.ref it) (.ref D) (compEnvC scope cl s3.heap.objs.size X.env))
   (compPost (model X.prog X.w) X.A X.xe none (EP X pins σ Q) (.ref D) s3.heap.objs.size) {s3 with heap:=h₁,toks:=tk}:=fun tk=>by
  refine codeAny_compLoop_tests (fun n s'=>∃i ys o H',Inv (X.aY N scope cl s3 (upd H2 D (.lst [])) fp) [] (o::ρ σ) H' s'∧tn i s'.heap∧(∀b∈fp,H' b=none)∧W i n ys H') ?_ m0
   ⟨0,[],none,_,IB tk,T.keep _ _ _ fG fun b hb o e=>dm _ _ (e_ _ _ e),fun b hb=>by rw [bG (oJ b hb)];exact (f2 b hb).1,w0⟩
  rintro n s4 ⟨i,ys,o,H4,I4,ji,jj,w4⟩
  obtain ⟨Bn,oN⟩:=turn i n ys H4 w4
  rcases oN with ⟨stop,qn⟩ | ⟨go,step⟩
  ·refine cf (T.done (X.aY N scope cl s3 (upd H2 D (.lst [])) fp) rfl rfl rfl hc i [] s4 _ H4 (fun _ _=>False) I4 (eV jj) ji stop) (fun r s5 ⟨hr,I5⟩=>?_) fun _ _ z=>z.elim
   subst hr
   exact fin I5 qn
  ·refine cf (T.item (X.aY N scope cl s3 (upd H2 D (.lst [])) fp) rfl rfl rfl hc i [] s4 _ H4 (fun _ _=>False) I4 (eV jj) ji go) (fun r s5 ⟨u,hr,h5⟩=>?_) fun _ _ z=>z.elim
   subst hr
   have z:letOwnedTupleGo (.Name x px) (.ref it) u=pure ():=rfl
   rw [z] at h5
   show wpAny _ _ ((pure ():Sem Unit) >>= fun _=>assign (.Name x px) (compEnvC scope cl s3.heap.objs.size X.env) u) _ _ s5
   refine cw (cf h5 (fun _ s5 ⟨y,H5,I5,r5,y5,eW,kN⟩=>?_) fun _ _ z=>z.elim)
   have kO:=I5.pinned (eV kN) (T.obj _ _ eW)
   have pg:PG (X.aY N scope cl s3 (upd H2 D (.lst [])) fp) (.Name x px) (b5 0):=d6 (i:=0) B.nd B.n0 (.inl (ix B.hx)) (.inr (ix B.hx))
   have again:∀{σ7:St} {H7:Hp} {s7:Shared},Inv (X.aY N scope cl s3 (upd H2 D (.lst [])) fp) ([]++iG fp s5.heap) σ7 H7 s7→Inv (X.aY N scope cl s3 (upd H2 D (.lst [])) fp) [] σ7 H7 s7∧tn (i+1) s7.heap∧∀b∈fp,H7 b=none:=fun{σ7 H7 s7} I7=>by
    refine ⟨I7.ox,T.keep _ _ _ eW fun b hb o e=>(I7.pin (b,o) (dI _ (dI _ (jQ hb e)))).1,fun b hb=>?_⟩
    obtain ⟨o,e,d⟩:=T.obj _ _ eW b hb
    exact (I7.pin (b,o) (dI _ (dI _ (jQ hb e)))).2.1
   refine cf (pg _ s5 _ H5 y u (fun σ2 H6=>σ2=some y::ρ σ∧H6=H5) kO r5 ⟨rfl,rfl⟩) (fun _ s6 ⟨σ6,H6,I6,q6⟩=>?_) fun _ _ z=>z.elim
   obtain ⟨rfl,rfl⟩:=q6
   have oO:=step y _ y5
   have tests:∀{gv:TT},jU (X.aY N scope cl s3 (upd H2 D (.lst [])) fp) ifs gv→∀{R:Bool→Hp→Prop},gv (some y::ρ σ) H6 R→wpAny (model X.prog X.w) X.A
     (forIn ifs true fun c r=>if r=true then do let ok ←isTrue c (compEnvC scope cl s3.heap.objs.size X.env) (eval c (compEnvC scope cl s3.heap.objs.size X.env));pure (ForInStep.yield ok) else pure (ForInStep.yield r))
     (fun ok s7=>∃H7,Inv (X.aY N scope cl s3 (upd H2 D (.lst [])) fp) ([]++iG fp s5.heap) (some y::ρ σ) H7 s7∧R ok H7) (fun _ _=>False) s6:=fun{gv} p {R} hR=>by
    cases p with
    | nil=>exact xj ⟨_,I6,hR⟩
    | one p=>exact xk (p _ s6 _ _ _ I6 hR)
   refine cf (tests (ht s3 _ fp) oO) (fun ok s7 ⟨H7,I7,q7⟩=>?_) fun _ _ z=>z.elim
   cases ok with
   | false=>
    obtain ⟨m',gx,w7⟩:=q7
    obtain ⟨a1,a2,a3⟩:=again I7
    exact ⟨m',gx,i+1,ys,_,H7,a1,a2,a3,w7⟩
   | true=>
    refine cf (he s3 _ fp _ s7 _ H7 _ I7 q7) (fun ev s8 ⟨z,H8,I8,r8,oP,hz,m',gx,w8⟩=>?_) fun _ _ z=>z.elim
    refine cf (rp (X:=X.aY N scope cl s3 (upd H2 D (.lst [])) fp) _ s8 _ H8 (.ref D) [z] (.ref D) [ev] (fun _ H9=>H9=upd H8 D (.lst (ys++[z]))) I8 rfl (.cons r8 .nil) ⟨D,ys,z,rfl,rfl,oP,hz,rfl⟩) (fun _ s9 ⟨_,H9,I9,_,q9⟩=>?_) fun _ _ z=>z.elim
    subst q9
    obtain ⟨a1,a2,a3⟩:=again I9
    exact ⟨m',gx,i+1,ys++[z],_,_,a1,a2,a3,w8⟩
 have start:=loop (s3.toks+([]:List (Str×Value)).length)
 have es:({s3 with heap:=h₁,toks:=s3.toks+([]:List (Str×Value)).length}:Shared)={s2 with heap:=h₁,toks:=s2.toks+([]:List (Str×Value)).length}:=by rw [←eI]
 rw [es] at start
 exact xl start (T.self _ 0 _ _ _ (T.keep _ _ _ fG fun b hb o e=>dm _ _ (e_ _ _ e)) start)
end
def aU(i:Int):Prop:=i.natAbs<2 ^ 2048
variable {i:Int}
theorem aU.log(h:aU i):i.natAbs.log2<2048:=by
 by_cases z:i.natAbs=0;·rw [z];decide
 ·exact (Nat.log2_lt z).mpr h
def ya(i j:Int):Prop:=j≠0∧aU j
def yb(i j:Int):Prop:=aU i∧aU j
theorem yb.ok{j:Int}(h:yb i j):IntMulOk i j:=by
 have b:∀{k:Int},aU k→Builtin.Int.intBits k≤2048:=fun{k} hk=>by
  have z:=hk.log;unfold Builtin.Int.intBits
  split <;> lia
 unfold IntMulOk;have e:Builtin.Int.intTooBig ((Builtin.Int.intBits i:Int)+(Builtin.Int.intBits j:Int))=false:=by
  unfold Builtin.Int.intTooBig;have h1:=b h.1;have h2:=b h.2;have h3:(4096:Int)≤bitsLine:=by decide +kernel
  exact gU (by lia)
 intro z;rw [uT] at z;have z2:=z.2;rw [show Builtin.Int.intTooBig ((Builtin.Int.intBits i:Int)+(Builtin.Int.intBits j:Int))=false from e] at z2;cases z2
section
variable {X:Cx}
theorem vv:cC X (binaryOp .FloorDiv) (rI ya fun i j=>.int (i.fdiv j)):=oy fun _ _ _ _ _ _ _ hc q=>floordiv_int hc.1 q (.inl (PyProof.noPylong_of_log2 (dB hc.2.log (by decide))))
theorem fX:cC X (binaryOp .Mult) (rI yb fun i j=>.int (i*j)):=oy fun _ _ _ _ _ _ _ hc q=>mul_int q hc.ok
def Oq(i j:Int):Prop:=0<j∧aU j
theorem Bo:cC X (binaryOp .FloorDiv) (rI Oq fun i j=>.int (i / j)):=oy fun i j _ _ _ _ _ hc q=>floordiv_int (Int.ne_of_gt hc.1) (by rw [uO i (Int.le_of_lt hc.1)];exact q) (.inl (PyProof.noPylong_of_log2 (dB hc.2.log (by decide))))
def allR(K:ax):List V→Hp→VK→Prop:=fun xs H Q=>∃(p:Addr) (bs:List Bool),xs=[.ref p]∧aX K H p (bs.map V.bl)∧Q (.bl (bs.all id)) H
theorem Ot{K:ax}(hc:X.calm=true)(hK:X.K=K:=by rfl):jR X (.builtin "all") (allR K):=by
 intro pins s σ H xs us Q I r h;subst hK;obtain ⟨p,bs,rfl,hq,q⟩:=h;obtain ⟨u,rfl,ru⟩:=vals1 r;cases ru;obtain ⟨ao,rv,pl,hz⟩:=I.list hq;have Ou:p≠s.heap.objs.size:=by obtain ⟨o,e,_⟩:=pl.isList;exact dZ (bK e)
 have hl:ao.length=bs.length:=by rw [←rv.length,aW]
 refine call_all_walk (wpAny_pyIter_list pl.isList ?_);refine ⟨s.heap.objs.size,_,_,_,_,_,fun i=>bs.getD i true,rfl,Walks.list (A:=X.A.in1) (show X.A.in1.handled=none from I.ok.hd hc) s.heap.objs.size p Ou ao.toArray,⟨⟨_,gg _ rfl,rfl,rfl⟩,pl.isList.push _⟩,fun i v s' Q' E' hv oF=>?_,fun h' tk hk=>?_⟩
 ·have qY:ao[i]?=some v:=by simpa using hv
  cases eb:bs[i]? with
  | none=>
   have:=rv.none_of (i:=i) (by rw [eS,eb];rfl)
   rw [this] at qY;cases qY
  | some b=>
   obtain ⟨u,hu,ru⟩:=rv.get (i:=i) (x:=V.bl b) (by rw [eS,eb];rfl)
   rw [hu] at qY;cases qY;cases ru;have e:bs.getD i true=b:=by rw [d3,eb];rfl
   have kT:Q' (bs.getD i true) s':=oF;rw [e] at kT;exact nJ kT
 ·refine ⟨.bl (bs.all id),H,I.kept fun b o e=>hk b o (fun z=>?_) (de _ e),?_,q⟩
  ·exact absurd (bK e) (by rw [ky.mp z];exact gF _)
  ·show Value.bool _=Value.bool _
   congr 1
   rw [dJ,hl];clear hk q rv pl hz hl hq
   induction bs with
   | nil=>rfl
   | cons b bs ih=>rw [d9,List.range_succ_eq_map,List.all_cons,List.all_map,List.all_cons];show (b && (List.range bs.length).all fun i=>bs.getD i true)=(b && bs.all id);rw [ih]
end
theorem boot_all:bootBuiltins "all"=some (.builtin "all"):=by decide +kernel
def Bp:Expr→Bool
 | .Starred _ _=>false
 | _=>true
variable {e:Expr} {es:List Expr}
theorem Ov{env:Env}(h:Bp e=true):starEach (e::es) env=(false,eval e env)::starEach es env:=by cases e <;> first | rfl | cases h
theorem dt{X:Cx}{e:Expr}{es:List Expr}{te:TE}{t:TA}(hs:Bp e=true)(ha:PE X e te)(hr:PA X es t):PA X (e::es) (fJ te t):=
 Nb ha hr (Ov hs)
variable {X:Cx} {te:TE}
theorem aa{t:TA}(ha:PE X e te)(hr:PA X es t)(hs:Bp e=true:=by rfl):PA X (e::es) (fJ te t):=dt hs ha hr
theorem Bq{X:Cx}{pos:Pos}{i:Nat}{x:Str}{e:Expr}{te:TE}{pos':Pos}(hs:swapsWith e (some (.Name x pos')) pos.line X.env=pure false)(hf:X.fn x=true∨X.env.scope.names.lookup x=some .local)(hN:X.N.Nodup)(hi:X.N[i]?=some x)(hx:Loc X.env.scope x)(he:PE X e te) :
  PS X (.Assign [.Name x pos'] e pos) (mh te (b5 i)):=Mt hN hi hx he hs hf
variable {pos pos':Pos} {x:Str}
theorem putL(i:Nat)(hN:X.N.Nodup)(he:PE X e te)(hs:swapsWith e (some (.Name x pos')) pos.line X.env=pure false:=by rfl)(hi:X.N[i]?=some x:=by rfl)(hx:X.env.scope.names.lookup x=some .local:=by rfl) :
  PS X (.Assign [.Name x pos'] e pos) (mh te (b5 i)):=Bq hs (.inr hx) hN hi (.inl hx) he
theorem jX(i:Nat)(hN:X.N.Nodup)(he:PE X e te)(hs:swapsWith e (some (.Name x pos')) pos.line X.env=pure false:=by rfl)(hf:X.fn x=true∨X.env.scope.names.lookup x=some .local:=by first | exact .inl rfl | exact .inr rfl | assumption)(hi:X.N[i]?=some x:=by rfl)(hx:X.env.scope.names.lookup x=some .cell:=by rfl) :
  PS X (.Assign [.Name x pos'] e pos) (mh te (b5 i)):=Bq hs hf hN hi (.inr hx) he
def Ow:V→List V→Hp→VK→Prop:=fun x xs H Q=>∃i:Int,x=.int i∧xs=[]∧Q (.int ((Builtin.Int.intBits i:Nat):Int)) H
theorem Ox:A5 X "int.bit_length" Ow:=by intro pins s σ H x xs v us Q I rx rv h;obtain ⟨i,rfl,rfl,q⟩:=h;have Oy:=rv.zero;subst Oy;obtain ⟨t,rfl⟩:=rx;exact call_int_bit_length ⟨.int ((Builtin.Int.intBits i:Nat):Int),H,I.tok _,⟨_,rfl⟩,q⟩
theorem Oz(h:aU i):Builtin.Int.intBits i≤2048:=by
 have z:=h.log;unfold Builtin.Int.intBits
 split <;> lia
end L2
namespace My
open PySem L2
theorem Br(a b:Str):decide (V.str a=V.str b)=decide (a=b):=by
 by_cases h:a=b;·subst h;simp
 ·rw [gU h];exact gU fun e=>h (V.str.inj e)
theorem rB(a b:Int):decide (V.int a=V.int b)=decide (a=b):=by
 by_cases h:a=b;·subst h;simp
 ·rw [gU h];exact gU fun e=>h (V.int.inj e)
variable {K:ax}
theorem vx{T:String}:PySem.W.kitOne K (.type T) (.type T)=some true:=by unfold PySem.W.kitOne;rw [au (beq_self_eq_true _)]
variable {H:Hp}
theorem aC{p:Addr}{o:HO}(h:H p=none):ah H (upd H p o):=fun b u e=>by rw [bG (fi e h)];exact e
variable {i:Int}
theorem Ga{α:Type}{xs:List α}(h0:0≤i)(h1:i<xs.length):∃v,cK xs i=some v∧v∈xs:=by
 obtain ⟨k,rfl⟩:∃k:Nat,i=(k:Int):=⟨i.toNat,by lia⟩
 have hk:k<xs.length:=by lia
 exact ⟨xs[k],gN (by simp [hk]),gI _⟩
theorem oQ(v:V):([(("prime":Str),v)]:List (Str×V)).lookup ("prime":Str)=some v:=by simp [List.lookup]
inductive Any (H:Hp):V→Prop where
 | aH:Any H .aH
 | bl (b:Bool):Any H (.bl b)
 | int (i:Int):Any H (.int i)
 | str (x:Str):Any H (.str x)
 | lst {a:Addr} {xs:List V} (e:H a=some (.lst xs)):Any H (.ref a)
 | tup {a:Addr} {xs:List V} (e:H a=some (.tup xs)):Any H (.ref a)
 | rA {a:Addr} (e:H a=some (F6 a)):Any H (.ref a)
def rC:V→Bool
 | .int _=>true
 | _=>false
def rD:V→Bool
 | .bl _=>true
 | _=>false
def yc(H:Hp):V→Bool
 | .ref a=>(match H a with | some (.tup _)=>true | _=>false)
 | _=>false
variable {v:V}
theorem Any.Bj(h:Any H v):∃T:String,vn K H v (.type T)∧PySem.W.kitOne K (.type T) (.type "int")=some (rC v || rD v)∧PySem.W.kitOne K (.type T) (.type "bool")=some (rD v) ∧
  PySem.W.kitOne K (.type T) (.type "tuple")=some (yc H v):=by
 cases h with
 | aH=>exact ⟨"NoneType",.of .aH,rfl,rfl,rfl⟩
 | bl b=>exact ⟨"bool",.of (.bl b),rfl,rfl,rfl⟩
 | int i=>exact ⟨"int",.of (.int i),rfl,rfl,rfl⟩
 | str x=>exact ⟨"str",.of (.str x),rfl,rfl,rfl⟩
 | lst e=>exact ⟨"list",.of (.lst e),rfl,rfl,by unfold yc;dsimp only;rw [e];rfl⟩
 | tup e=>exact ⟨"tuple",.of (.tup e),rfl,rfl,by unfold yc;dsimp only;rw [e];rfl⟩
 | rA e=>exact ⟨"dict",.rA e,rfl,rfl,by unfold yc;dsimp only;rw [e];rfl⟩
theorem OA(h:rD v=true):rC v=false:=by cases v <;> first | rfl | cases h
theorem jk{m:Str}(e:(m == ("prime":Str))=false):([(("prime":Str),v)]:List (Str×V)).lookup m=none:=by simp [List.lookup,e]
theorem Gb(m n:Nat):Nat.gcd n (m % n)=Nat.gcd m n:=by rw [Nat.gcd_comm n,←Nat.gcd_rec,Nat.gcd_comm]
theorem yd(a:Int):(if a<0 then -a else a)=(a.natAbs:Int):=by split <;> lia
def lowG(a b:Int):Int:=if b<0 then 0-(Int.gcd a b:Int) else (Int.gcd a b:Int)
variable {b:Int}
theorem oR{a:Int}(h:b≠0):0<Int.gcd a b:=Av _ (gh.mpr h)
theorem OB{a:Int}(h:b≠0)(m:aU b):Int.gcd a b<2 ^ 2048:=i6 (Nat.gcd_le_right _ (gh.mpr h)) m
theorem Gd{a:Int}(h:b≠0)(m:aU b):ya 0 (lowG a b):=by
 have h1:=oR (a:=a) h;have h2:=OB (a:=a) h m;unfold lowG;refine ⟨by split <;> lia,?_⟩
 unfold aU
 split
 ·rw [show (0-(Int.gcd a b:Int)).natAbs=Int.gcd a b by lia];exact h2
 ·rw [Int.natAbs_natCast];exact h2
theorem aU.of_lt(h1:-(10 ^ 70)<i)(h2:i<10 ^ 70):aU i:=by
 have h3:i.natAbs<2 ^ 240:=by lia
 exact dB h3 (gi (by decide) (by decide))
def OC:Sp:=fun vs H Q _=>∃v:V,vs=[v]∧Any H v∧Q (.bl (rC v)) H
def OD:Sp:=fun vs H Q _=>∃a b:Int,vs=[.int a,.int b]∧aU b∧Q (.int (Int.gcd a b:Int)) H
def OE:Sp:=fun vs H Q _=>∃n:Int,vs=[.int n]∧2≤n∧n≤997∧Q (.bl (jf n)) H
def OF:Sp:=fun vs H Q _=>∃(p:Addr) (d:Td),vs=[.ref p]∧H p=some (.tup d.vs)∧Q (.bl d.vo) H
def OG:Sp:=fun vs H Q _=>∃(p:Addr) (d:Td),vs=[.ref p]∧H p=some (.tup d.vs)∧Q (.bl d.iL) H
def OH(C N:Addr):Sp:=fun vs H Q E=>∃(x dx p:Addr) (d:Td),vs=[.ref x,.ref p]∧H x=some (.ins C dx [])∧H p=some (.tup d.vs) ∧
 (d.good=true→Q .aH (upd H x (.ins C dx [("prime",d.prime)])))∧(d.good=false→E (.ref N) none H)
def dE(C:Addr)(H:Hp)(x:Addr)(q:Int):Prop:=∃dx,H x=some (.ins C dx [("prime",if q=0 then .aH else .int q)])
variable {H':Hp} {q:Int}
theorem dE.mono{C:Addr}{x:Addr}(h:dE C H x q)(s:ah H H'):dE C H' x q:=by obtain ⟨dx,e⟩:=h;exact ⟨dx,s _ _ e⟩
def OI:Sp:=fun vs H Q _=>∃a b:Int,vs=[.int a,.int b]∧b≠0∧aU b∧∀(q:Addr) (H':Hp),ah H H'→H' q=some (.tup [.int (a.fdiv (lowG a b)),.int (b.fdiv (lowG a b))])→Q (.ref q) H'
def ye(K:ax):Sp:=fun vs H Q _=>∃(a:Addr) (ns:List Int),vs=[.ref a]∧aX K H a (ns.map V.int)∧ns.length≤63∧∀H',Q (.bl true) H'
theorem vy{u v:Int}(hu:0<u)(h:0<u*v):0<v:=by
 by_cases z:0<v;·exact z
 ·have y:=jC (show v≤0 by lia) (show 0≤u by lia)
  rw [dQ] at y;lia
theorem Bs{a:Int}(h:∀d:Nat,(d:Int)∣a→(d:Int)∣b→d=1):Int.gcd a b=1:=h _ (uV ..) (nS ..)
variable {d:Nat}
theorem Bt{a:Int}(h:Int.gcd a b=1)(h1:(d:Int)∣a)(h2:(d:Int)∣b):d=1:=by have z:(d:Int)∣((Int.gcd a b:Nat):Int):=Int.dvd_coe_gcd h1 h2;rw [h] at z;exact Nat.dvd_one.mp (Int.natCast_dvd_natCast.mp z)
variable {c:Int}
theorem Bu{a:Int}(h:Int.gcd b c=1)(h1:(d:Int)∣b)(h2:(d:Int)∣a*c):(d:Int)∣a:=by
 have hc:Nat.Coprime d c.natAbs:=by have z:Nat.Coprime b.natAbs c.natAbs:=h;exact Nat.Coprime.coprime_dvd_left (Int.ofNat_dvd_left.mp h1) z
 have z:d∣a.natAbs*c.natAbs:=by rw [←bq];exact Int.ofNat_dvd_left.mp h2
 exact Int.ofNat_dvd_left.mpr (hc.dvd_of_dvd_mul_right z)
theorem Ge{a:Int}(h1:Int.gcd a b=1)(h2:Int.gcd a c=1):Int.gcd a (b*c)=1:=by refine Bs fun d x y=>?_;exact Bt h1 x (Bu (a:=b) (b:=a) (c:=c) h2 x y)
theorem OJ{a:Int}(h:Int.gcd a b=1):Int.gcd b a=1:=by rw [Int.gcd_comm];exact h
theorem Gf{a:Int}(h:b≠0):Int.gcd (a / (Int.gcd a b:Int)) (b / (Int.gcd a b:Int))=1:=by have z:0<Int.gcd a b:=Av _ (gh.mpr h);exact Int.gcd_ediv_gcd_ediv_gcd z
structure il (x m:Int):Prop where
 pos:1≤m
 vz:Int.gcd x m=1
def mz(x:Int):Prop:=x.natAbs≤10 ^ 300
theorem OK:(10:Nat) ^ 300<2 ^ 2048:=by decide +kernel
def OL(C:Addr)(fr:Int→Int→Int→Int→Int)(rm:Int→Int→Int):Sp:=fun vs H Q _=>∃(z:Addr) (q:Int) (v u:V),vs=[.ref z,v,u]∧dE C H z q ∧
  ((q=0∧∃(p r:Addr) (x m y n:Int),v=.ref p∧u=.ref r∧H p=some (.tup [.int x,.int m])∧H r=some (.tup [.int y,.int n])∧il x m∧il y n∧mz x∧mz m∧mz y∧mz n ∧
    ∀(r':Addr) (H':Hp) (a d:Int),ah H H'→H' r'=some (.tup [.int a,.int d])→il a d→a*(m*n)=fr x m y n*d→Q (.ref r') H') ∨
   (2≤q∧∃i j:Int,v=.int i∧u=.int j∧0≤i∧i<1000∧Q (.int (rm i j % q)) H))
def aD(p:Int):Prop:=p=0∨(2≤p∧p≤997∧jf p=true)
inductive aQ (B:Nat) (H:Hp):Int→V→Int→Int→Prop where
 | bJ {p:Addr} {x m:Int} (e:H p=some (.tup [.int x,.int m])) (l:il x m) (bx:x.natAbs≤B) (bm:m.natAbs≤B):aQ B H 0 (.ref p) x m
 | rem {q i:Int} (h0:0≤i) (h1:i<q) (h2:q≤997):aQ B H q (.int i) i 1
theorem aQ.mono{B:Nat}{x m:Int}(h:aQ B H q v x m)(s:ah H H'):aQ B H' q v x m:=by
 cases h with
 | bJ e l bx bm=>exact .bJ (s _ _ e) l bx bm
 | rem h0 h1 h2=>exact .rem h0 h1 h2
theorem Gg{a:Int}(h:1≤b):∃u d:Int,a.fdiv (lowG a b)=u∧b.fdiv (lowG a b)=d∧il u d∧u.natAbs≤a.natAbs∧d.natAbs≤b.natAbs:=by
 have hp:=oR (a:=a) (b:=b) (by lia)
 have e:lowG a b=(Int.gcd a b:Int):=by unfold lowG;rw [ar (by lia)]
 rw [e]
 refine ⟨a / (Int.gcd a b:Int),b / (Int.gcd a b:Int),uO _ (by lia),uO _ (by lia),⟨?_,Gf (by lia)⟩,lR ..,lR ..⟩
 obtain ⟨b',eb⟩:=nS (a:=a) (b:=b)
 have z:b / (Int.gcd a b:Int)=b':=by
                       conv=>lhs;lhs;rw [eb]
                       exact lT _ (by lia)
 rw [z]
 exact vy (u:=(Int.gcd a b:Int)) (by lia) (by rw [←eb];lia)
theorem yf{u d T B:Int}(l:il u d)(hB:0<B)(e:u*B=T*d):d≤B∧u.natAbs≤T.natAbs:=by
 have h0:=l.pos;have hd:d∣B:=by
  have z:((d.natAbs:Nat):Int)∣B:=Bu (a:=B) (b:=d) (c:=u) (OJ l.vz) (Int.natAbs_dvd.mpr (nU d)) ⟨T*(d / (d.natAbs:Int)),by
   have q:(d.natAbs:Int)=d:=by lia
   rw [q,Int.ediv_self (by lia),eQ,iy B u,e,iy]⟩
  exact Int.natAbs_dvd.mp z
 have hle:=qD hB hd;refine ⟨hle,?_⟩;have z:u.natAbs*B.natAbs=T.natAbs*d.natAbs:=by rw [←bq,e,bq]
 have z2:T.natAbs*d.natAbs≤T.natAbs*B.natAbs:=gj _ (by lia)
 rw [←z] at z2;exact Nat.le_of_mul_le_mul_right z2 (by lia)
theorem Bv(h1:2≤q)(h2:q≤997)(hp:jf q=true)(b1:1≤b)(b2:b<q):Int.gcd q b=1:=by
 have gp:0<Int.gcd q b:=Av _ (gh.mpr (by lia))
 by_cases g1:Int.gcd q b=1;·exact g1
 exfalso
 obtain ⟨k,ek⟩:=uV (a:=q) (b:=b);have hb:=qD (by lia) (nS (a:=q) (b:=b))
 generalize Int.gcd q b=g at *;have kp:0<k:=vy (u:=(g:Int)) (by lia) (by rw [←ek];lia)
 have k2:k≠1:=fun z=>by rw [z,eQ] at ek;lia
 have no:∀d:Int,2≤d→d*d≤q→q % d=0→False:=fun d x y z=>by rw [F9 h2 x y z] at hp;cases hp
 by_cases c:(g:Int)≤k;·exact no g (by lia) (by rw [ek];exact jC c (by lia)) (by rw [ek];exact Int.mul_emod_right ..)
 ·exact no k (by lia) (by rw [ek];exact Int.mul_le_mul_of_nonneg_right (by lia) (by lia)) (by rw [ek];exact Int.mul_emod_left ..)
structure kU (q b last lt now nt:Int):Prop where
 l:∃s,last=lt*b+s*q
 n:∃s,now=nt*b+s*q
 vz:Int.gcd last now=1
 pos:1≤now
 less:now≤last
variable {nt:Int}
theorem kU.step{last lt now:Int}(h:kU q b last lt now nt)(h1:1<now):kU q b now nt (last-last / now*now) (lt-last / now*nt)∧last-last / now*now<now:=by
 obtain ⟨⟨s,es⟩,⟨r,er⟩,c,p,le⟩:=h;have e:last-last / now*now=last % now:=by have z:=Aw last now;rw [iy] at z;lia
 have ZH:=du last (show 0<now by lia)
 have ge:=dk last (show now≠0 by lia)
 have c':Int.gcd now (last % now)=1:=Bs fun d x y=>Bt c (by have z:=Aw last now;rw [←z];exact Int.dvd_add y (kz x (uW ..))) x
 have nz:last % now≠0:=fun z=>by rw [z,Int.gcd_zero_right] at c';lia
 refine ⟨⟨⟨r,er⟩,⟨s-last / now*r,?_⟩,by rw [e];exact c',by lia,by lia⟩,by lia⟩
 generalize last / now=f;rw [es,er,Int.sub_mul,Int.sub_mul,jD,kA,kA];lia
theorem kU.done{last lt:Int}(h:kU q b last lt 1 nt)(hq:2≤q):(nt % q*b) % q=1:=by
 obtain ⟨s,e⟩:=h.n;have z:nt*b=1+(-s)*q:=by rw [Int.neg_mul];lia
 have y:nt % q*b % q=nt*b % q:=by rw [uX (nt % q) b,Int.emod_emod,←uX]
 rw [y,z,Int.add_mul_emod_self_right];exact lU (by lia) (by lia)
theorem kU.start(h1:2≤q)(h2:q≤997)(hp:jf q=true)(b1:1≤b)(b2:b<q):kU q b q 0 b 1:=
 ⟨⟨1,by lia⟩,⟨0,by lia⟩,Bv h1 h2 hp b1 b2,b1,by lia⟩
end My
namespace L2
open PySem PySem.Spec PyProof.Rows
def Gh(K:ax):R2:=fun x y H Q=>(∃a xs i,x=.ref a∧y=.int i∧dU K H a xs∧Q (.bl false) H)∨(∃a xs i,x=.int i∧y=.ref a∧dU K H a xs∧Q (.bl false) H)∨x9 K false x y H Q∨Fi x y H Q
theorem Gi{X:Cx}(hu:X.A.units<cLine):cC X (compareOp .Eq) (Gh X.K):=by
 intro pins s σ H x y v u Q I rx ry h;rcases h with ⟨a,xs,i,rfl,rfl,h1,q⟩ | ⟨a,xs,i,rfl,rfl,h1,q⟩ | h | h
 ·cases rx
  obtain ⟨t,rfl⟩:=ry;obtain ⟨us,r1,t1,_⟩:=I.tuple h1;exact SeqAt.RcAt.tuple_int i t t1 hu _ _ _ _ ⟨.bl false,H,I,rfl,q⟩
 ·cases ry
  obtain ⟨t,rfl⟩:=rx;obtain ⟨us,r1,t1,_⟩:=I.tuple h1;exact SeqAt.RcAt.int_tuple i t t1 hu _ _ _ _ ⟨.bl false,H,I,rfl,q⟩
 ·exact F8 hu pins s σ H x y v u Q I rx ry h
 ·exact fI pins s σ H x y v u Q I rx ry h
end L2
namespace My
open PySem L2
def OM(N:Addr):Sp:=fun vs H Q E=>∃q b:Int,vs=[.int q,.int b]∧2≤q∧q≤997∧jf q=true∧0≤b∧b<q∧(b=0→E (.ref N) none H)∧(b≠0→∀r:Int,0≤r→r<q→(r*b) % q=1→Q (.int r) H)
def ON(N:Addr):Sp:=fun vs H Q E=>∃q i j:Int,vs=[.int q,.int i,.int j]∧2≤q∧q≤997∧jf q=true∧0≤i∧i<q∧0≤j∧j<q∧(j=0→E (.ref N) none H)∧(j≠0→∀r:Int,0≤r→r<q→(r*j) % q=i→Q (.int r) H)
theorem OO{q i j r:Int}(hq:2≤q)(i0:0≤i)(i1:i<q)(h:(r*j) % q=1):(i*r % q*j) % q=i:=by
 have y:i*r % q*j % q=i*(r*j) % q:=by rw [uX (i*r % q) j,Int.emod_emod,←uX,kA]
 rw [y,uX,h,lU i0 i1,eQ,lU i0 i1]
end My
namespace L2
open PySem PySem.Spec PyProof.Rows
structure ip (K:ax) (x qual:Str) (st:Stmt) (i:Int) (f:Addr) (fd:FuncData):Prop where
 ex:∃(oc:Value) (od:Option Addr) (kV doc pm:Value) (an:Option Addr) (aT ct:Value) (eY:Array (Option Value)) (dT:Addr) (tk:Tok) (mB:Value) (mC:Option Addr) (n:Nat) (mD:Array (Option Value)),
  fd=PySem.W.fnOf x qual (ik st) (fm st) (aR st) (.ref dT) kV doc pm an aT ct∧K.lookup f=some ⟨oc,od,.func fd,eY⟩∧PySem.W.codeIn K aT qual=true∧K.lookup dT=some ⟨mB,mC,.seq #[.int i tk] n,mD⟩
 kp:PySem.W.keepIn K (.ref f)=true
section
variable {P:Program} {w:World} {K:ax} {mg:dh} {base:Heap}
variable {x qual:Str} {st:Stmt} {i:Int} {f:Addr} {fd:FuncData} {ps:List Str}
theorem ip.Bi{N:List Str}{k:Nat}{sp:Sp}(F:ip K x qual st i f fd)(S:bI N ps (aR st))(len:∀vs H Q E,sp vs H Q E→vs.length=ps.length)
  (jc:∀(aT:Value) (A:Around) (outer:List Env) (s:Shared) (H:Hp) (vs:List V) (Q:VK) (E:XK),cW k (A.deeper (envOfC qual (aR st) s.heap.objs.size f aT))→sp vs H Q E→
   rq (ie (fq P w) P w K mg base N qual (aR st) f aT A outer s H E) E→
   ∃t,ej (ie (fq P w) P w K mg base N qual (aR st) f aT A outer s H E) (fm st) t∧t {nx:=fun _ H'=>Q .aH H',rt:=Q} (start N vs) H):a8 P w K mg base (fq P w) (k+1) f fd ps sp:=by
 obtain ⟨oc,od,kV,doc,pm,an,aT,ct,eY,dT,tk,mB,mC,n,mD,rfl,lk,eU,ld⟩:=F.ex;exact A0 lk eU S len fun A outer s H vs Q E hr iK=>jc aT A outer s H vs Q E hr iK ⟨rfl,rfl,rfl,rfl⟩
theorem yg{dT:Addr}{oc:Value}{od an:Option Addr}{eY:Array (Option Value)}{kV doc pm aT ct:Value}{tk:Tok}{mB:Value}{mC:Option Addr}{n:Nat}{mD:Array (Option Value)}
  (l:K.lookup f=some ⟨oc,od,.func (PySem.W.fnOf x qual (ik st) (fm st) (aR st) (.ref dT) kV doc pm an aT ct),eY⟩)
  (c:PySem.W.codeIn K aT qual=true) (k:PySem.W.keepIn K (.ref f)=true) (ld:K.lookup dT=some ⟨mB,mC,.seq #[.int i tk] n,mD⟩):ip K x qual st i f (PySem.W.fnOf x qual (ik st) (fm st) (aR st) (.ref dT) kV doc pm an aT ct):=
 ⟨⟨oc,od,kV,doc,pm,an,aT,ct,eY,dT,tk,mB,mC,n,mD,rfl,l,c,ld⟩,k⟩
theorem ip.binds(F:ip K x qual st i f fd)
  (h:∀(s:Shared) (dT:Addr) (kV doc pm:Value) (an:Option Addr) (aT ct:Value) (tk:Tok) (o:Obj) (n:Nat) (us:List Value),s.heap.get? dT=some o→o.data=.seq #[.int i tk] n→us.length=ps.length→
   BindsTo s (PySem.W.fnOf x qual (ik st) (fm st) (aR st) (.ref dT) kV doc pm an aT ct) ⟨us,[]⟩ (ps.zip us)):Binds K fd ps []:=by
 obtain ⟨oc,od,kV,doc,pm,an,aT,ct,eY,dT,tk,mB,mC,n,mD,rfl,lk,eU,ld⟩:=F.ex;intro s us X hl;rw [nQ] at hl ⊢;exact h s dT kV doc pm an aT ct tk _ n us (X _ _ ld) rfl hl
theorem ip.OP(F:ip K x qual st i f fd)
  (h:∀(s:Shared) (dT:Addr) (kV doc pm:Value) (an:Option Addr) (aT ct:Value) (tk:Tok) (o:Obj) (n:Nat) (us:List Value),s.heap.get? dT=some o→o.data=.seq #[.int i tk] n→us.length+1=ps.length→
   BindsTo s (PySem.W.fnOf x qual (ik st) (fm st) (aR st) (.ref dT) kV doc pm an aT ct) ⟨us,[]⟩ (ps.zip (us++[.int i tk]))):∃v,Vals [V.int i] [v]∧Binds K fd ps [v]:=by
 obtain ⟨oc,od,kV,doc,pm,an,aT,ct,eY,dT,tk,mB,mC,n,mD,rfl,lk,eU,ld⟩:=F.ex;refine ⟨.int i tk,.cons ⟨tk,rfl⟩ .nil,fun s us X hl=>?_⟩;exact h s dT kV doc pm an aT ct tk _ n us (X _ _ ld) rfl (by simpa using hl)
theorem ip.OQ{y:Str}(F:ip K x qual st i f fd)
  (h:∀(s:Shared) (dT:Addr) (kV doc pm:Value) (an:Option Addr) (aT ct:Value) (tk:Tok) (o:Obj) (n:Nat) (us ws:List Value),s.heap.get? dT=some o→o.data=.seq #[.int i tk] n→ws.length=1→us.length+1=ps.length→
   BindsTo s (PySem.W.fnOf x qual (ik st) (fm st) (aR st) (.ref dT) kV doc pm an aT ct) ⟨us,[y].zip ws⟩ (ps.zip (us++ws))) :
  ∀(s:Shared) (us ws:List Value),K.In s.heap→ws.length=1→us.length+1=ps.length→BindsTo s fd ⟨us,[y].zip ws⟩ (ps.zip (us++ws)):=by
 obtain ⟨oc,od,kV,doc,pm,an,aT,ct,eY,dT,tk,mB,mC,n,mD,rfl,lk,eU,ld⟩:=F.ex;intro s us ws X hw hl;exact h s dT kV doc pm an aT ct tk _ n us ws (X _ _ ld) rfl hw hl
end
section
variable {X:Cx} {CX:ic} {k:Nat} {f C:Addr} {fd:FuncData} {ps:List Str} {y:Str} {sp:Sp} {E:XK} {m:Str} {pos apos Ni:Pos} {e e' o:Expr} {ta:TE} {t tk:TA}
def Gj(K:ax):R2:=fun x y H Q=>x9 K true x y H Q∨Fj x y H Q
theorem OR(hu:X.A.units<cLine):cC X (compareOp .NotEq) (Gj X.K):=by
 intro pins s σ H x y v u Q I rx ry h;rcases h with h | h;·exact Om hu pins s σ H x y v u Q I rx ry h
 ·exact qX pins s σ H x y v u Q I rx ry h
end
end L2
namespace My
open PySem L2
def fc(a b:Int):Int:=a.fdiv (lowG a b)
def fe(a b:Int):Int:=b.fdiv (lowG a b)
theorem Bw{a b:Int}(hb:b≠0):il (fc a b) (fe a b)∧fc a b*b=a*fe a b∧(fc a b).natAbs≤a.natAbs∧(fe a b).natAbs≤b.natAbs:=by
 have gp:=oR (a:=a) hb;have c:=Gf (a:=a) hb;obtain ⟨a',ea⟩:=uV (a:=a) (b:=b);obtain ⟨b',eb⟩:=nS (a:=a) (b:=b);unfold fc fe lowG;generalize Int.gcd a b=g at *;have g0:(g:Int)≠0:=by lia
 have ga:a / (g:Int)=a':=by rw [ea];exact lT _ g0
 have gb:b / (g:Int)=b':=by rw [eb];exact lT _ g0
 rw [ga,gb] at c;have la:a'.natAbs≤a.natAbs:=by rw [←ga];exact lR ..
 have lb:b'.natAbs≤b.natAbs:=by rw [←gb];exact lR ..
 have cr:a'*b=a*b':=by rw [ea,eb];simp only [kA,iy,Int.mul_left_comm]
 by_cases h:b<0
 ·have d1:(0-(g:Int))∣a:=⟨-a',by rw [ea,qE,Int.neg_mul_neg]⟩
  have d2:(0-(g:Int))∣b:=⟨-b',by rw [eb,qE,Int.neg_mul_neg]⟩
  rw [au h,xn d1,xn d2,qE,Int.ediv_neg,Int.ediv_neg,ga,gb];refine ⟨⟨?_,by rw [Int.neg_gcd,Int.gcd_neg];exact c⟩,?_,?_,?_⟩
  ·have z:0 < -b':=vy (u:=(g:Int)) (by lia) (by rw [gk,←eb];lia)
   lia
  ·rw [Int.neg_mul,gk,cr]
  ·rw [kB];exact la
  ·rw [kB];exact lb
 ·rw [ar h,xn ⟨a',ea⟩,xn ⟨b',eb⟩,ga,gb]
  have z:0<b':=vy (u:=(g:Int)) (by lia) (by rw [←eb];lia)
  exact ⟨⟨by lia,c⟩,cr,la,lb⟩
theorem Gk(a:Int):fc a 1=a∧fe a 1=1:=by
 unfold fc fe lowG;rw [xo,ar (by decide)]
 exact ⟨qF a,qF 1⟩
def OS(N:Addr):Sp:=fun vs H Q E=>∃a b:Int,vs=[.int a,.int b]∧aU b∧(b=0→E (.ref N) none H)∧(b≠0→∀(r:Addr) (H':Hp),ah H H'→H' r=some (.tup [.int (fc a b),.int (fe a b)])→Q (.ref r) H')
def jY(q b:Int):Prop:=if q=0 then b=0 else b % q=0
def Bx(H:Hp)(q:Int)(v:V)(a b:Int):Prop:=
 (q=0∧∃r:Addr,v=.ref r∧H r=some (.tup [.int (fc a b),.int (fe a b)]))∨(2≤q∧∃r:Int,v=.int r∧0≤r∧r<q∧(r*(b % q)) % q=a % q)
def OT(C N:Addr):Sp:=fun vs H Q E=>∃(z:Addr) (q a b:Int),vs=[.ref z,.int a,.int b]∧dE C H z q∧aD q∧aU b ∧
 (jY q b→E (.ref N) none H)∧(¬jY q b→∀(v:V) (H':Hp),ah H H'→Bx H' q v a b→Q v H')
end My
namespace L2
open PySem PySem.Spec PyProof.Rows
section
variable {X:Cx}
end
end L2
namespace My
open PySem L2
inductive jZ (H:Hp):Int→V→Int→Int→Prop where
 | bJ {p:Addr} {u d t b:Int} (e:H p=some (.tup [.int u,.int d])) (l:il u d) (hb:b≠0) (h:u*b=t*d):jZ H 0 (.ref p) t b
 | rem {q r t b:Int} (q2:2≤q) (h0:0≤r) (h1:r<q) (g:Int.gcd q b=1) (h:q∣r*b-t):jZ H q (.int r) t b
variable {B:Nat} {H:Hp} {q x m:Int} {v:V}
theorem aQ.rE(h:aQ B H q v x m)(hq:aD q):jZ H q v x m:=by
 cases h with
 | bJ e l bx bm=>exact .bJ e l (by have:=l.pos;lia) rfl
 | rem h0 h1 h2=>
  have q2:2≤q:=(hq.resolve_left (by lia)).1
  exact .rem q2 h0 h1 (by rw [xo]) ⟨0,by lia⟩
variable {t b:Int}
theorem Gm{u d:Int}(l:il u d)(hb:b≠0)(e:u*b=t*d):u.natAbs≤t.natAbs∧d.natAbs≤b.natAbs:=by
 have h3:=l.pos;by_cases c:0<b
 ·obtain ⟨z1,z2⟩:=yf l c e
  lia
 ·have e':u*(-b)=(-t)*d:=by rw [gk,e,Int.neg_mul]
  obtain ⟨z1,z2⟩:=yf l (show 0 < -b by lia) e'
  lia
variable {c:Int}
theorem By{a:Int}(h:c≠0)(e:a*c=b*c):a=b:=Int.eq_of_mul_eq_mul_right h e
theorem OU(h:Int.gcd q c=1)(d:q∣c-t):Int.gcd q t=1:=by
 refine Bs fun e h1 h2=>Bt h h1 ?_;have z:=Int.dvd_add (kz h1 d) h2;rw [show c-t+t=c by lia] at z
 exact z
theorem Gn{a:Int}(q2:2≤q)(g:Int.gcd q c=1)(d:q∣a*c):q∣a:=by
 have qq:((q.natAbs:Nat):Int)=q:=by lia
 have z:=Bu (a:=a) (b:=q) (c:=c) (d:=q.natAbs) g (by rw [qq];exact nU q) (by rw [qq];exact d)
 rw [qq] at z;exact z
theorem vA(a q:Int):∃w,a % q+q*w=a:=⟨a / q,Aw a q⟩
section
variable {C N z:Addr} {q:Int} {v u:V} {t b t' b':Int} {H:Hp} {Q:VK} {E:XK}
theorem ZI(hw:dE C H z q)(hq:aD q)(hv:jZ H q v t b)(hu:jZ H q u t' b')(b1:mz t)(b2:mz b)(b3:mz t')(b4:mz b')
  (k:∀(v':V) (H':Hp),ah H H'→jZ H' q v' (t*b'+t'*b) (b*b')→Q v' H'):OL C (fun x m y n=>x*n+y*m) (fun i j=>i+j) [.ref z,v,u] H Q E:=by
 refine ⟨z,q,v,u,rfl,hw,?_⟩;cases hv with
 | bJ e l hb h=>
  cases hu with
  | bJ e' l' rF h'=>
   rename_i p x m p' y n
   obtain ⟨c1,c2⟩:=Gm l hb h;obtain ⟨c3,c4⟩:=Gm l' rF h';refine .inl ⟨rfl,_,_,x,m,y,n,rfl,rfl,e,e',l,l',ai c1 b1,ai c2 b2,ai c3 b3,ai c4 b4,fun r' H' a d s' er la ea=>k _ H' s' (.bJ er la (Int.mul_ne_zero hb rF) ?_)⟩;have m0:=l.pos;have n0:=l'.pos;refine By (c:=m*n) (Int.mul_ne_zero (by lia) (by lia)) ?_
   grind
  | rem q2 h0 h1 g h=>lia
 | rem q2 h0 h1 g h=>
  cases hu with
  | bJ e' l' rF h'=>lia
  | rem OV mE yh g' h'=>
   rename_i i j
   have q3:q≤997:=(hq.resolve_left (by lia)).2.1
   refine .inr ⟨q2,i,j,rfl,rfl,h0,by lia,k _ H (ah.refl H) (.rem q2 (dk _ (by lia)) (du _ (by lia)) (Ge g g') ?_)⟩
   obtain ⟨k1,e1⟩:=h;obtain ⟨k2,e2⟩:=h';obtain ⟨w,ew⟩:=vA (i+j) q;exact ⟨k1*b'+k2*b-w*(b*b'),by grind⟩
theorem Gp(nz:¬q∣b):¬jY q b:=fun h=>nz (by
  unfold jY at h;by_cases z:q=0;·rw [au z] at h;rw [h];exact fM q
  ·rw [ar z] at h;exact Ax h)
theorem Gq{u d u' d':Int}(l:il u d)(l':il u' d')(e:u*d'=u'*d):u=u'∧d=d':=by
 have h1:=l.pos;have h2:=l'.pos;have a:=(yf l (show 0<d' by lia) e).1
 have c:=(yf l' (show 0<d by lia) e.symm).1
 have dd:d=d':=by lia
 subst dd;exact ⟨By (show d≠0 by lia) e,rfl⟩
theorem OW(hv:jZ H q v t b)(hu:jZ H q u t' b')(e:t*b'=t'*b) :
  (∃p p' x m,v=.ref p∧u=.ref p'∧H p=some (.tup [.int x,.int m])∧H p'=some (.tup [.int x,.int m]))∨(∃i:Int,v=.int i∧u=.int i):=by
 cases hv with
 | bJ e1 l hb h=>
  cases hu with
  | bJ e2 l' rF h'=>
   rename_i p x m p' y n
   have z:x*n=y*m:=by refine By (c:=b*b') (Int.mul_ne_zero hb rF) ?_;grind
   obtain ⟨rfl,rfl⟩:=Gq l l' z;exact .inl ⟨_,_,_,_,rfl,rfl,e1,e2⟩
  | rem q2 h0 h1 g h=>lia
 | rem q2 h0 h1 g h=>
  cases hu with
  | bJ e' l' rF h'=>lia
  | rem OV mE yh g' h'=>
   rename_i i j
   have d:q∣(i-j)*(b*b'):=by obtain ⟨k1,e1⟩:=h;obtain ⟨k2,e2⟩:=h';exact ⟨k1*b'-k2*b,by grind⟩
   have d2:=Gn q2 (Ge g g') d;have ij:i=j:=by
    obtain ⟨k,ek⟩:=d2;by_cases z:k=0;·rw [z,dQ] at ek;lia
    ·exfalso
     rcases Int.lt_or_gt_of_ne z with z | z
     ·have:=jC (show k≤-1 by lia) (show 0≤q by lia)
      lia
     ·have:=jC (show 1≤k by lia) (show 0≤q by lia)
      lia
   subst ij;exact .inr ⟨_,rfl,rfl⟩
theorem Gr(x m:Int):fV [V.int x,V.int m] [V.int x,V.int m]=true:=by show ((x == x) && ((m == m) && true))=true;simp
end
theorem aQ.aS{H':Hp}{D:Addr}{ys:List V}(h:aQ B H q v x m)(eD:H D=some (.lst ys))(k:∀b o,b≠D→H b=some o→H' b=some o):aQ B H' q v x m:=by
 cases h with
 | bJ e l bx bm=>refine .bJ (k _ _ (fun z=>?_) e) l bx bm;rw [z,eD] at e;cases e
 | rem h0 h1 h2=>exact .rem h0 h1 h2
end My
namespace L2
open PySem PySem.Spec PyProof.Rows
structure kW (J:It) (xs:List V) (H1:Hp):Prop where
 go:∀i Hc,ah H1 Hc→i<xs.length→J.go i Hc
 dW:∀i Hc x H',ah H1 Hc→J.dW i Hc x H'→H'=Hc∧(i<xs.length→xs[i]?=some x)
 stop:∀i Hc,ah H1 Hc→xs.length≤i→J.stop i Hc
variable {K:ax} {xs:List V} {H1:Hp}
theorem mF{a:Addr}(h:aX K H1 a xs):kW (qV K a) xs H1 where
 go:=fun i Hc s hi=>⟨xs,xs[i],s.seq h,by simp [hi]⟩
 dW:=fun i Hc x H' s y=>⟨y.1,fun _=>y.2 xs (s.seq h)⟩
 stop:=fun i Hc s hi=>⟨xs,s.seq h,hi⟩
theorem BA{lo:Int}{n:Nat}:kW (kL lo n) ((List.range n).map fun i:Nat=>V.int (lo+(i:Int))) H1 where
 go:=fun i Hc s hi=>by
  have hi:i<n:=by simpa using hi
  exact hi
 dW:=fun i Hc x H' s y=>⟨y.1,fun hi=>by
  have hi:i<n:=by simpa using hi
  rw [y.2];simp [hi]⟩
 stop:=fun i Hc s hi=>by
  have hi:n≤i:=by simpa using hi
  exact hi
variable {H:Hp} {D:Addr}
theorem gy{H':Hp}{o:HO}(s:ah H H')(n:H D=none):ah H (upd H' D o):=fun b u e=>by rw [bG (fi e n)];exact s b u e
variable {te:TE} {Q:VK}
theorem Gs{J:It}{ρσ:St}(js:kW J xs H1)(nD:H1 D=none)(hn:xs.length<sizeLine)
  (P:Nat→V→Hp→Prop) (mono:∀i y H H' ys,P i y H→H D=some (.lst ys)→(∀b o,b≠D→H b=some o→H' b=some o)→P i y H')
  (step:∀i x,xs[i]?=some x→∀(Hc:Hp) (R:VK),ah H1 Hc→(∃ys,Hc D=some (.lst ys))→(∀y H3,ah Hc H3→P i y H3→R y H3)→te (some x::ρσ) Hc R)
  (fin:∀ys Hc,ah H1 Hc→ys.length=xs.length→(∀i y,ys[i]?=some y→P i y Hc)→Hc D=some (.lst ys)→Q (.ref D) Hc) :
  ∃W:Nat→Nat→List V→Hp→Prop,(∃m,W 0 m [] (upd H1 D (.lst []))) ∧
   ∀i m ys Hc,W i m ys Hc→Hc D=some (.lst ys)∧((J.stop i Hc∧Q (.ref D) Hc)∨(J.go i Hc∧∀x H',J.dW i Hc x H'→
    if true=true then te (some x::ρσ) H' fun y H3=>H3 D=some (.lst ys)∧ys.length<sizeLine∧∃m',m'<m∧W (i+1) m' (ys++[y]) (upd H3 D (.lst (ys++[y]))) else ∃m',m'<m∧W (i+1) m' ys H')):=by
 refine ⟨fun i m ys Hc=>m=xs.length-i∧i≤xs.length∧Hc D=some (.lst ys)∧ah H1 Hc∧ys.length=i∧∀j y,ys[j]?=some y→P j y Hc,⟨_,rfl,bO _,aq,gy (ah.refl H1) nD,rfl,fun j y e=>by simp at e⟩,?_⟩
 rintro i m ys Hc ⟨rfl,hi,eD,sH,el,hP⟩;refine ⟨eD,?_⟩;by_cases bP:i<xs.length
 ·refine .inr ⟨js.go i Hc sH bP,fun x H' hy=>?_⟩
  obtain ⟨rfl,hx⟩:=js.dW i Hc x H' sH hy;rw [au rfl];refine step i x (hx bP) _ _ sH ⟨ys,eD⟩ fun y H3 s3 hp=>?_;have e3:=s3 _ _ eD;refine ⟨e3,by lia,xs.length-(i+1),by lia,rfl,bP,aq,gy (sH.trans s3) nD,by simp [el],fun j y' e=>?_⟩
  have aS:∀b o,b≠D→H3 b=some o→upd H3 D (.lst (ys++[y])) b=some o:=fun b o nb e=>by rw [bG nb];exact e
  by_cases hj:j<i
  ·have e':ys[j]?=some y':=by rw [ir (by lia)] at e;exact e
   refine mono j y' H' _ ys (hP j y' e') eD fun b o nb e=>?_;exact aS b o nb (s3 _ _ e)
  ·have hj:j=i:=by have:=(cG.mp e).1;simp at this;lia
   subst hj;have e':y'=y:=by rw [gY (by lia),el,jE] at e;simpa using e.symm
   subst e';exact mono _ _ H3 _ ys hp e3 aS
 ·have e:i=xs.length:=by lia
  subst e;exact .inl ⟨js.stop _ Hc sH (aO _),fin ys Hc sH el hP eD⟩
variable {wi:TI} {ρ:St→St} {σ:St}
theorem OX(fK:∀R:It→Hp→Prop,(∀J H1,ah H H1→kW J xs H1→R J H1)→wi σ H R)(hn:xs.length<sizeLine)
  (P:Addr→Nat→V→Hp→Prop) (mono:∀D i y H H' ys,P D i y H→H D=some (.lst ys)→(∀b o,b≠D→H b=some o→H' b=some o)→P D i y H')
  (step:∀D i x,xs[i]?=some x→∀(Hc:Hp) (R:VK),ah H Hc→(∃ys,Hc D=some (.lst ys))→(∀y H3,ah Hc H3→P D i y H3→R y H3)→te (some x::ρ σ) Hc R)
  (fin:∀D ys Hc,ah H Hc→ys.length=xs.length→(∀i y,ys[i]?=some y→P D i y Hc)→Hc D=some (.lst ys)→Q (.ref D) Hc):jV wi ρ (fun _ H Q=>Q true H) te σ H Q:=by
 refine fK _ fun J H1 s1 js=>?_;intro D nD;exact Gs (ρσ:=ρ σ) (te:=te) (Q:=Q) js nD hn (P D) (mono D) (fun i x hx Hc R sc=>step D i x hx Hc R (s1.trans sc)) (fun ys Hc sc=>fin D ys Hc (s1.trans sc))
theorem dy{g:TG}{D:Ends}(h:te σ H fun x H1=>g x σ H1 D.nx):mh te g D σ H:=h
theorem fY{a b:TS}{D:Ends}(h:a {D with nx:=fun σ H=>b D σ H} σ H):AI a b D σ H:=h
section
variable {X:Cx} {N:List Str} {scope:Scope} {cl:List (Str×Addr)} {x:Str} {px pos:Pos} {iter elt:Expr} {ifs:List Expr} {wi:TI} {ρ:St→St} {tt:TT} {te:TE}
theorem vB{y:Str}{py vC:Pos}{i0:Nat}(B:Bl X N scope cl x ρ)(hc:X.calm=true)(hN:X.N.Nodup)(kX:X.N[i0]?=some y)(hy:Loc X.env.scope y)(hi:PI X (.Name x px) iter wi)(ht:∀s₃ H₃ fp,jU (X.aY N scope cl s₃ H₃ fp) ifs tt)(he:∀s₃ H₃ fp,PE (X.aY N scope cl s₃ H₃ fp) elt te)
  (BB:swapsWith (.ListComp elt [⟨.Name x px,iter,ifs,0⟩] scope pos) (some (.Name y py)) vC.line X.env=pure true:=by rfl) (hf:X.fn y=true∨X.env.scope.names.lookup y=some .local:=by first | exact .inl rfl | exact .inr rfl | assumption)
  (hs:∀x,foldedSetIterable iter X.env x=pure x:=by intro _;rfl):PS X (.Assign [.Name y py] (.ListComp elt [⟨.Name x px,iter,ifs,0⟩] scope pos) vC) (mh (jV wi ρ tt te) (b5 i0)):=by
 intro pins s σ H D0 I h
 have h:jV wi ρ tt te σ H (fun v H1=>D0.nx (σ.set i0 (some v)) H1):=h
 rw [exec_Assign_Name_used _ _ _ _ BB]
 refine cw (uK (cw ?_))
 show wpAny _ X.A (do let _ ←comprehension (.ListComp elt [⟨.Name x px,iter,ifs,0⟩] scope pos) scope X.env _ (newList []) false (eval iter X.env) (some (assign (.Name y py) X.env))) _ _ s
 refine cw (cf (Q:=fun _ s'=>SP X pins D0 .next s') ?_ (fun _ s' hq=>d0 (d0 hq)) fun _ _ e=>e)
 refine xh (use:=some (assign (.Name y py) X.env)) rfl hs B.vp B.kind B.names (aB (hi pins s σ H _ I h) fun v s1 h1=>aB h1 fun qU s2 h2=>?_)
 obtain ⟨it,fp,tn,J,H2,rfl,I2,T,fG,f2,q2⟩:=h2
 have nD:H2 s2.heap.objs.size=none:=I2.ay.fresh (aO _)
 obtain ⟨W,⟨m0,w0⟩,turn⟩:=q2 _ nD
 refine uM (xi B.vq (by intro y hy;simp at hy) (fun h₁ eZ e7=>?_) B.kind)
 dsimp only at eZ e7 ⊢
 generalize hD:s2.heap.objs.size=D at nD w0 turn eZ e7 ⊢
 generalize eI:({s2 with heap:=s2.heap.push {cls:=.type "list",dict:=none,data:=.seq ([]:List Value).toArray}}:Shared)=s3
 have I3:Inv X pins σ (upd H2 D (.lst [])) s3:=by
  subst hD eI
  exact I2.laid (t':=s2.toks) (fun b u e=>de _ e) (aO _) ⟨bO _,[],_,.nil,gg _ rfl⟩
 have e3:s3.heap=s2.heap.push {cls:=.type "list",dict:=none,data:=.seq ([]:List Value).toArray}:=by rw [←eI]
 have e_:∀b o,s2.heap.get? b=some o→s3.heap.get? b=some o:=fun b o e=>by rw [e3];exact de _ e
 rw [←e3] at eZ e7 ⊢
 have below:∀b o,s3.heap.get? b=some o→b≠s3.heap.objs.size:=fun b o e=>dZ (bK e)
 have dm:∀b o,s3.heap.get? b=some o→h₁.get? b=some o:=fun b o e=>e7.extBut b o (below b o e) (de _ e)
 have gu:∀b∈fp,∃o,s2.heap.get? b=some o∧∀v,o.data≠.cell v:=T.obj _ _ fG
 have oJ:∀b∈fp,b≠D:=fun b hb z=>by
  obtain ⟨o,e,_⟩:=gu b hb
  rw [z,←hD] at e
  exact absurd (bK e) (gF _)
 have cT:∀y c,cl.lookup y=some c→X.env.cells.lookup y=some c:=fun y c e=>B.sub (y,c) (jA e)
 have oK:=I3.qL
 have fU:(X.aY N scope cl s3 (upd H2 D (.lst [])) fp).Ok:=by
  refine ⟨I.ok.mod,B.kind,I.ok.glob,I.ok.blt,aO _,fun a b c e1 e2=>I.ok.inj a b c (cT a c e1) (cT b c e2),fun y hy=>B.has y hy,(fun _ _ z _=>absurd z cZ),(fun _=>I.ok.hd hc),I.ok.frames,.inl rfl,fun b hb=>⟨?_,fun y c e z=>?_⟩,fun b o e=>?_,ai I.ok.gr I3.sz,fun b o e hb=>?_,fun b hb z=>?_,I3.stack,oK⟩
  ·obtain ⟨o,e,_⟩:=gu b hb
   exact below b o (e_ b o e)
  ·exact (f2 b hb).2.2.2.2.1 y c (cT y c e) z
  ·exact I3.bs b o e
  ·rcases (f2 b hb).2.2.2.1 with z | z
   ·exact I.ok.l_ b o e z
   ·exact absurd (dB (bK e) (ai I.ok.gr z)) (gF _)
  ·rcases dH.mp (I3.qK b z) with z | z
   ·exact (f2 b hb).2.1 z
   ·exact (f2 b hb).2.2.1 z
 have IB:∀tk:Nat,Inv (X.aY N scope cl s3 (upd H2 D (.lst [])) fp) [] (none::ρ σ) (upd H2 D (.lst [])) {s3 with heap:=h₁,toks:=tk}:=fun tk=>by
  refine ⟨fU,rfl,I3.bare,Un.kept dm,⟨_,eZ,fun j y v e1 e2 e3=>?_⟩,fun y c e=>?_,?_,fun y c e=>I3.g_ y c (cT y c e),(fun p hp=>nomatch hp),I3.ay.kept dm,?_⟩
  ·cases j with
   | zero=>cases e2
   | succ j=>
    obtain ⟨i,y',a1,a2,a3,a4,a5,a6⟩:=B.vt σ j v e2
    have jW:N[j+1]?=some y:=e1
    rw [jW] at a1
    cases a1
    obtain ⟨m,hn,hl⟩:=I3.loc
    obtain ⟨u,r,l⟩:=hl i y v a2 a3 a4
    refine ⟨u,r,.inr ⟨a6,?_⟩⟩
    obtain ⟨c,ec⟩:=B.has y a6
    rcases l with ⟨k,_⟩ | ⟨_,c',jh,z⟩
    ·rcases a5 with q | q <;> (rw [k] at q;cases q)
    ·have:=cT y c ec
     rw [this] at jh
     cases jh
     obtain ⟨o,ho,hd⟩:=z
     exact ⟨c,ec,o,dm _ _ ho,hd⟩
  ·obtain ⟨v,o,ho,hd⟩:=I3.cell y c (cT y c e)
   exact ⟨v,o,dm _ _ ho,hd⟩
  ·exact I3.ay.fresh (aO _)
  ·show (none::ρ σ).length=N.length
   rw [d9]
   exact B.len σ I.len
 have oS:∀b o,s3.heap.get? b=some o→b≠s3.heap.objs.size:=below
 have fin:∀{σ':St} {H':Hp} {s':Shared},Inv (X.aY N scope cl s3 (upd H2 D (.lst [])) fp) [] σ' H' s'→D0.nx (σ.set i0 (some (.ref D))) H'→compPost (model X.prog X.w) X.A X.xe (some (assign (.Name y py) X.env)) (fun _ s'=>SP X pins D0 .next s') (.ref D) s3.heap.objs.size (.ok .next) s':=fun{σ' H' s'} J q=>by
  obtain ⟨m,hn,_⟩:=J.loc
  have hn:s'.heap.Ns s3.heap.objs.size m:=hn
  have JC:H' s3.heap.objs.size=none:=J.free
  have u1:Un (cE X.stack) fp (upd H2 D (.lst [])) H' s3.heap s'.heap:=by
   refine ⟨fun b o e n hb hx=>J.base.keep b o e n hb hx,fun b o e n hb hx=>J.base.slot b o e n hb hx,J.base.free,fun b o e hx=>J.base.there b o e hx,J.base.fP,J.base.fF,J.base.fQ⟩
  have IX:Inv X pins σ H' s':=I3.jM (ch:=fp) (J.os) u1 J.ay J.bare fun b hb=>by
   obtain ⟨g0,g1,g2,g3,g4,g5⟩:=f2 b hb
   exact ⟨g3,g1,g4,g5⟩
  have nl:X.env.locals≠s3.heap.objs.size:=by
   obtain ⟨m3,⟨o3,_,_,e3,_⟩,_⟩:=I3.loc
   exact oS _ _ e3
  have nc:∀z c,X.env.cells.lookup z=some c→c≠s3.heap.objs.size:=fun z c e=>by
   obtain ⟨v3,o3,e3,_⟩:=I3.cell z c e
   exact oS _ _ e3
  refine wpAny_assign_Name (AG (v:=.ref D) IX hN kX hy rfl (fun ig oT oU=>?_) hf)
  obtain ⟨a,oU,ha⟩:=oU
  have na:s3.heap.objs.size≠a:=by
   rcases ha with rfl | e
   ·exact fun z=>nl z.symm
   ·exact fun z=>nc _ _ e z.symm
  refine ⟨m,hn.sameBut oU na,fun h' fb=>⟨σ.set i0 (some (.ref D)),H',?_,q⟩⟩
  have u2:Un (cE X.stack) [s3.heap.objs.size] H' H' ig.heap h':=by
   refine ⟨fun b o e n hb hx=>(fb.2 b (by simpa using hx)).trans e,fun b o e n hb hx=>⟨o.slots,(fb.2 b (by simpa using hx)).trans e⟩,fun b o e n hx=>n,fun b o e hx=>⟨o,(fb.2 b (by simpa using hx)).trans e⟩,fun b xs z=>z,fun b o u z=>z,fun b ps z=>⟨#[],by simpa using z⟩⟩
  have oM:cJ X.prog X.w H' h':=fun b u e=>by
   refine (oT.ay b u e).gL (fun c v hc z=>(fb.2 c fun y=>?_).trans z) (fun _ z=>z) fun _ _ z=>z
   have y':c=s3.heap.objs.size:=y
   rcases hc with hc | hc
   ·rw [←hc,y',JC] at e
    cases e
   ·rw [y',JC] at hc
    cases hc
  refine oT.jM (s':={ig with heap:=h'}) (ch:=[s3.heap.objs.size]) rfl u2 oM oT.bare fun b hb=>?_
  have eb:b=s3.heap.objs.size:=by simpa using hb
  subst eb
  refine ⟨.inr I3.sz,fun z=>nl z.symm,fun z c e=>nc z c e,fun p hp=>?_⟩
  exact oS _ _ (I3.pin p hp).1
 have eV:∀{H':Hp},(∀b∈fp,H' b=none)→∀b∈fp,jP (X.aY N scope cl s3 (upd H2 D (.lst [])) fp) [] H' b:=fun hn b hb=>by
  refine ⟨hn b hb,?_,?_,.inl hb,fun y c e z=>(f2 b hb).2.2.2.2.1 y c (cT y c e) z,fun p hp=>nomatch hp⟩
  ·obtain ⟨o,e,_⟩:=gu b hb
   exact below b o (e_ b o e)
  ·exact fU.ma b hb
 have loop:∀tk:Nat,codeAny (model X.prog X.w) X.A (.compLoop (.ListComp elt [⟨.Name x px,iter,ifs,0⟩] scope pos) 0 (.ref it) (.ref D) (compEnvC scope cl s3.heap.objs.size X.env))
   (compPost (model X.prog X.w) X.A X.xe (some (assign (.Name y py) X.env)) (fun _ s'=>SP X pins D0 .next s') (.ref D) s3.heap.objs.size) {s3 with heap:=h₁,toks:=tk}:=fun tk=>by
  refine codeAny_compLoop_tests (fun n s'=>∃i ys o H',Inv (X.aY N scope cl s3 (upd H2 D (.lst [])) fp) [] (o::ρ σ) H' s'∧tn i s'.heap∧(∀b∈fp,H' b=none)∧W i n ys H') ?_ m0
   ⟨0,[],none,_,IB tk,T.keep _ _ _ fG fun b hb o e=>dm _ _ (e_ _ _ e),fun b hb=>by rw [bG (oJ b hb)];exact (f2 b hb).1,w0⟩
  rintro n s4 ⟨i,ys,o,H4,I4,ji,jj,w4⟩
  obtain ⟨Bn,oN⟩:=turn i n ys H4 w4
  rcases oN with ⟨stop,qn⟩ | ⟨go,step⟩
  ·refine cf (T.done (X.aY N scope cl s3 (upd H2 D (.lst [])) fp) rfl rfl rfl hc i [] s4 _ H4 (fun _ _=>False) I4 (eV jj) ji stop) (fun r s5 ⟨hr,I5⟩=>?_) fun _ _ z=>z.elim
   subst hr
   exact fin I5 qn
  ·refine cf (T.item (X.aY N scope cl s3 (upd H2 D (.lst [])) fp) rfl rfl rfl hc i [] s4 _ H4 (fun _ _=>False) I4 (eV jj) ji go) (fun r s5 ⟨u,hr,h5⟩=>?_) fun _ _ z=>z.elim
   subst hr
   have z:letOwnedTupleGo (.Name x px) (.ref it) u=pure ():=rfl
   rw [z] at h5
   show wpAny _ _ ((pure ():Sem Unit) >>= fun _=>assign (.Name x px) (compEnvC scope cl s3.heap.objs.size X.env) u) _ _ s5
   refine cw (cf h5 (fun _ s5 ⟨y,H5,I5,r5,y5,eW,kN⟩=>?_) fun _ _ z=>z.elim)
   have kO:=I5.pinned (eV kN) (T.obj _ _ eW)
   have pg:PG (X.aY N scope cl s3 (upd H2 D (.lst [])) fp) (.Name x px) (b5 0):=d6 (i:=0) B.nd B.n0 (.inl (ix B.hx)) (.inr (ix B.hx))
   have again:∀{σ7:St} {H7:Hp} {s7:Shared},Inv (X.aY N scope cl s3 (upd H2 D (.lst [])) fp) ([]++iG fp s5.heap) σ7 H7 s7→Inv (X.aY N scope cl s3 (upd H2 D (.lst [])) fp) [] σ7 H7 s7∧tn (i+1) s7.heap∧∀b∈fp,H7 b=none:=fun{σ7 H7 s7} I7=>by
    refine ⟨I7.ox,T.keep _ _ _ eW fun b hb o e=>(I7.pin (b,o) (dI _ (dI _ (jQ hb e)))).1,fun b hb=>?_⟩
    obtain ⟨o,e,d⟩:=T.obj _ _ eW b hb
    exact (I7.pin (b,o) (dI _ (dI _ (jQ hb e)))).2.1
   refine cf (pg _ s5 _ H5 y u (fun σ2 H6=>σ2=some y::ρ σ∧H6=H5) kO r5 ⟨rfl,rfl⟩) (fun _ s6 ⟨σ6,H6,I6,q6⟩=>?_) fun _ _ z=>z.elim
   obtain ⟨rfl,rfl⟩:=q6
   have oO:=step y _ y5
   have tests:∀{gv:TT},jU (X.aY N scope cl s3 (upd H2 D (.lst [])) fp) ifs gv→∀{R:Bool→Hp→Prop},gv (some y::ρ σ) H6 R→wpAny (model X.prog X.w) X.A
     (forIn ifs true fun c r=>if r=true then do let ok ←isTrue c (compEnvC scope cl s3.heap.objs.size X.env) (eval c (compEnvC scope cl s3.heap.objs.size X.env));pure (ForInStep.yield ok) else pure (ForInStep.yield r))
     (fun ok s7=>∃H7,Inv (X.aY N scope cl s3 (upd H2 D (.lst [])) fp) ([]++iG fp s5.heap) (some y::ρ σ) H7 s7∧R ok H7) (fun _ _=>False) s6:=fun{gv} p {R} hR=>by
    cases p with
    | nil=>exact xj ⟨_,I6,hR⟩
    | one p=>exact xk (p _ s6 _ _ _ I6 hR)
   refine cf (tests (ht s3 _ fp) oO) (fun ok s7 ⟨H7,I7,q7⟩=>?_) fun _ _ z=>z.elim
   cases ok with
   | false=>
    obtain ⟨m',gx,w7⟩:=q7
    obtain ⟨a1,a2,a3⟩:=again I7
    exact ⟨m',gx,i+1,ys,_,H7,a1,a2,a3,w7⟩
   | true=>
    refine cf (he s3 _ fp _ s7 _ H7 _ I7 q7) (fun ev s8 ⟨z,H8,I8,r8,oP,hz,m',gx,w8⟩=>?_) fun _ _ z=>z.elim
    refine cf (rp (X:=X.aY N scope cl s3 (upd H2 D (.lst [])) fp) _ s8 _ H8 (.ref D) [z] (.ref D) [ev] (fun _ H9=>H9=upd H8 D (.lst (ys++[z]))) I8 rfl (.cons r8 .nil) ⟨D,ys,z,rfl,rfl,oP,hz,rfl⟩) (fun _ s9 ⟨_,H9,I9,_,q9⟩=>?_) fun _ _ z=>z.elim
    subst q9
    obtain ⟨a1,a2,a3⟩:=again I9
    exact ⟨m',gx,i+1,ys++[z],_,_,a1,a2,a3,w8⟩
 have start:=loop (s3.toks+([]:List (Str×Value)).length)
 have es:({s3 with heap:=h₁,toks:=s3.toks+([]:List (Str×Value)).length}:Shared)={s2 with heap:=h₁,toks:=s2.toks+([]:List (Str×Value)).length}:=by rw [←eI]
 rw [es] at start
 exact xl start (T.self _ 0 _ _ _ (T.keep _ _ _ fG fun b hb o e=>dm _ _ (e_ _ _ e)) start)
end
def BC(K:ax)(l1 l2:Addr):It:=
  ⟨fun i H=>∃xs ys x y,aX K H l1 xs∧aX K H l2 ys∧xs[i]?=some x∧ys[i]?=some y,
   fun i H v H'=>∃T x y,H T=none∧v=.ref T∧H'=upd H T (.tup [x,y])∧∀xs ys,aX K H l1 xs→aX K H l2 ys→xs[i]?=some x∧ys[i]?=some y,
   fun i H=>∃xs ys,aX K H l1 xs∧aX K H l2 ys∧(xs.length≤i∨ys.length≤i)⟩
theorem OY{P:Program}{w:World}{elts:List Expr}{k:Nat}{pos:Pos}{z TI TO i1 i2 l1 l2:Addr}(D:ZipApart z TI TO i1 i2 l1 l2):Turn P w K (.Tuple elts k pos) (BC K l1 l2) [z,TI,TO,i1,i2] z
  (fun i h=>IsZip h z TI TO .none∧IsPair h TI (.ref i1) (.ref i2)∧(∃a b,IsPair h TO a b)∧h.IsListIter i1 l1 i∧h.IsListIter i2 l2 i) where
 mem:=by simp
 obj:=fun i h st b hb=>by
  obtain ⟨hz,kY,⟨a,c,mG⟩,h1,h2⟩:=st;simp only [dH,jF,jG] at hb;rcases hb with rfl | rfl | rfl | rfl | rfl;·exact ⟨_,hz,fun v z=>by cases z⟩
  ·exact ⟨_,kY,fun v z=>by cases z⟩
  ·exact ⟨_,mG,fun v z=>by cases z⟩
  ·obtain ⟨o,e,c,d⟩:=h1
   exact ⟨o,e,fun v z=>by rw [d] at z;cases z⟩
  ·obtain ⟨o,e,c,d⟩:=h2
   exact ⟨o,e,fun v z=>by rw [d] at z;cases z⟩
 keep:=fun i h h' st k=>by obtain ⟨hz,kY,⟨a,c,mG⟩,h1,h2⟩:=st;exact ⟨k _ (by simp) _ hz,k _ (by simp) _ kY,⟨a,c,k _ (by simp) _ mG⟩,h1.at fun o e=>k _ (by simp) o e,h2.at fun o e=>k _ (by simp) o e⟩
 item:=by
  intro X hP hw hK hc i pins s σ H E I hf st hg;subst hP hw hK;obtain ⟨hz,kY,⟨a,c,mG⟩,h1,h2⟩:=st;obtain ⟨xs,ys,x,y,iq,kT,hx,hy⟩:=hg;obtain ⟨ao,rv,p,_⟩:=I.list iq;obtain ⟨Gu,yi,p',_⟩:=I.list kT;obtain ⟨u,hu,ru⟩:=rv.get hx;obtain ⟨u',j4,OZ⟩:=yi.get hy;refine wpAny_pyNext_zip_item D hz kY mG h1 h2 p.isList p'.isList (x:=u) (y:=u') (by simpa using hu) (by simpa using j4) fun h' g1 g2 g3 g4 g5 g6 g7=>⟨_,rfl,?_⟩
  refine wpAny_letOwnedTupleGo_zip g1 fun j6 q1 sb=>?_;have vD:H s.heap.objs.size=none:=I.ay.fresh (aO _);have lt:∀b o,s.heap.get? b=some o→b≠s.heap.objs.size:=fun b o e=>dZ (bK e);have keep:∀b o,b∉[z,TI,TO,i1,i2]→s.heap.get? b=some o→j6.get? b=some o:=fun b o nb e=>by simp only [dH,jF,jG,not_or] at nb;exact sb.extBut _ _ nb.1 (g7 b o nb.1 nb.2.2.1 nb.2.2.2.1 nb.2.2.2.2 e)
  have O0:z≠s.heap.objs.size:=lt _ _ hz;have pT:IsPair j6 s.heap.objs.size u u':=sb.extBut _ _ O0.symm g5;have jn:∀{b:Addr} {o:HO} (e:H b=some o),upd H s.heap.objs.size (.tup [x,y]) b=some o:=fun e=>by rw [bG (fi e vD)];exact e
  have ay:cJ X.prog X.w (upd H s.heap.objs.size (.tup [x,y])) j6:=fun b o e=>by
   by_cases hb:b=s.heap.objs.size
   ·subst hb
    rw [aq] at e;cases e;exact ⟨by show 2≤sizeLine;decide,[u,u'],.cons ru (.cons OZ .nil),⟨_,pT,rfl,_,rfl⟩⟩
   ·rw [bG hb] at e
    refine (I.ay b o e).gL (fun c v dS q=>keep c v (fun m=>?_) q) (fun c q=>jn q) fun c xs q=>jn q;have nn:=(hf c m).1;rcases dS with rfl | dS;·rw [nn] at e;cases e
    ·rw [nn] at dS;cases dS
  have u1:Un (cE X.stack) [z,TI,TO,i1,i2] H (upd H s.heap.objs.size (.tup [x,y])) s.heap j6:=
   ⟨fun b o e n _ hx=>keep b o hx e,fun b o e n _ hx=>⟨o.slots,keep b o hx e⟩,fun b o e n hx=>by rw [bG (lt b o e)];exact n,fun b o e hx=>⟨o,keep b o hx e⟩,fun b xs e=>jn e,fun b o u e=>jn e,fun b ps e=>⟨#[],by rw [jn e];simp⟩⟩
  refine ⟨.ref s.heap.objs.size,upd H s.heap.objs.size (.tup [x,y]),I.jM (s':={s with heap:=j6}) (ch:=[z,TI,TO,i1,i2]) rfl u1 ay I.bare (fun b hb=>?_),rfl,⟨_,x,y,vD,rfl,rfl,fun as bs ha hb=>⟨by rw [I.xD ha iq];exact hx,by rw [I.xD hb kT];exact hy⟩⟩,?_,fun b hb=>?_⟩
  ·obtain ⟨f0,f1,f2,f3,f4,f5⟩:=hf b hb
   exact ⟨f3,f1,f4,f5⟩
  ·exact ⟨q1,sb.extBut _ _ D.TIz (g7 _ _ D.TIz D.TITO D.TIi1 D.TIi2 kY),⟨_,_,sb.extBut _ _ D.TOz g2⟩,g3.extBut sb.extBut D.i1z,g4.extBut sb.extBut D.i2z⟩
  ·have nb:b≠s.heap.objs.size:=by
    simp only [dH,jF,jG] at hb;rcases hb with rfl | rfl | rfl | rfl | rfl;·exact lt _ _ hz
    ·exact lt _ _ kY
    ·exact lt _ _ mG
    ·obtain ⟨o,e,_⟩:=h1;exact lt _ _ e
    ·obtain ⟨o,e,_⟩:=h2;exact lt _ _ e
   rw [bG nb];exact (hf b hb).1
 done:=by
  intro X hP hw hK hc i pins s σ H E I hf st hg;subst hP hw hK;obtain ⟨hz,kY,⟨a,c,mG⟩,h1,h2⟩:=st;obtain ⟨xs,ys,iq,kT,hx⟩:=hg;obtain ⟨ao,rv,p,_⟩:=I.list iq;obtain ⟨Gu,yi,p',_⟩:=I.list kT;have hl:=rv.length;have ZJ:=yi.length;refine wpAny_pyNext_zip_end (I.ok.hd hc) D hz kY mG h1 h2 p.isList p'.isList (hx.imp (fun h=>by simp;lia) fun h=>by simp;lia) fun h' g=>⟨rfl,?_⟩
  have keep:∀b o,b∉[z,TI,TO,i1,i2]→s.heap.get? b=some o→h'.get? b=some o:=fun b o nb e=>by simp only [dH,jF,jG,not_or] at nb;exact g b o nb.1 nb.2.2.1 nb.2.2.2.1 nb.2.2.2.2 e
  have ay:cJ X.prog X.w H h':=fun b o e=>by
   refine (I.ay b o e).gL (fun c v dS q=>keep c v (fun m=>?_) q) (fun c q=>q) fun c xs q=>q;have nn:=(hf c m).1;rcases dS with rfl | dS;·rw [nn] at e;cases e
   ·rw [nn] at dS;cases dS
  have u1:Un (cE X.stack) [z,TI,TO,i1,i2] H H s.heap h':=
   ⟨fun b o e n _ hx=>keep b o hx e,fun b o e n _ hx=>⟨o.slots,keep b o hx e⟩,fun b o e n hx=>n,fun b o e hx=>⟨o,keep b o hx e⟩,fun b xs e=>e,fun b o u e=>e,fun b ps e=>⟨#[],by rw [e];simp⟩⟩
  refine I.jM (s':={s with heap:=h'}) (ch:=[z,TI,TO,i1,i2]) rfl u1 ay I.bare fun b hb=>?_;obtain ⟨f0,f1,f2,f3,f4,f5⟩:=hf b hb;exact ⟨f3,f1,f4,f5⟩
 self:=fun _ _ _ _ _ st h=>wpAny_pyIter_zip st.1 h
theorem boot_zip:bootBuiltins "zip"=some (.type "zip"):=by decide +kernel
def O1(K:ax)(ta:TA):TI:=fun σ H R=>ta σ H fun vs H1=>∃l1 l2,vs=[.ref l1,.ref l2]∧(∃xs,aX K H1 l1 xs)∧(∃ys,aX K H1 l2 ys)∧R (BC K l1 l2) H1
section
variable {X:Cx}
theorem BD{elts:List Expr}{k:Nat}{qS:Pos}{a b:Expr}{ta:TA}{p pos:Pos}(hg:Gl X "zip")(hm:X.mg "zip"=none)(ha:PA X [a,b] ta)(hs:starEach [a,b] X.env=[(false,eval a X.env),(false,eval b X.env)]:=by rfl)(jS:starEach [b] X.env=[(false,eval b X.env)]:=by rfl) :
  PI X (.Tuple elts k qS) (.Call (.Name "zip" p) [a,b] [] pos) (O1 X.K ta):=by
 intro pins s σ H R I h;refine Call_ (oj I hg hm boot_zip (uN (aB (ha pos pins s σ H _ I h) fun us s1 ⟨vs,H1,I1,r1,q1⟩=>?_) (by rw [hs,jS]) (by rw [jS];rfl)))
 obtain ⟨l1,l2,e,⟨xs,iq⟩,⟨ys,kT⟩,q⟩:=q1;subst e;cases r1 with
 | cons r rr=>
  cases rr with
  | cons r' rr=>
   cases rr;cases r;cases r';obtain ⟨ao,rv,p1,_⟩:=I1.list iq;obtain ⟨Gu,yi,p2,_⟩:=I1.list kT;have b1:l1<s1.heap.objs.size:=by obtain ⟨o,e,_⟩:=p1.isList;exact bK e
   have b2:l2<s1.heap.objs.size:=by obtain ⟨o,e,_⟩:=p2.isList;exact bK e
   refine call_zip_2 p1.isList p2.isList fun h' z1 z2 z3 z4 z5 z6 z7=>?_;refine wpAny_pyIter_zip (s:={s1 with heap:=h'}) z1 ?_;have D:ZipApart (s1.heap.objs.size+4) (s1.heap.objs.size+2) (s1.heap.objs.size+3) s1.heap.objs.size (s1.heap.objs.size+1) l1 l2:=by constructor <;> (intro h;have h:@Eq Nat _ _:=h;have b1:@LT.lt Nat _ l1 s1.heap.objs.size:=b1;have b2:@LT.lt Nat _ l2 s1.heap.objs.size:=b2;lia)
   refine ⟨_,_,_,_,H1,rfl,I1.kept (t':=s1.toks) z7,OY D,⟨z1,z2,⟨_,_,z3⟩,z4,z5⟩,fun b hb=>?_,q⟩;have le:s1.heap.objs.size≤b:=by
    simp only [dH,jF,jG] at hb;rcases hb with rfl | rfl | rfl | rfl | rfl;·exact uY ..
    ·exact uY ..
    ·exact uY ..
    ·exact aO _
    ·exact uY ..
   exact I1.qT le (I1.ay.fresh le)
end
section
variable {prog:Program} {w:World} {A:Around} {R:Result→Shared→Prop} {s:Shared}
theorem Gv{elt target iter:Expr}{ifs:List Expr}{scope:Scope}{pos:Pos}{it acc:Value}{env:Env}(I:Nat→Shared→Prop)
  (turn:∀n s,I n s→wpAny (model prog w) A (pyNext it) (fun r s₁=>match r with
   | none=>R (.ok .next) s₁
   | some v=>wpAny (model prog w) A (letOwnedTupleGo target it v) (fun _ s₁=>wpAny (model prog w) A (assign target env v) (fun _ s₂=>
     wpAny (model prog w) A (forIn ifs true fun c r=>if r=true then do let ok ←isTrue c env (eval c env);pure (ForInStep.yield ok) else pure (ForInStep.yield r)) (fun ok s₃=>
      if ok=true then wpAny (model prog w) A (eval elt env) (fun x s₄=>
       wpAny (model prog w) A (call (.builtin "list.append") [acc,x]) (fun _ s₅=>∃m,m<n∧I m s₅) (notedBy (model prog w) A env fun e s'=>R (.error e) s') s₄) (notedBy (model prog w) A env fun e s'=>R (.error e) s') s₃
      else ∃m,m<n∧I m s₃) (notedBy (model prog w) A env fun e s'=>R (.error e) s') s₂) (notedBy (model prog w) A env fun e s'=>R (.error e) s') s₁) (notedBy (model prog w) A env fun e s'=>R (.error e) s') s₁) (notedBy (model prog w) A env fun e s'=>R (.error e) s') s)
  (n:Nat) (h:I n s):codeAny (model prog w) A (.compLoop (.ListComp elt [⟨target,iter,ifs,0⟩] scope pos) 0 it acc env) R s:=by
 refine codeAny_loop rfl I (fun n s hI=>?_) n h
 show wpAny _ A ((compTurn (.ListComp elt [⟨target,iter,ifs,0⟩] scope pos) 0 it acc env).onRaise (fun x=>do noteFrame x env;theTreesLotGoes x)) _ _ s
 refine wpAny_noted ?_
 rw [compTurn_list]
 refine cw (uK (cw (cf (turn n s hI) (fun r s₁ h₁=>?_) fun _ _ h'=>h')))
 cases r with
 | none=>exact d0 h₁
 | some v=>
  refine cw (cf h₁ (fun _ s₁ h₁=>?_) fun _ _ h'=>h')
  refine cw (cf h₁ (fun _ s₂ h₂=>cw (cf h₂ (fun ok s₃ h₃=>?_) fun _ _ h'=>h')) fun _ _ h'=>h')
  cases ok with
  | false=>exact d0 ⟨rfl,h₃⟩
  | true=>
   exact cw (cw (cf h₃ (fun x s₄ h₄=>cw (cf h₄ (fun _ s₅ h₅=>d0 (d0 ⟨rfl,h₅⟩)) fun _ _ h'=>h')) fun _ _ h'=>h'))
end
def rH(K:ax)(wi:TI)(ρ:St→St)(tt:TT)(te:TE):TE:=fun σ H Q=>wi σ H fun J H1=>∀D,H1 D=none→∃W:Nat→Nat→List V→Hp→Prop,(∃m,W 0 m [] (upd H1 D (.lst []))) ∧
 ∀i m ys Hc,W i m ys Hc→Hc D=some (.lst ys)∧((J.stop i Hc∧Q (.ref D) Hc)∨(J.go i Hc∧∀v H',J.dW i Hc v H'→∃T x1 x2,v=.ref T∧dU K H' T [x1,x2]∧tt (some x1::some x2::ρ σ) H' fun b H2=>
  if b=true then te (some x1::some x2::ρ σ) H2 fun y H3=>H3 D=some (.lst ys)∧ys.length<sizeLine∧∃m',m'<m∧W (i+1) m' (ys++[y]) (upd H3 D (.lst (ys++[y]))) else ∃m',m'<m∧W (i+1) m' ys H2))
section
variable {X:Cx} {N:List Str} {scope:Scope} {cl:List (Str×Addr)} {x y:Str} {px py pos tp:Pos} {jo:Nat} {iter elt:Expr} {ifs:List Expr} {wi:TI} {ρ:St→St} {tt:TT} {te:TE}
structure BE (X:Cx) (N:List Str) (scope:Scope) (cl:List (Str×Addr)) (x y:Str) (ρ:St→St):Prop where
 vp:closureFor scope X.env=pure cl
 kind:scope.kind=.function
 vq:∀y∈scope.names,y.2≠.cell
 names:∀y∈scope.names,y.2=.local→scope.names.lookup y.1=some .local
 sub:∀p∈cl,X.env.cells.lookup p.1=some p.2
 has:∀y,((relabel scope X.env).names.lookup y=some .cell∨(relabel scope X.env).names.lookup y=some .free)→∃c,cl.lookup y=some c
 n0:N[0]?=some x
 n1:N[1]?=some y
 nd:N.Nodup
 hx:scope.names.lookup x=some .local
 hy:scope.names.lookup y=some .local
 vt:∀(σ:St) (j:Nat) (v:V),(ρ σ)[j]?=some (some v)→∃(i:Nat) (y:Str),N[j+1+1]?=some y∧X.N[i]?=some y∧σ[i]?=some (some v)∧l4 X.env.scope y∧(X.env.kindOf y=some .cell∨X.env.kindOf y=some .free)∧((relabel scope X.env).names.lookup y=some .cell∨(relabel scope X.env).names.lookup y=some .free)
 len:∀σ:St,σ.length=X.N.length→(ρ σ).length+1+1=N.length
theorem BF(is:List Nat)(h1:closureFor scope X.env=pure cl)(h:x_ X scope N.tail.tail is:=by repeat' first | exact True.intro | refine And.intro ⟨rfl,Or.inr (Or.inl rfl),.inl rfl,.inl rfl⟩ ?_)(h2:scope.kind=.function:=by rfl)(h3:∀y∈scope.names,y.2≠.cell:=by decide +kernel)(h4:∀y∈scope.names,y.2=.local→scope.names.lookup y.1=some .local:=by decide +kernel)(h5:∀p∈cl,X.env.cells.lookup p.1=some p.2:=by repeat' first | exact List.forall_mem_nil _ | refine List.forall_mem_cons.mpr ⟨rfl,?_⟩)(h6:((relabel scope X.env).names.all fun q=>(q.2 != .cell && q.2 != .free) || (cl.lookup q.1).isSome)=true:=by rfl)(h7:N[0]?=some x:=by rfl)(O2:N[1]?=some y:=by rfl)(h8:N.Nodup:=by decide +kernel)(h9:scope.names.lookup x=some .local:=by rfl)(O3:scope.names.lookup y=some .local:=by rfl)(hr:∀σ:St,ρ σ=is.map fun i=>σ[i]?.join:=by exact fun _=>rfl)(hl:is.length+1+1=N.length:=by rfl):BE X N scope cl x y ρ:=
 ⟨h1,h2,h3,h4,h5,F_ h6,h7,O2,h8,h9,O3,fun σ j v e=>by rw [hr] at e;rw [←List.getElem?_tail,←List.getElem?_tail];exact Bm h σ j v e,fun σ _=>by rw [hr,aW];exact hl⟩
theorem Gw(B:BE X N scope cl x y ρ)(hc:X.calm=true)(hi:PI X (.Tuple [.Name x px,.Name y py] jo tp) iter wi)(ht:∀s₃ H₃ fp,jU (X.aY N scope cl s₃ H₃ fp) ifs tt)(he:∀s₃ H₃ fp,PE (X.aY N scope cl s₃ H₃ fp) elt te)
  (hs:∀x,foldedSetIterable iter X.env x=pure x:=by intro _;rfl):PE X (.ListComp elt [⟨.Tuple [.Name x px,.Name y py] jo tp,iter,ifs,0⟩] scope pos) (rH X.K wi ρ tt te):=by
 intro pins s σ H Q I h
 rw [eval_ListComp]
 refine xh (use:=none) rfl hs B.vp B.kind B.names (aB (hi pins s σ H _ I h) fun v s1 h1=>aB h1 fun qU s2 h2=>?_)
 obtain ⟨it,fp,tn,J,H2,rfl,I2,T,fG,f2,q2⟩:=h2
 have nD:H2 s2.heap.objs.size=none:=I2.ay.fresh (aO _)
 obtain ⟨W,⟨m0,w0⟩,turn⟩:=q2 _ nD
 refine uM (xi B.vq (by intro y hy;simp at hy) (fun h₁ eZ e7=>?_) B.kind)
 dsimp only at eZ e7 ⊢
 generalize hD:s2.heap.objs.size=D at nD w0 turn eZ e7 ⊢
 generalize eI:({s2 with heap:=s2.heap.push {cls:=.type "list",dict:=none,data:=.seq ([]:List Value).toArray}}:Shared)=s3
 have I3:Inv X pins σ (upd H2 D (.lst [])) s3:=by
  subst hD eI
  exact I2.laid (t':=s2.toks) (fun b u e=>de _ e) (aO _) ⟨bO _,[],_,.nil,gg _ rfl⟩
 have e3:s3.heap=s2.heap.push {cls:=.type "list",dict:=none,data:=.seq ([]:List Value).toArray}:=by rw [←eI]
 have e_:∀b o,s2.heap.get? b=some o→s3.heap.get? b=some o:=fun b o e=>by rw [e3];exact de _ e
 rw [←e3] at eZ e7 ⊢
 have below:∀b o,s3.heap.get? b=some o→b≠s3.heap.objs.size:=fun b o e=>dZ (bK e)
 have dm:∀b o,s3.heap.get? b=some o→h₁.get? b=some o:=fun b o e=>e7.extBut b o (below b o e) (de _ e)
 have gu:∀b∈fp,∃o,s2.heap.get? b=some o∧∀v,o.data≠.cell v:=T.obj _ _ fG
 have oJ:∀b∈fp,b≠D:=fun b hb z=>by
  obtain ⟨o,e,_⟩:=gu b hb
  rw [z,←hD] at e
  exact absurd (bK e) (gF _)
 have cT:∀y c,cl.lookup y=some c→X.env.cells.lookup y=some c:=fun y c e=>B.sub (y,c) (jA e)
 have oK:=I3.qL
 have fU:(X.aY N scope cl s3 (upd H2 D (.lst [])) fp).Ok:=by
  refine ⟨I.ok.mod,B.kind,I.ok.glob,I.ok.blt,aO _,fun a b c e1 e2=>I.ok.inj a b c (cT a c e1) (cT b c e2),fun y hy=>B.has y hy,(fun _ _ z _=>absurd z cZ),(fun _=>I.ok.hd hc),I.ok.frames,.inl rfl,fun b hb=>⟨?_,fun y c e z=>?_⟩,fun b o e=>?_,ai I.ok.gr I3.sz,fun b o e hb=>?_,fun b hb z=>?_,I3.stack,oK⟩
  ·obtain ⟨o,e,_⟩:=gu b hb
   exact below b o (e_ b o e)
  ·exact (f2 b hb).2.2.2.2.1 y c (cT y c e) z
  ·exact I3.bs b o e
  ·rcases (f2 b hb).2.2.2.1 with z | z
   ·exact I.ok.l_ b o e z
   ·exact absurd (dB (bK e) (ai I.ok.gr z)) (gF _)
  ·rcases dH.mp (I3.qK b z) with z | z
   ·exact (f2 b hb).2.1 z
   ·exact (f2 b hb).2.2.1 z
 have IB:∀tk:Nat,Inv (X.aY N scope cl s3 (upd H2 D (.lst [])) fp) [] (none::none::ρ σ) (upd H2 D (.lst [])) {s3 with heap:=h₁,toks:=tk}:=fun tk=>by
  refine ⟨fU,rfl,I3.bare,Un.kept dm,⟨_,eZ,fun j y v e1 e2 e3=>?_⟩,fun y c e=>?_,?_,fun y c e=>I3.g_ y c (cT y c e),(fun p hp=>nomatch hp),I3.ay.kept dm,?_⟩
  ·cases j with
   | zero=>cases e2
   | succ j=>
   cases j with
   | zero=>cases e2
   | succ j=>
    obtain ⟨i,y',a1,a2,a3,a4,a5,a6⟩:=B.vt σ j v e2
    have jW:N[j+1+1]?=some y:=e1
    rw [jW] at a1
    cases a1
    obtain ⟨m,hn,hl⟩:=I3.loc
    obtain ⟨u,r,l⟩:=hl i y v a2 a3 a4
    refine ⟨u,r,.inr ⟨a6,?_⟩⟩
    obtain ⟨c,ec⟩:=B.has y a6
    rcases l with ⟨k,_⟩ | ⟨_,c',jh,z⟩
    ·rcases a5 with q | q <;> (rw [k] at q;cases q)
    ·have:=cT y c ec
     rw [this] at jh
     cases jh
     obtain ⟨o,ho,hd⟩:=z
     exact ⟨c,ec,o,dm _ _ ho,hd⟩
  ·obtain ⟨v,o,ho,hd⟩:=I3.cell y c (cT y c e)
   exact ⟨v,o,dm _ _ ho,hd⟩
  ·exact I3.ay.fresh (aO _)
  ·show (none::none::ρ σ).length=N.length
   rw [d9,d9]
   exact B.len σ I.len
 have fin:∀{σ':St} {H':Hp} {s':Shared},Inv (X.aY N scope cl s3 (upd H2 D (.lst [])) fp) [] σ' H' s'→Q (.ref D) H'→compPost (model X.prog X.w) X.A X.xe none (EP X pins σ Q) (.ref D) s3.heap.objs.size (.ok .next) s':=fun{σ' H' s'} J q=>by
  obtain ⟨m,hn,_⟩:=J.loc
  refine ⟨m,hn,fun h' fb=>⟨.ref D,H',?_,rfl,q⟩⟩
  have old:∀b o,s3.heap.get? b=some o→b≠s3.heap.objs.size:=below
  have u1:Un (cE X.stack) fp (upd H2 D (.lst [])) H' s3.heap h':=by
   refine ⟨fun b o e n hb hx=>?_,fun b o e n hb hx=>?_,J.base.free,fun b o e hx=>?_,J.base.fP,J.base.fF,J.base.fQ⟩
   ·exact (fb.2 b (old b o e)).trans (J.base.keep b o e n hb hx)
   ·obtain ⟨sl,z⟩:=J.base.slot b o e n hb hx
    exact ⟨sl,(fb.2 b (old b o e)).trans z⟩
   ·obtain ⟨o',z⟩:=J.base.there b o e hx
    exact ⟨o',(fb.2 b (old b o e)).trans z⟩
  have oM:cJ X.prog X.w H' h':=fun b u e=>by
   refine (J.ay b u e).gL (fun c v hc z=>(fb.2 c fun y=>?_).trans z) (fun _ z=>z) fun _ _ z=>z
   have fr:=J.free
   have y':c=s3.heap.objs.size:=y
   rcases hc with hc | hc
   ·rw [←hc,y'] at e
    exact absurd (fr.symm.trans e) (by simp)
   ·rw [y'] at hc
    exact absurd (fr.symm.trans hc) (by simp)
  refine I3.jM (s':={s' with heap:=h'}) (ch:=fp) (J.os) u1 oM J.bare fun b hb=>?_
  obtain ⟨g0,g1,g2,g3,g4,g5⟩:=f2 b hb
  exact ⟨g3,g1,g4,g5⟩
 have eV:∀{H':Hp},(∀b∈fp,H' b=none)→∀b∈fp,jP (X.aY N scope cl s3 (upd H2 D (.lst [])) fp) [] H' b:=fun hn b hb=>by
  refine ⟨hn b hb,?_,?_,.inl hb,fun y c e z=>(f2 b hb).2.2.2.2.1 y c (cT y c e) z,fun p hp=>nomatch hp⟩
  ·obtain ⟨o,e,_⟩:=gu b hb
   exact below b o (e_ b o e)
  ·exact fU.ma b hb
 have loop:∀tk:Nat,codeAny (model X.prog X.w) X.A (.compLoop (.ListComp elt [⟨.Tuple [.Name x px,.Name y py] jo tp,iter,ifs,0⟩] scope pos) 0 (.ref it) (.ref D) (compEnvC scope cl s3.heap.objs.size X.env))
   (compPost (model X.prog X.w) X.A X.xe none (EP X pins σ Q) (.ref D) s3.heap.objs.size) {s3 with heap:=h₁,toks:=tk}:=fun tk=>by
  refine Gv (fun n s'=>∃i ys o o2 H',Inv (X.aY N scope cl s3 (upd H2 D (.lst [])) fp) [] (o::o2::ρ σ) H' s'∧tn i s'.heap∧(∀b∈fp,H' b=none)∧W i n ys H') ?_ m0
   ⟨0,[],none,none,_,IB tk,T.keep _ _ _ fG fun b hb o e=>dm _ _ (e_ _ _ e),fun b hb=>by rw [bG (oJ b hb)];exact (f2 b hb).1,w0⟩
  rintro n s4 ⟨i,ys,o,o2,H4,I4,ji,jj,w4⟩
  obtain ⟨Bn,oN⟩:=turn i n ys H4 w4
  rcases oN with ⟨stop,qn⟩ | ⟨go,step⟩
  ·refine cf (T.done (X.aY N scope cl s3 (upd H2 D (.lst [])) fp) rfl rfl rfl hc i [] s4 _ H4 (fun _ _=>False) I4 (eV jj) ji stop) (fun r s5 ⟨hr,I5⟩=>?_) fun _ _ z=>z.elim
   subst hr
   exact fin I5 qn
  ·refine cf (T.item (X.aY N scope cl s3 (upd H2 D (.lst [])) fp) rfl rfl rfl hc i [] s4 _ H4 (fun _ _=>False) I4 (eV jj) ji go) (fun r s5 ⟨u,hr,h5⟩=>?_) fun _ _ z=>z.elim
   subst hr
   refine cf h5 (fun _ s5 ⟨y0,H5,I5,r5,y5,eW,kN⟩=>?_) fun _ _ z=>z.elim
   obtain ⟨Tt,x1,x2,e0,BG,oO⟩:=step y0 _ y5
   subst e0
   have kO:=I5.pinned (eV kN) (T.obj _ _ eW)
   have pg:PG (X.aY N scope cl s3 (upd H2 D (.lst [])) fp) (.Tuple [.Name x px,.Name y py] jo tp) (AL X.K 2 (vf (b5 0) (vf (b5 1) AK))):=
    xG (X:=X.aY N scope cl s3 (upd H2 D (.lst [])) fp) hc (me (d6 (i:=0) B.nd B.n0 (.inl (ix B.hx)) (.inr (ix B.hx))) (me (d6 (i:=1) B.nd B.n1 (.inl (ix B.hy)) (.inr (ix B.hy))) xF))
   have again:∀{σ7:St} {H7:Hp} {s7:Shared},Inv (X.aY N scope cl s3 (upd H2 D (.lst [])) fp) ([]++iG fp s5.heap) σ7 H7 s7→Inv (X.aY N scope cl s3 (upd H2 D (.lst [])) fp) [] σ7 H7 s7∧tn (i+1) s7.heap∧∀b∈fp,H7 b=none:=fun{σ7 H7 s7} I7=>by
    refine ⟨I7.ox,T.keep _ _ _ eW fun b hb o e=>(I7.pin (b,o) (dI _ (dI _ (jQ hb e)))).1,fun b hb=>?_⟩
    obtain ⟨o,e,d⟩:=T.obj _ _ eW b hb
    exact (I7.pin (b,o) (dI _ (dI _ (jQ hb e)))).2.1
   refine cf (pg _ s5 _ H5 (.ref Tt) u (fun σ2 H6=>σ2=some x1::some x2::ρ σ∧H6=H5) kO r5 ⟨Tt,_,rfl,BG,rfl,_,_,rfl,_,_,rfl,rfl,rfl,rfl⟩) (fun _ s6 ⟨σ6,H6,I6,q6⟩=>?_) fun _ _ z=>z.elim
   obtain ⟨rfl,rfl⟩:=q6
   have tests:∀{gv:TT},jU (X.aY N scope cl s3 (upd H2 D (.lst [])) fp) ifs gv→∀{R:Bool→Hp→Prop},gv (some x1::some x2::ρ σ) H6 R→wpAny (model X.prog X.w) X.A
     (forIn ifs true fun c r=>if r=true then do let ok ←isTrue c (compEnvC scope cl s3.heap.objs.size X.env) (eval c (compEnvC scope cl s3.heap.objs.size X.env));pure (ForInStep.yield ok) else pure (ForInStep.yield r))
     (fun ok s7=>∃H7,Inv (X.aY N scope cl s3 (upd H2 D (.lst [])) fp) ([]++iG fp s5.heap) (some x1::some x2::ρ σ) H7 s7∧R ok H7) (fun _ _=>False) s6:=fun{gv} p {R} hR=>by
    cases p with
    | nil=>exact xj ⟨_,I6,hR⟩
    | one p=>exact xk (p _ s6 _ _ _ I6 hR)
   refine cf (tests (ht s3 _ fp) oO) (fun ok s7 ⟨H7,I7,q7⟩=>?_) fun _ _ z=>z.elim
   cases ok with
   | false=>
    obtain ⟨m',gx,w7⟩:=q7
    obtain ⟨a1,a2,a3⟩:=again I7
    exact ⟨m',gx,i+1,ys,_,_,H7,a1,a2,a3,w7⟩
   | true=>
    refine cf (he s3 _ fp _ s7 _ H7 _ I7 q7) (fun ev s8 ⟨z,H8,I8,r8,oP,hz,m',gx,w8⟩=>?_) fun _ _ z=>z.elim
    refine cf (rp (X:=X.aY N scope cl s3 (upd H2 D (.lst [])) fp) _ s8 _ H8 (.ref D) [z] (.ref D) [ev] (fun _ H9=>H9=upd H8 D (.lst (ys++[z]))) I8 rfl (.cons r8 .nil) ⟨D,ys,z,rfl,rfl,oP,hz,rfl⟩) (fun _ s9 ⟨_,H9,I9,_,q9⟩=>?_) fun _ _ z=>z.elim
    subst q9
    obtain ⟨a1,a2,a3⟩:=again I9
    exact ⟨m',gx,i+1,ys++[z],_,_,_,a1,a2,a3,w8⟩
 have start:=loop (s3.toks+([]:List (Str×Value)).length)
 have es:({s3 with heap:=h₁,toks:=s3.toks+([]:List (Str×Value)).length}:Shared)={s2 with heap:=h₁,toks:=s2.toks+([]:List (Str×Value)).length}:=by rw [←eI]
 rw [es] at start
 exact xl start (T.self _ 0 _ _ _ (T.keep _ _ _ fG fun b hb o e=>dm _ _ (e_ _ _ e)) start)
end
section
variable {X:Cx}
end
section
variable {M:Model} {A:Around} {E:bV} {s:Shared}
end
section
variable {X:Cx} {N:List Str} {scope:Scope} {cl:List (Str×Addr)} {x:Str} {px pos:Pos} {iter elt:Expr} {ifs:List Expr} {wi:TI} {ρ:St→St} {tt:TT} {te:TE}
end
def rJ(K:ax)(H:Hp):Nat→V→V→Prop
 | 0,v,u=>v=u∧jT v=true
 | n+1,v,u=>(v=u∧jT v=true)∨∃a b xs ys,v=.ref a∧u=.ref b∧((aX K H a xs∧aX K H b ys)∨(dU K H a xs∧dU K H b ys))∧xs.length=ys.length∧∀(j:Nat) (x y:V),xs[j]?=some x→ys[j]?=some y→rJ K H n x y
theorem Gx{v:V}(h:jT v=true):rk v v=true:=by
 cases v with
 | aH=>rfl
 | bl b=>show (b == b)=true;simp
 | int i=>show (i == i)=true;simp
 | str x=>show (x == x)=true;simp
 | _=>cases h
theorem all_range(n:Nat):(List.range n).all (fun _=>true)=true:=by simp
section
variable {X:Cx} {pins:aZ} {σ:St} {H:Hp} {s:Shared}
theorem yj(I:Inv X pins σ H s):∀(n:Nat) (A:Around) (v u:V) (a b:Value),rJ X.K H n v u→RelV v a→RelV u b→A.units+n<cLine→SeqAt.EqAt A s a b true
 | 0,A,v,u,a,b,h,ra,rb,hu=>by obtain ⟨rfl,hf⟩:=h;have z:=A7 (A:=A) (s:=s) ra rb hf hf;rw [Gx hf] at z;exact z
 | n+1,A,v,u,a,b,h,ra,rb,hu=>by
  rcases h with ⟨rfl,hf⟩ | ⟨p,q,xs,ys,rfl,rfl,hs,hl,hi⟩
  ·have z:=A7 (A:=A) (s:=s) ra rb hf hf
   rw [Gx hf] at z;exact z
  ·cases ra
   cases rb;by_cases pq:p=q
   ·subst pq
    exact SeqAt.EqAt.same _
   rcases hs with ⟨h1,h2⟩ | ⟨h1,h2⟩
   ·obtain ⟨us,r1,t1,_⟩:=I.list h1
    obtain ⟨vs,r2,t2,_⟩:=I.list h2;have l1:=r1.length;have l2:=r2.length;have z:=SeqAt.RcAt.lists (A:=A) (e:=fun _=>true) t1.isList t2.isList (by simp;lia) (by lia) (fun j z1 z2=>by
     have BH:j<us.length:=by simpa using z1
     have BI:j<vs.length:=by simpa using z2
     obtain ⟨x,ex⟩:∃x,xs[j]?=some x:=⟨xs[j],by simp [show j<xs.length by lia]⟩
     obtain ⟨y,ey⟩:∃y,ys[j]?=some y:=⟨ys[j],by simp [show j<ys.length by lia]⟩
     obtain ⟨x',g8,rx⟩:=r1.get ex;obtain ⟨y',oV,ry⟩:=r2.get ey;have e1:us.toArray[j]=x':=by simpa using (cG.mp g8).2
     have e2:vs.toArray[j]=y':=by simpa using (cG.mp oV).2
     rw [e1,e2];exact yj I n A.in1 x y x' y' (hi j x y ex ey) rx ry (by rw [xp];lia))
    rw [all_range] at z;exact SeqAt.EqAt.of_refs pq z
   ·obtain ⟨us,r1,t1,_⟩:=I.tuple h1
    obtain ⟨vs,r2,t2,_⟩:=I.tuple h2;have l1:=r1.length;have l2:=r2.length;have z:=SeqAt.RcAt.tuples (A:=A) (e:=fun _=>true) t1 t2 (by lia) (fun j z1 z2=>by
     have BH:j<us.length:=by simpa using z1
     have BI:j<vs.length:=by simpa using z2
     obtain ⟨x,ex⟩:∃x,xs[j]?=some x:=⟨xs[j],by simp [show j<xs.length by lia]⟩
     obtain ⟨y,ey⟩:∃y,ys[j]?=some y:=⟨ys[j],by simp [show j<ys.length by lia]⟩
     obtain ⟨x',g8,rx⟩:=r1.get ex;obtain ⟨y',oV,ry⟩:=r2.get ey;have e1:us.toArray[j]=x':=by simpa using (cG.mp g8).2
     have e2:vs.toArray[j]=y':=by simpa using (cG.mp oV).2
     rw [e1,e2];exact yj I n A.in1 x y x' y' (hi j x y ex ey) rx ry (by rw [xp];lia))
    have e3:(us.toArray.size == vs.toArray.size)=true:=by simp;lia
    rw [all_range,e3] at z;exact SeqAt.EqAt.of_refs pq z
end
section
variable {X:Cx}
def yk(K:ax)(n:Nat)(r:Bool):R2:=fun x y H Q=>∃a b xs ys,x=.ref a∧y=.ref b∧aX K H a xs∧aX K H b ys∧xs.length=ys.length∧(∀(j:Nat) (x y:V),xs[j]?=some x→ys[j]?=some y→rJ K H n x y)∧Q (.bl r) H
variable {n:Nat}
theorem ZK(hu:X.A.units+64<cLine)(hn:n<60:=by decide):cC X (compareOp .Eq) (yk X.K n true):=by
 intro pins s σ H x y v u Q I rx ry h;obtain ⟨a,b,xs,ys,rfl,rfl,h1,h2,hl,hi,q⟩:=h;cases rx;cases ry;obtain ⟨us,r1,t1,_⟩:=I.list h1;obtain ⟨vs,r2,t2,_⟩:=I.list h2;have l1:=r1.length;have l2:=r2.length;refine SeqAt.eq_listAt (e:=fun _=>true) t1.isList t2.isList (by simp;lia) (by lia) (fun j z1 z2=>?_) ?_
 ·have BH:j<us.length:=by simpa using z1
  have BI:j<vs.length:=by simpa using z2
  obtain ⟨x,ex⟩:∃x,xs[j]?=some x:=⟨xs[j],by simp [show j<xs.length by lia]⟩
  obtain ⟨y,ey⟩:∃y,ys[j]?=some y:=⟨ys[j],by simp [show j<ys.length by lia]⟩
  obtain ⟨x',g8,rx⟩:=r1.get ex;obtain ⟨y',oV,ry⟩:=r2.get ey;have e1:us.toArray[j]=x':=by simpa using (cG.mp g8).2
  have e2:vs.toArray[j]=y':=by simpa using (cG.mp oV).2
  rw [e1,e2];exact yj I n X.A.in1 x y x' y' (hi j x y ex ey) rx ry (by rw [xp];lia)
 ·rw [all_range]
  exact ⟨.bl true,H,I,rfl,q⟩
theorem yl(hu:X.A.units+64<cLine)(hn:n<60:=by decide):cC X (compareOp .NotEq) (yk X.K n false):=by
 intro pins s σ H x y v u Q I rx ry h;obtain ⟨a,b,xs,ys,rfl,rfl,h1,h2,hl,hi,q⟩:=h;cases rx;cases ry;obtain ⟨us,r1,t1,_⟩:=I.list h1;obtain ⟨vs,r2,t2,_⟩:=I.list h2;have l1:=r1.length;have l2:=r2.length;refine SeqAt.RcNeAt.lists (e:=fun _=>true) t1.isList t2.isList (by simp;lia) (by lia) (fun j z1 z2=>?_) _ _ _ _ ?_
 ·have BH:j<us.length:=by simpa using z1
  have BI:j<vs.length:=by simpa using z2
  obtain ⟨x,ex⟩:∃x,xs[j]?=some x:=⟨xs[j],by simp [show j<xs.length by lia]⟩
  obtain ⟨y,ey⟩:∃y,ys[j]?=some y:=⟨ys[j],by simp [show j<ys.length by lia]⟩
  obtain ⟨x',g8,rx⟩:=r1.get ex;obtain ⟨y',oV,ry⟩:=r2.get ey;have e1:us.toArray[j]=x':=by simpa using (cG.mp g8).2
  have e2:vs.toArray[j]=y':=by simpa using (cG.mp oV).2
  rw [e1,e2];exact yj I n X.A.in1 x y x' y' (hi j x y ex ey) rx ry (by rw [xp];lia)
 ·rw [all_range]
  exact ⟨.bl false,H,I,rfl,q⟩
end
section
variable {X:Cx} {N:List Str} {scope:Scope} {cl:List (Str×Addr)} {x:Str} {px pos:Pos} {iter elt:Expr} {ifs:List Expr} {wi:TI} {ρ:St→St} {tt:TT} {te:TE}
end
structure ym (J:It) (zs:List (V×V)) (H1:Hp):Prop where
 go:∀i Hc,ah H1 Hc→i<zs.length→J.go i Hc
 dW:∀i Hc v H',ah H1 Hc→J.dW i Hc v H'→∃T x y,v=.ref T∧Hc T=none∧H'=upd Hc T (.tup [x,y])∧(i<zs.length→zs[i]?=some (x,y))
 stop:∀i Hc,ah H1 Hc→zs.length≤i→J.stop i Hc
theorem BJ{a b:Addr}{ys:List V}(h1:aX K H1 a xs)(h2:aX K H1 b ys):ym (BC K a b) (xs.zip ys) H1 where
 go:=fun i Hc s hi=>by
  have hi:i<min xs.length ys.length:=by simpa using hi
  exact ⟨xs,ys,xs[i],ys[i],s.seq h1,s.seq h2,by simp [show i<xs.length by lia],by simp [show i<ys.length by lia]⟩
 dW:=fun i Hc v H' s y=>by obtain ⟨T,x,y,nT,ev,eH,hx⟩:=y;obtain ⟨e1,e2⟩:=hx xs ys (s.seq h1) (s.seq h2);exact ⟨T,x,y,ev,nT,eH,fun _=>by rw [Ay];exact ⟨e1,e2⟩⟩
 stop:=fun i Hc s hi=>by
  have hi:min xs.length ys.length≤i:=by simpa using hi
  exact ⟨xs,ys,s.seq h1,s.seq h2,by lia⟩
theorem O4{zs:List (V×V)}(fK:∀R:It→Hp→Prop,(∀J H1,ah H H1→ym J zs H1→R J H1)→wi σ H R)(hn:zs.length<sizeLine)
  (P:Nat→V→Prop)
  (step:∀i x y,zs[i]?=some (x,y)→∀(Hc:Hp) (R:VK),ah H Hc→(∀v H3,ah Hc H3→P i v→R v H3)→te (some x::some y::ρ σ) Hc R)
  (fin:∀D vs Hc,ah H Hc→vs.length=zs.length→(∀(i:Nat) (v:V),vs[i]?=some v→P i v)→Hc D=some (.lst vs)→Q (.ref D) Hc):rH K wi ρ (fun _ H Q=>Q true H) te σ H Q:=by
 refine fK _ fun J H1 s1 js=>?_;intro D nD;refine ⟨fun i m vs Hc=>m=zs.length-i∧i≤zs.length∧Hc D=some (.lst vs)∧ah H1 Hc∧vs.length=i∧∀(j:Nat) (v:V),vs[j]?=some v→P j v,⟨_,rfl,bO _,aq,gy (ah.refl H1) nD,rfl,fun j y e=>by simp at e⟩,?_⟩
 rintro i m vs Hc ⟨rfl,hi,eD,sH,el,hP⟩;refine ⟨eD,?_⟩;by_cases bP:i<zs.length
 ·refine .inr ⟨js.go i Hc sH bP,fun v H' hy=>?_⟩
  obtain ⟨T,x,y,ev,nT,eH,hx⟩:=js.dW i Hc v H' sH hy;subst ev eH;refine ⟨T,x,y,rfl,.of aq,?_⟩;dsimp only;rw [au rfl];have sT:ah Hc (upd Hc T (.tup [x,y])):=fun b o e=>by rw [bG (fi e nT)];exact e
  refine step i x y (hx bP) _ _ (s1.trans (sH.trans sT)) fun w H3 s3 hp=>?_;have e3:=s3 _ _ (sT _ _ eD);refine ⟨e3,by lia,zs.length-(i+1),by lia,rfl,bP,aq,gy (sH.trans (sT.trans s3)) nD,by simp [el],fun j v' e=>?_⟩
  by_cases hj:j<i;·exact hP j v' (by rw [ir (by lia)] at e;exact e)
  ·have hj:j=i:=by have:=(cG.mp e).1;simp at this;lia
   subst hj;have e':v'=w:=by rw [gY (by lia),el,jE] at e;simpa using e.symm
   subst e';exact hp
 ·have e:i=zs.length:=by lia
  subst e;exact .inl ⟨js.stop _ Hc sH (aO _),fin D vs Hc (s1.trans sH) el hP eD⟩
theorem vE(fK:∀R:It→Hp→Prop,(∀J H1,ah H H1→kW J xs H1→R J H1)→wi σ H R)(hn:xs.length<sizeLine)
  (P:Addr→Nat→V→Hp→Prop) (mono:∀D i y H H' ys,P D i y H→H D=some (.lst ys)→(∀b o,b≠D→H b=some o→H' b=some o)→P D i y H')
  (step:∀D i x,xs[i]?=some x→∀(Hc:Hp) (R:VK),ah H Hc→(∃ys,Hc D=some (.lst ys))→(∀y H3,ah Hc H3→P D i y H3→R y H3)→te (some x::ρ σ) Hc R)
  (fin:∀D ys Hc,H D=none→ah H Hc→ys.length=xs.length→(∀(i:Nat) (y:V),ys[i]?=some y→P D i y Hc)→Hc D=some (.lst ys)→Q (.ref D) Hc):jV wi ρ (fun _ H Q=>Q true H) te σ H Q:=by
 refine fK _ fun J H1 s1 js=>?_;intro D nD;have hD:H D=none:=by
  cases e:H D with
  | none=>rfl
  | some o=>rw [s1 _ _ e] at nD;cases nD
 exact Gs (ρσ:=ρ σ) (te:=te) (Q:=Q) js nD hn (P D) (mono D) (fun i x hx Hc R sc=>step D i x hx Hc R (s1.trans sc)) (fun ys Hc sc=>fin D ys Hc hD (s1.trans sc))
section
variable {X:Cx} {K:ax}
theorem yn(hK:X.K=K:=by rfl):rh X (FP K):=by subst hK;exact b7
theorem Gy(hK:X.K=K:=by rfl):rh X (FO K):=by subst hK;exact a_
def O5(K:ax):List V→Hp→VK→Prop:=fun xs H Q=>∃p ys,xs=[.ref p]∧(aX K H p ys∨dU K H p ys)∧∀l,H l=none→Q (.ref l) (upd H l (.lst ys))
theorem Gz(hK:X.K=K:=by rfl):jR X (.type "list") (O5 K):=by subst hK;exact vk
end
end L2
namespace My
open PySem L2
variable {te:TE} {σ:St} {H:Hp} {Q:VK}
theorem O6{r:List V→Hp→VK→Prop}(h:te σ H fun x H1=>r [x] H1 Q):A3 r (fJ te ja) σ H Q:=h
theorem rK{D:Ends}(h:te σ H D.rt):E6 te D σ H:=h
theorem O7{t:TA}(h:te σ H fun x H1=>t σ H1 fun xs H2=>(x::xs).length≤sizeLine∧∀p,H2 p=none→Q (.ref p) (upd H2 p (.tup (x::xs)))):Fz (fJ te t) σ H Q:=h
theorem yo{vs:List V}{ws:List Int}(hl:vs.length=ws.length)(h:∀(i:Nat) (v:V),vs[i]?=some v→∃w,ws[i]?=some w∧v=.int w):vs=ws.map V.int:=by
 refine xq fun i=>?_;rw [eS];by_cases hi:i<vs.length
 ·obtain ⟨w,e1,e2⟩:=h i vs[i] (by simp [hi])
  rw [e1,show vs[i]?=some vs[i] by simp [hi],e2]
  rfl
 ·rw [jH (by lia),jH (by lia)]
  rfl
def GA(H0 H:Hp)(v:V)(ts:List Int)(B:Int):Prop:=∃tp l:Addr,v=.ref tp∧H tp=some (.tup [.ref l,.int B])∧H l=some (.lst (ts.map V.int))∧H0 l=none
variable {b:Int}
theorem O8{m:Int}(hb:1≤b)(hm:1≤m):1≤b / (Int.gcd b m:Int)*m∧m∣b / (Int.gcd b m:Int)*m∧b∣b / (Int.gcd b m:Int)*m∧(b / (Int.gcd b m:Int)*m).natAbs≤b.natAbs*m.natAbs:=by
 have gp:=oR (a:=b) (b:=m) (by lia)
 obtain ⟨b',eb⟩:=uV (a:=b) (b:=m);obtain ⟨m',em⟩:=nS (a:=b) (b:=m);generalize Int.gcd b m=g at *;have g0:(g:Int)≠0:=by lia
 have gb:b / (g:Int)=b':=by rw [eb];exact lT _ g0
 rw [gb];have b0:0<b':=vy (u:=(g:Int)) (by lia) (by rw [←eb];lia)
 have mp:0<b'*m:=Int.mul_pos b0 (by lia)
 refine ⟨by lia,Int.dvd_mul_left ..,⟨m',?_⟩,?_⟩
 ·rw [em,eb]
  simp only [kA,iy,Int.mul_left_comm]
 ·rw [bq]
  refine iz _ ?_;rw [←gb];exact lR ..
theorem pick{α β:Type}{xs:List α}{R:Nat→α→β→Prop}(h:∀(i:Nat) (x:α),xs[i]?=some x→∃w,R i x w):∃ws:List β,ws.length=xs.length∧∀(i:Nat) (x:α) (w:β),xs[i]?=some x→ws[i]?=some w→R i x w:=by
 refine ⟨List.ofFn fun i:Fin xs.length=>Classical.choose (h i.1 xs[i.1] (by simp)),by simp,fun i x w hx hw=>?_⟩
 have hi:i<xs.length:=(cG.mp hx).1;have ex:xs[i]=x:=(cG.mp hx).2;rw [List.getElem?_ofFn,dif_pos hi] at hw;have hw:=Option.some.inj hw;rw [←hw];have z:=Classical.choose_spec (h i xs[i] (by simp [hi]))
 rw [←ex];exact z
variable {q:Int}
theorem dN{c:Int}(hq:aD q)(h1:¬q∣b)(h2:¬q∣c):¬q∣b*c:=fun h=>by
 rcases hq with rfl | ⟨q2,q3,q4⟩
 ·have z:=fN.mp h
  rcases Int.mul_eq_zero.mp z with z | z;·exact h1 (by rw [z];exact nU 0)
  ·exact h2 (by rw [z];exact nU 0)
 ·have k1:=dk c (show q≠0 by lia)
  have k2:=du c (show 0<q by lia)
  have k3:c % q≠0:=fun z=>h2 (Ax z);have g:=Bv q2 q3 q4 (show 1≤c % q by lia) k2
  obtain ⟨w,ew⟩:=vA c q;exact h1 (Gn q2 (OU g ⟨-w,by rw [gk];lia⟩) h)
def bH(q:Int)(b:Int):Prop:=(q=0→1≤b)∧(q≠0→b=1)
theorem O9{vs:List V}{b:Bool}(h:∀(i:Nat) (v:V),vs[i]?=some v→v=.bl b):vs=(List.replicate vs.length b).map V.bl:=by
 refine xq fun i=>?_;rw [eS];by_cases hi:i<vs.length
 ·rw [show vs[i]?=some vs[i] by simp [hi],h i vs[i] (by simp [hi])]
  simp [hi]
 ·rw [jH (by lia),jH (by simp;lia)]
  rfl
theorem O_(n:Nat):(List.replicate n true).all id=true:=by simp
theorem GB{r:R2}{ta tb:TE}(h:ta σ H fun x H1=>tb σ H1 fun y H2=>r x y H2 Q):kP r ta tb σ H Q:=h
theorem none_of{H':Hp}{b:Addr}(s:ah H H')(h:H' b=none):H b=none:=by
 cases e:H b with
 | none=>rfl
 | some o=>rw [s _ _ e] at h;cases h
theorem BK{K:ax}{v u:V}{t t' b':Int}(hv:jZ H q v t b)(hu:jZ H q u t' b')(e:t*b'=t'*b)(n:Nat):rJ K H (n+1) v u:=by
 rcases OW hv hu e with ⟨p,p',x,m,rfl,rfl,e1,e2⟩ | ⟨i,rfl,rfl⟩
 ·refine .inr ⟨p,p',_,_,rfl,rfl,.inr ⟨.of e1,.of e2⟩,rfl,fun j x y h1 h2=>?_⟩
  rw [h1] at h2;cases h2;have hf:jT x=true:=by
   match j,h1 with
   | 0,h1=>cases h1;rfl
   | 1,h1=>cases h1;rfl
   | j+2,h1=>cases h1
  cases n with
  | zero=>exact ⟨rfl,hf⟩
  | succ n=>exact .inl ⟨rfl,hf⟩
 ·exact .inl ⟨rfl,rfl⟩
end My
namespace Srs
abbrev Row:=Nat→Int
def c_(c:Nat)(F:List Row→Int):List Row→List Row→Int
 | _,[]=>0
 | pre,r::post=>r c*F (pre++post)-c_ c F (pre++[r]) post
def det:List Nat→List Row→Int
 | [],[]=>1
 | [],_::_=>0
 | c::cs,rows=>c_ c (det cs) [] rows
def iM(a b:Int)(x y:Row):Row:=fun i=>a*x i+b*y i
def BL(F:List Row→Int):Prop:=∀(A B:List Row) (x y:Row) (a b:Int),F (A++iM a b x y::B)=a*F (A++x::B)+b*F (A++y::B)
def Alt(F:List Row→Int):Prop:=∀(A B:List Row) (x:Row),F (A++x::x::B)=0
section
variable {F:List Row→Int} {c:Nat} {x y:Row} {a b:Int}
theorem GC(hF:BL F)(P:List Row):∀(rows Q:List Row),c_ c F (P++iM a b x y::Q) rows=a*c_ c F (P++x::Q) rows+b*c_ c F (P++y::Q) rows
 | [],Q=>by simp [c_]
 | r::post,Q=>by have h1:=hF P (Q++post) x y a b;have h2:=GC hF P post (Q++[r]);simp only [c_,gH,iA] at *;rw [h1,h2];grind
theorem GD(hF:BL F)(B:List Row):∀(A P:List Row),c_ c F P (A++iM a b x y::B)=a*c_ c F P (A++x::B)+b*c_ c F P (A++y::B)
 | [],P=>by have h:=GC (c:=c) (x:=x) (y:=y) (a:=a) (b:=b) hF P B [];simp only [fh,c_];rw [h];unfold iM;grind
 | r::A,P=>by have h1:=hF (P++A) B x y a b;have h2:=GD hF B A (P++[r]);simp only [c_,gH,iA] at *;rw [h1,h2];grind
theorem GF(hF:Alt F)(P:List Row):∀(rows Q:List Row),c_ c F (P++x::x::Q) rows=0
 | [],Q=>by simp [c_]
 | r::post,Q=>by have h1:=hF P (Q++post) x;have h2:=GF hF P post (Q++[r]);simp only [c_,gH,iA] at *;rw [h1,h2];simp
theorem GG(hF:Alt F)(B:List Row):∀(A P:List Row),c_ c F P (A++x::x::B)=0
 | [],P=>by have h:=GF (c:=c) (x:=x) hF P B [];simp only [fh,c_,gH,iA] at *;rw [h];lia
 | r::A,P=>by have h1:=hF (P++A) B x;have h2:=GG hF B A (P++[r]);simp only [c_,gH,iA] at *;rw [h1,h2];simp
theorem GH:∀(rows P:List Row),(∀r∈rows,r c=0)→c_ c F P rows=0
 | [],P,_=>rfl
 | r::post,P,h=>by rw [c_,h r lK,GH post _ fun r' hr=>h r' (gW _ hr)];simp
end
theorem vF:∀cs,BL (det cs)
 | []=>fun A B x y a b=>by cases A <;> simp [det]
 | c::cs=>fun A B x y a b=>GD (vF cs) B A []
theorem rM:∀cs,Alt (det cs)
 | []=>fun A B x=>by cases A <;> rfl
 | c::cs=>fun A B x=>GG (rM cs) B A []
variable {r:Row}
theorem GI{c:Nat}{cs:List Nat}{rows:List Row}(h:∀r'∈rows,r' c=0):det (c::cs) (r::rows)=r c*det cs rows:=by show c_ c (det cs) [] (r::rows)=_;rw [c_,GH rows _ h,fh];lia
theorem Pa(cs:List Nat)(A B:List Row)(x y:Row):det cs (A++x::y::B)=-det cs (A++y::x::B):=by have h:=rM cs A B (iM 1 1 x y);have l:=vF cs;rw [l A (iM 1 1 x y::B) x y 1 1] at h;have e1:=l (A++[x]) B x y 1 1;have e2:=l (A++[y]) B x y 1 1;simp only [gH,List.singleton_append] at e1 e2;rw [e1,e2,rM cs A B x,rM cs A B y] at h;lia
def nd(cs:List Nat)(rows:List Row):Nat:=(det cs rows).natAbs
section
variable {cs:List Nat}
theorem Pb(A B:List Row)(x y:Row):nd cs (A++x::y::B)=nd cs (A++y::x::B):=by unfold nd;rw [Pa,kB]
theorem vG(x:Row)(B:List Row):∀(L A:List Row),nd cs (A++(L++x::B))=nd cs (A++x::(L++B))
 | [],A=>rfl
 | y::L,A=>by have h:=vG x B L (A++[y]);simp only [gH,fh,iA] at h ⊢;rw [h,Pb]
theorem GJ(B L:List Row):∀(M A:List Row),nd cs (A++(L++(M++B)))=nd cs (A++(M++(L++B)))
 | [],A=>rfl
 | x::M,A=>by have h:=GJ B L M (A++[x]);simp only [gH,fh,iA] at h ⊢;rw [vG,h]
theorem Pc{A B:List Row}{y:Row}(h:y∈A∨y∈B):det cs (A++y::B)=0:=by
 refine Int.natAbs_eq_zero.mp (show nd cs (A++y::B)=0 from ?_);rcases h with h | h
 ·obtain ⟨A1,A2,rfl⟩:=List.append_of_mem h
  have m:=vG (cs:=cs) y B A2 (A1++[y]);simp only [gH,fh,iA] at m ⊢;rw [m];unfold nd;rw [rM];rfl
 ·obtain ⟨B1,B2,rfl⟩:=List.append_of_mem h
  have m:=vG (cs:=cs) y B2 B1 (A++[y]);simp only [gH,fh,iA] at m ⊢;rw [m];unfold nd;rw [rM];rfl
end
def comb:List (Int×Row)→Row
 | []=>fun _=>0
 | p::l=>fun i=>p.1*p.2 i+comb l i
theorem GK{cs:List Nat}{A B:List Row}{x:Row}{a:Int}:∀(l:List (Int×Row)),(∀p∈l,p.2∈A∨p.2∈B)→det cs (A++(fun i=>a*x i+comb l i)::B)=a*det cs (A++x::B)
 | [],_=>by
  have e:(fun i=>a*x i+comb [] i)=iM a 0 x x:=by funext i;simp [comb,iM]
  rw [e,vF];lia
 | p::l,h=>by
  have e:(fun i=>a*x i+comb (p::l) i)=iM 1 p.1 (fun i=>a*x i+comb l i) p.2:=by
   funext i
   simp only [comb,iM];lia
  rw [e,vF,GK l fun p' hp=>h p' (gW _ hp),Pc (h p lK)];lia
def sh(k:Nat)(r:Row):Row:=fun i=>if i<3*k then 0 else r (i-3*k)
theorem Pd(k d:Nat)(r:Row):sh k (sh d r)=sh (k+d) r:=by
 funext i
 unfold sh;by_cases h:i<3*k;·rw [au h,au (by lia)]
 ·rw [ar h]
  by_cases h':i-3*k<3*d;·rw [au h',au (by lia)]
  ·rw [ar h',ar (by lia)]
   congr 1
   lia
theorem vH{k u:Nat}(h:k≤u):sh k r (3*u)=r (3*(u-k)):=by
 unfold sh;rw [ar (by lia)]
 congr 1
 lia
theorem Pe(r:Row):sh 0 r=r:=by
 funext i
 unfold sh;rw [ar (by lia)]
 rfl
def bR(r:Row):Nat→List Row
 | 0=>[]
 | k+1=>sh k r::bR r k
theorem oW{r:Row}:∀{n:Nat} {s:Row},s∈bR r n↔∃k,k<n∧s=sh k r
 | 0,s=>by simp [bR]
 | n+1,s=>by
  rw [bR,dH,oW];constructor
  ·rintro (h | ⟨k,h,e⟩)
   ·exact ⟨n,by lia,h⟩
   ·exact ⟨k,by lia,e⟩
  ·rintro ⟨k,h,e⟩
   by_cases z:k=n;·exact .inl (by rw [e,z])
   ·exact .inr ⟨k,by lia,e⟩
def cols:Nat→Nat→List Nat
 | _,0=>[]
 | hi,k+1=>3*hi::cols (hi-1) k
def Red(a:Int)(f g h:Row)(d:Nat):Prop:=∃l:List (Int×Nat),(∀p∈l,p.2≤d)∧∀i,h i=a*f i+comb (l.map fun p=>(p.1,sh p.2 g)) i
theorem GN(K:Nat)(g:Row):∀(l:List (Int×Nat)) (i:Nat),sh K (comb (l.map fun p=>(p.1,sh p.2 g))) i=comb (l.map fun p=>(p.1,sh (K+p.2) g)) i
 | [],i=>by unfold sh comb;simp
 | p::l,i=>by
  have h:=GN K g l i;have e:sh K (sh p.2 g) i=sh (K+p.2) g i:=by rw [Pd]
  simp only [nO,comb];rw [←h,←e];unfold sh;by_cases z:i<3*K <;> simp [z,comb]
theorem BM{cs:List Nat}{a:Int}{f g h:Row}{d M:Nat}(red:Red a f g h d):∀(K:Nat) (A:List Row),K+d≤M→a.natAbs ^ K*nd cs (A++(bR f K++bR g M))=nd cs (A++(bR h K++bR g M))
 | 0,A,_=>by simp [bR]
 | K+1,A,hM=>by
  obtain ⟨l,hl,e⟩:=id red;have ih:=BM (cs:=cs) (M:=M) red K (A++[sh K h]) (by lia)
  simp only [gH,fh,iA,bR] at ih ⊢;rw [←ih];have eh:sh K h=fun i=>a*sh K f i+comb (l.map fun p=>(p.1,sh (K+p.2) g)) i:=by
   funext i
   rw [←GN];unfold sh;by_cases z:i<3*K;·simp [z]
   ·simp only [ar z];exact e _
  have dc:=GK (cs:=cs) (A:=A) (B:=bR f K++bR g M) (x:=sh K f) (a:=a) (l.map fun p=>(p.1,sh (K+p.2) g)) fun p hp=>by obtain ⟨p',Pf,rfl⟩:=fD.mp hp;exact .inr (dI _ (oW.mpr ⟨K+p'.2,by have:=hl p' Pf;lia,rfl⟩))
  rw [←eh] at dc;unfold nd;rw [dc,bq,d4];grind
theorem BN{g:Row}{m t:Nat}{H:List Row}(g0:∀u,m<u→g (3*u)=0):∀(p M hi cnt kX:Nat),hi+1=m+(M+p)→kX+p≤hi→(∀r∈H,∀u,kX<u→r (3*u)=0)→nd (cols hi (cnt+p)++[t]) (H++bR g (M+p))=(g (3*m)).natAbs ^ p*nd (cols (hi-p) cnt++[t]) (H++bR g M)
 | 0,M,hi,cnt,kX,_,_,_=>by simp
 | p+1,M,hi,cnt,kX,e1,e2,hH=>by
  have ih:=BN (t:=t) g0 p M (hi-1) cnt kX (by lia) (by lia) hH
  have mv:=vG (cs:=cols hi (cnt+(p+1))++[t]) (sh (M+p) g) (bR g (M+p)) H [];rw [show bR g (M+(p+1))=sh (M+p) g::bR g (M+p) from rfl];rw [fh,fh] at mv;rw [mv];have pl:det (cols hi (cnt+(p+1))++[t]) (sh (M+p) g::(H++bR g (M+p)))=g (3*m)*det (cols (hi-1) (cnt+p)++[t]) (H++bR g (M+p)):=by
   have:=GI (c:=3*hi) (cs:=cols (hi-1) (cnt+p)++[t]) (r:=sh (M+p) g) (rows:=H++bR g (M+p)) fun r hr=>by
    rcases gG.mp hr with hr | hr;·exact hH r hr hi (by lia)
    ·obtain ⟨k,hk,rfl⟩:=oW.mp hr
     rw [vH (by lia)]
     exact g0 _ (by lia)
   rw [vH (by lia),show hi-(M+p)=m by lia] at this
   exact this
  unfold nd at ih ⊢;rw [pl,bq,ih,d4,show hi-1-p=hi-(p+1) by lia]
  grind
theorem BO{h:Row}{l t:Nat}(h0:∀u,l<u→h (3*u)=0):∀k,nd (cols (l+k) k++[t]) (bR h (k+1))=(h (3*l)).natAbs ^ k*(h t).natAbs
 | 0=>by unfold nd bR bR cols;show (c_ t (det []) [] [sh 0 h]).natAbs=_;rw [Pe];simp [c_,det]
 | k+1=>by
  have ih:=BO h0 (t:=t) k;have pl:=GI (c:=3*(l+(k+1))) (cs:=cols (l+k) k++[t]) (r:=sh (k+1) h) (rows:=bR h (k+1)) fun r hr=>by
   obtain ⟨k',hk,rfl⟩:=oW.mp hr;rw [vH (by lia)]
   exact h0 _ (by lia)
  rw [vH (by lia),show l+(k+1)-(k+1)=l by lia] at pl
  unfold nd at ih ⊢;rw [show cols (l+(k+1)) (k+1)++[t]=3*(l+(k+1))::(cols (l+k) k++[t]) from rfl,show bR h (k+1+1)=sh (k+1) h::bR h (k+1) from rfl,pl,bq,ih,d4];grind
theorem GO{cs:List Nat}{c:Row}{e:Int}:∀(K:Nat) (A:List Row),nd cs (A++bR (fun i=>e*c i) K)=e.natAbs ^ K*nd cs (A++bR c K)
 | 0,A=>by simp [bR]
 | K+1,A=>by
  have ih:=GO (cs:=cs) (c:=c) (e:=e) K (A++[sh K fun i=>e*c i]);simp only [gH,fh,iA,bR] at ih ⊢;rw [ih];have es:(sh K fun i=>e*c i)=iM e 0 (sh K c) (sh K c):=by
   funext i
   unfold sh iM;by_cases z:i<3*K <;> simp [z]
  unfold nd;rw [es,vF,fE,jI,bq,d4];grind
def S(j:Nat)(f:Row)(n:Nat)(g:Row)(m t:Nat):Nat:=nd (cols (n+m-j-1) (n+m-2*j-1)++[t]) (bR f (m-j)++bR g (n-j))
section
variable {f g h:Row} {n m l j t:Nat} {a:Int}
theorem GP(h0:∀u,l<u→h (3*u)=0)(K:Nat):∀r∈bR h K,∀u,l+K-1<u→r (3*u)=0:=fun r hr u hu=>by
 obtain ⟨k,hk,rfl⟩:=oW.mp hr;rw [vH (by lia)]
 exact h0 _ (by lia)
theorem Pg(red:Red a f g h (n-m))(mn:m≤n)(g0:∀u,m<u→g (3*u)=0)(h0:∀u,l<u→h (3*u)=0)(lm:l<m)(jl:j<l):a.natAbs ^ (m-j)*S j f n g m t=(g (3*m)).natAbs ^ (n-l)*S j g m h l t:=by
 have r:=BM (cs:=cols (n+m-j-1) (n+m-2*j-1)++[t]) (M:=n-j) red (m-j) [] (by lia)
 rw [fh,fh] at r;have p:=BN (t:=t) (H:=bR h (m-j)) g0 (n-l) (l-j) (n+m-j-1) (m+l-2*j-1) (l+(m-j)-1) (by lia) (by lia) (GP h0 (m-j))
 rw [show m+l-2*j-1+(n-l)=n+m-2*j-1 by lia,show l-j+(n-l)=n-j by lia,show n+m-j-1-(n-l)=m+l-j-1 by lia] at p
 have s:=GJ (cs:=cols (m+l-j-1) (m+l-2*j-1)++[t]) [] (bR h (m-j)) (bR g (l-j)) [];simp only [fh,nQ] at s;unfold S;rw [r,p,s]
theorem GQ(red:Red a f g h (n-m))(mn:m≤n)(g0:∀u,m<u→g (3*u)=0)(h0:∀u,l<u→h (3*u)=0)(lj:l≤j)(jm:j<m):a.natAbs ^ (m-j)*S j f n g m t=(g (3*m)).natAbs ^ (n-j)*nd (cols (m-1) (m-j-1)++[t]) (bR h (m-j)):=by
 have r:=BM (cs:=cols (n+m-j-1) (n+m-2*j-1)++[t]) (M:=n-j) red (m-j) [] (by lia)
 rw [fh,fh] at r;have p:=BN (t:=t) (H:=bR h (m-j)) g0 (n-j) 0 (n+m-j-1) (m-j-1) (l+(m-j)-1) (by lia) (by lia) (GP h0 (m-j))
 rw [show m-j-1+(n-j)=n+m-2*j-1 by lia,Nat.zero_add,show n+m-j-1-(n-j)=m-1 by lia,show bR g 0=[] from rfl,nQ] at p
 unfold S;rw [r,p]
theorem Ph(red:Red ((g (3*m)) ^ (n-m+1)) f g h (n-m))(mn:m≤n)(m1:1≤m)(G:g (3*m)≠0)(g0:∀u,m<u→g (3*u)=0)(h0:∀u,m-1<u→h (3*u)=0):S (m-1) f n g m t=(h t).natAbs:=by
 have e:=GQ (t:=t) (l:=m-1) (j:=m-1) red mn g0 h0 (aO _) (by lia)
 have p:=BO (t:=t) h0 0;rw [show m-(m-1)-1=0 by lia,show m-(m-1)=1 by lia] at e
 rw [Nat.add_zero,Nat.pow_zero,Nat.one_mul] at p;rw [p,Nat.pow_one,gq,show n-(m-1)=n-m+1 by lia] at e
 exact uZ (nV (gh.mpr G)) e
end
def Ch(f:Row)(n0:Nat)(g:Row)(m0:Nat)(A:Row)(n:Nat)(B:Row)(m la ht:Nat):Prop:=∀j,j<m→∀t,S j A n B m t=la ^ (m-j)*ht ^ (n-j-1)*S j f n0 g m0 t
section
variable {f g A B C h:Row} {n0 m0 n m l la ht H:Nat}
theorem Pj:Ch f n0 g m0 f n0 g m0 1 1:=fun j _ t=>by simp
theorem Pk(c:Ch f n0 g m0 A n B m la ht)(red:Red ((B (3*m)) ^ (n-m+1)) A B h (n-m))(mn:m≤n)(m1:1≤m)(G:B (3*m)≠0)(g0:∀u,m<u→B (3*u)=0)(h0:∀u,m-1<u→h (3*u)=0)(t:Nat):(h t).natAbs=la*ht ^ (n-m)*S (m-1) f n0 g m0 t:=by rw [←Ph (t:=t) red mn m1 G g0 h0,c (m-1) (by lia) t,show m-(m-1)=1 by lia,Nat.pow_one,show n-(m-1)-1=n-m by lia]
variable {G s gap e k:Nat}
theorem pw_next{S':Nat}(hG:0<G)(hl:0<la)(hh:0<ht)(he:e≤k)(hH:H*ht ^ gap=G ^ gap*ht)(q:(G ^ (gap+1)) ^ (k+1)*(la ^ (k+1)*ht ^ (gap+k)*s)=G ^ (gap+e)*((la*ht ^ gap) ^ (k+1)*S')):S'=G ^ (k+1-e)*H ^ k*s:=by
 have p1:0<G ^ (gap+e)*(la*ht ^ gap) ^ (k+1):=Nat.mul_pos (nV hG) (nV (Nat.mul_pos hl (nV hh)))
 refine uZ p1 ?_
 rw [lV,←q]
 have e1:H ^ k*(ht ^ gap) ^ k=(G ^ gap) ^ k*ht ^ k:=by rw [←Nat.mul_pow,hH,Nat.mul_pow]
 have e2:G ^ (gap+e)*G ^ (k+1-e)=G ^ gap*(G ^ k*G):=by
  rw [←Nat.pow_add,←d4,←Nat.pow_add]
  congr 1
  lia
 have e3:(G ^ (gap+1)) ^ (k+1)=(G ^ gap) ^ k*G ^ gap*(G ^ k*G):=by rw [d4 G gap,Nat.mul_pow,d4,d4]
 have e4:(la*ht ^ gap) ^ (k+1)=la ^ (k+1)*((ht ^ gap) ^ k*ht ^ gap):=by rw [Nat.mul_pow,d4 (ht ^ gap)]
 rw [e3,e4,Nat.pow_add]
 calc _=(G ^ gap*(G ^ k*G))*la ^ (k+1)*ht ^ gap*((G ^ gap) ^ k*ht ^ k)*s:=by grind
  _=(G ^ (gap+e)*G ^ (k+1-e))*la ^ (k+1)*ht ^ gap*(H ^ k*(ht ^ gap) ^ k)*s:=by rw [e1,e2]
  _=_:=by grind
theorem Pl{e:Int}(c:Ch f n0 g m0 A n B m la ht)(hl:0<la)(hh:0<ht)(red:Red ((B (3*m)) ^ (n-m+1)) A B (fun i=>e*C i) (n-m))(he:e.natAbs=la*ht ^ (n-m))(mn:m≤n)(G:B (3*m)≠0)(g0:∀u,m<u→B (3*u)=0)(lm:l<m)(c0:∀u,l<u→C (3*u)=0)(hH:H*ht ^ (n-m)=(B (3*m)).natAbs ^ (n-m)*ht):Ch f n0 g m0 B m C l (B (3*m)).natAbs H:=fun j hj t=>by
 have s:=Pg (t:=t) red mn g0 (fun u hu=>by rw [c0 u hu,dQ]) lm hj
 have gm:=GO (cs:=cols (m+l-j-1) (m+l-2*j-1)++[t]) (c:=C) (e:=e) (m-j) (bR B (l-j));have Pm:S j B m (fun i=>e*C i) l t=e.natAbs ^ (m-j)*S j B m C l t:=gm;rw [Pm,c j (by lia) t,he,gq] at s
 obtain ⟨k,hk⟩:∃k,m-j=k+1:=⟨m-j-1,by lia⟩
 have z:=pw_next (gap:=n-m) (e:=m-l) (k:=k) (gh.mpr G) hl hh (by lia) hH (by
  rw [hk,show n-j-1=n-m+k by lia,show n-l=n-m+(m-l) by lia] at s
  exact s)
 rw [z,show k+1-(m-l)=l-j by lia,show k=m-j-1 by lia]
theorem pw_high{e c:Nat}(hG:0<G)(hl:0<la)(hh:0<ht)(hH:H*ht ^ gap=G ^ gap*ht)(q:(G ^ (gap+1)) ^ (k+1)*(la ^ (k+1)*ht ^ (gap+k)*s)=G ^ (gap+(k+1))*((la*ht ^ gap) ^ (k+1)*c ^ (k+1))):s*H ^ k=c ^ (k+1):=by
 have z:=pw_next (e:=k) (S':=G*c ^ (k+1)) hG hl hh (aO _) hH (by
  rw [q,show gap+(k+1)=gap+k+1 by lia,d4]
  grind)
 rw [show k+1-k=1 by lia,Nat.pow_one] at z
 have z:G*c ^ (k+1)=G*(s*H ^ k):=by rw [z];grind
 exact (uZ hG z).symm
theorem Pn{e:Int}(c:Ch f n0 g m0 A n B m la ht)(hl:0<la)(hh:0<ht)(red:Red ((B (3*m)) ^ (n-m+1)) A B (fun i=>e*C i) (n-m))(he:e.natAbs=la*ht ^ (n-m))(mn:m≤n)(G:B (3*m)≠0)(g0:∀u,m<u→B (3*u)=0)(lm:l<m)(c0:∀u,l<u→C (3*u)=0)(hH:H*ht ^ (n-m)=(B (3*m)).natAbs ^ (n-m)*ht):S l f n0 g m0 (3*l)*H ^ (m-l-1)=(C (3*l)).natAbs ^ (m-l):=by
 have h0:∀u,l<u→(fun i=>e*C i) (3*u)=0:=fun u hu=>by show e*C (3*u)=0;rw [c0 u hu,dQ]
 have s:=GQ (t:=3*l) red mn g0 h0 (aO l) lm;have p:=BO (h:=fun i=>e*C i) (l:=l) (t:=3*l) h0 (m-l-1);rw [show l+(m-l-1)=m-1 by lia,show m-l-1+1=m-l by lia] at p
 rw [p,c l lm,gq] at s;obtain ⟨k,hk⟩:∃k,m-l=k+1:=⟨m-l-1,by lia⟩
 have z:=pw_high (gap:=n-m) (k:=k) (c:=(C (3*l)).natAbs) (e:=0) (s:=S l f n0 g m0 (3*l)) (gh.mpr G) hl hh hH (by
  rw [hk,show n-l-1=n-m+k by lia,show n-l=n-m+(k+1) by lia] at s
  rw [s,←he];rw [bq,show k+1-1=k by lia,←d4,Nat.mul_pow])
 rw [hk,show k+1-1=k by lia]
 exact z
end
end Srs
namespace My
open PySem L2
def o1:Int×Int:=(0,1)
theorem getD_at{α:Type}{xs:List α}{d:α}{i:Nat}(hi:i<xs.length):xs.getD i d=xs[i]:=by
 rw [d3,show xs[i]?=some xs[i] by simp [hi]]
 rfl
def aE(q:Int)(p t:Int×Int):Prop:=q∣p.1*t.2-t.1*p.2
variable {q:Int}
theorem aE.refl(p:Int×Int):aE q p p:=⟨0,by rw [Int.sub_self,dQ]⟩
variable {t:Int×Int}
theorem aE.symm{p:Int×Int}(h:aE q p t):aE q t p:=by obtain ⟨k,e⟩:=h;exact ⟨-k,by rw [gk];lia⟩
variable {x:Int}
theorem aE.cancel{b:Int}(ok:bH q b)(h:q∣b*x):q∣x:=by
 by_cases z:q=0
 ·subst z
  have h0:=fN.mp h;have b1:=ok.1 rfl;rcases Int.mul_eq_zero.mp h0 with e | e;·lia
  ·rw [e];exact nU 0
 ·rw [ok.2 z,qG] at h
  exact h
theorem aE.trans{p s:Int×Int}(h1:aE q p t)(h2:aE q t s)(ok:bH q t.2):aE q p s:=by obtain ⟨k1,e1⟩:=h1;obtain ⟨k2,e2⟩:=h2;refine aE.cancel ok ⟨k1*s.2+k2*p.2,?_⟩;grind
def aK:Nat→(Nat→Int)→Int
 | 0,_=>0
 | n+1,f=>f 0+aK n fun i=>f (i+1)
theorem di:∀{n:Nat} {f g:Nat→Int},(∀i,i<n→f i=g i)→aK n f=aK n g
 | 0,f,g,_=>rfl
 | n+1,f,g,h=>by unfold aK;rw [h 0 (by lia),di fun i hi=>h (i+1) (by lia)]
theorem yp:∀(n:Nat) (f g:Nat→Int),aK n (fun i=>f i+g i)=aK n f+aK n g
 | 0,f,g=>rfl
 | n+1,f,g=>by show f 0+g 0+aK n (fun i=>f (i+1)+g (i+1))=(f 0+aK n fun i=>f (i+1))+(g 0+aK n fun i=>g (i+1));rw [yp n];lia
theorem rN(c:Int):∀(n:Nat) (f:Nat→Int),c*aK n f=aK n fun i=>c*f i
 | 0,f=>by unfold aK;rw [dQ]
 | n+1,f=>by unfold aK;rw [jD,rN c n]
theorem iN:∀(n:Nat),aK n (fun _=>0)=0
 | 0=>rfl
 | n+1=>by unfold aK;rw [iN n];rfl
theorem GR:∀(n j:Nat) (f:Nat→Int),j<n→aK n (fun i=>if i=j then f i else 0)=f j
 | n+1,0,f,_=>by
  show (if (0:Nat)=0 then f 0 else 0)+aK n (fun i=>if i+1=0 then f (i+1) else 0)=f 0
  rw [au rfl,show (fun i=>if i+1=0 then f (i+1) else 0)=fun _=>(0:Int) from funext fun i=>ar (by lia),iN]
  lia
 | n+1,j+1,f,h=>by
  show (if (0:Nat)=j+1 then f 0 else 0)+aK n (fun i=>if i+1=j+1 then f (i+1) else 0)=f (j+1)
  rw [ar (by lia),show (fun i=>if i+1=j+1 then f (i+1) else 0)=fun i=>if i=j then (fun i=>f (i+1)) i else 0 from funext fun i=>by by_cases z:i=j <;> simp [z],GR n j (fun i=>f (i+1)) (by lia)]
  lia
variable {B:Nat} {H:Hp} {v:V}
theorem Po(hB:1≤B){a:Int}(h:Bx H q v a 1)(hq:aD q)(ha:a=0∨a=1):aQ B H q v a 1:=by
 rcases h with ⟨rfl,r,rfl,e⟩ | ⟨q2,r,rfl,r0,r1,er⟩
 ·rw [(Gk a).1,(Gk a).2] at e
  exact .bJ e ⟨by decide,xo ..⟩ (by rcases ha with rfl | rfl <;> simp [hB]) (by simpa using hB)
 ·have q3:q≤997:=by rcases hq with z | ⟨_,z,_⟩ <;> lia
  rw [lU (show (0:Int)≤1 by decide) (show (1:Int)<q by lia),eQ,lU r0 r1] at er
  have ea:a % q=a:=lU (by lia) (by lia)
  rw [ea] at er;subst er;exact .rem r0 r1 q3
theorem Pp(hq:aD q):¬jY q 1:=fun h=>by
 unfold jY at h;rcases hq with rfl | ⟨q2,q3,q4⟩;·rw [au rfl] at h;lia
 ·rw [ar (by lia),lU (by lia) (by lia)] at h;lia
theorem bH.mul{a b:Int}(h1:bH q a)(h2:bH q b):bH q (a*b):=⟨fun z=>by
  have:=Int.mul_pos (show 0<a by have:=h1.1 z;lia) (show 0<b by have:=h2.1 z;lia)
  lia,fun z=>by rw [h1.2 z,h2.2 z];rfl⟩
theorem bH.one:bH q 1:=⟨fun _=>by decide,fun _=>rfl⟩
def er(P:Addr)(H:Hp):Hp:=fun b=>if b=P then none else H b
variable {P:Addr}
theorem dO:ah (er P H) H:=fun b o e=>by
 unfold er at e
 split at e
 ·cases e
 ·exact e
variable {b:Addr}
theorem jq(h:b≠P):er P H b=H b:=ar h
variable {o:HO}
theorem jr(h:b≠P)(e:H b=some o):er P H b=some o:=by rw [jq h];exact e
variable {H':Hp}
theorem oX(s:ah H H'):ah (er P H) (er P H'):=fun b o e=>by
 unfold er at e ⊢
 split at e
 ·cases e
 ·rename_i h
  rw [ar h];exact s _ _ e
theorem GS:er P (upd H P o)=er P H:=funext fun b=>by
 unfold er
 split
 ·rfl
 ·rename_i h
  exact bG h
def cO(H:Hp)(P a:Addr):Prop:=∃x y:Int,H P=some (.lst [.ref a,.int x,.int y])∧0≤x∧0≤y
theorem cO.mono{a:Addr}(h:cO H P a)(s:ah H H'):cO H' P a:=by obtain ⟨x,y,e,h1,h2⟩:=h;exact ⟨x,y,s _ _ e,h1,h2⟩
variable {D:Addr}
theorem cO.upd{a:Addr}(h:cO H P a)(n:D≠P):cO (L2.upd H D o) P a:=by obtain ⟨x,y,e,h1,h2⟩:=h;exact ⟨x,y,by rw [bG n.symm];exact e,h1,h2⟩
theorem cO.ne{a:Addr}(h:cO H P a)(n:H D=none):D≠P:=fun z=>by obtain ⟨x,y,e,_⟩:=h;rw [z,e] at n;cases n
def aI(P:Addr)(H H':Hp):Prop:=ah (er P H) (er P H')
theorem aI.refl(H:Hp):aI P H H:=ah.refl _
theorem aI.trans{H2:Hp}(s:aI P H H')(t:aI P H' H2):aI P H H2:=ah.trans s t
theorem aI.of(s:ah H H'):aI P H H':=oX s
theorem aI.j7:aI P H (upd H P o):=by unfold aI;rw [GS];exact ah.refl _
theorem aI.but(s:aI P H H')(n:H D=none):aI P H (upd H' D o):=fun b u e=>by
 have e0:=s b u e;have nb:b≠P:=fun z=>by unfold er at e;rw [au z] at e;cases e
 rw [jq nb] at e e0 ⊢;rw [bG (fi e n)];exact e0
theorem aI.at(s:aI P H H')(nb:b≠P)(e:H b=some o):H' b=some o:=by have z:=s b o (jr nb e);rw [jq nb] at z;exact z
theorem GU{wi:TI}{ρ:St→St}{te:TE}{σ:St}{Q:VK}{a:Addr}{N:Nat}(hN:N<sizeLine)
  (fK:∀R:It→Hp→Prop,(∀(n:Nat) (H1:Hp),n≤N→aI P H H1→cO H1 P a→R (kL 0 n) H1)→wi σ H R)
  (Pr:Addr→Nat→V→Hp→Prop) (mono:∀D i y Hc H' ys,Pr D i y Hc→Hc D=some (.lst ys)→D≠P→(∀b o,b≠D→b≠P→Hc b=some o→H' b=some o)→Pr D i y H')
  (step:∀(D:Addr) (i:Nat),i<N→∀(Hc:Hp) (R:VK),aI P H Hc→cO Hc P a→(∃ys,Hc D=some (.lst ys))→D≠P→(∀y H3,aI P Hc H3→cO H3 P a→Pr D i y H3→R y H3)→te (some (.int (0+(i:Int)))::ρ σ) Hc R)
  (fin:∀(D:Addr) (ys:List V) (Hc:Hp),D≠P→er P H D=none→aI P H Hc→cO Hc P a→ys.length≤N→(∀(i:Nat) (y:V),ys[i]?=some y→Pr D i y Hc)→Hc D=some (.lst ys)→Q (.ref D) Hc):jV wi ρ (fun _ H Q=>Q true H) te σ H Q:=by
 refine fK _ fun n H1 hn s1 p1=>?_;intro D nD;have nP:=p1.ne nD;refine ⟨fun i m ys Hc=>m=n-i∧i≤n∧Hc D=some (.lst ys)∧aI P H1 Hc∧cO Hc P a∧ys.length=i∧∀j y,ys[j]?=some y→Pr D j y Hc,⟨_,rfl,bO _,aq,(aI.refl H1).but nD,p1.upd nP,rfl,fun j y e=>by simp at e⟩,?_⟩
 rintro i m ys Hc ⟨rfl,hi,eD,sH,pc,el,hP⟩;refine ⟨eD,?_⟩;by_cases bP:i<n
 ·refine .inr ⟨bP,fun x H' hy=>?_⟩
  obtain ⟨rfl,rfl⟩:=hy;rw [au rfl];refine step D i (by lia) _ _ (s1.trans sH) pc ⟨ys,eD⟩ nP fun y H3 s3 p3 hp=>?_
  have e3:=s3.at nP eD;refine ⟨e3,by lia,n-(i+1),by lia,rfl,bP,aq,(sH.trans s3).but nD,p3.upd nP,by simp [el],fun j y' e=>?_⟩
  have aS:∀b o,b≠D→b≠P→H3 b=some o→upd H3 D (.lst (ys++[y])) b=some o:=fun b o nb _ e=>by rw [bG nb];exact e
  by_cases hj:j<i
  ·have e':ys[j]?=some y':=by rw [ir (by lia)] at e;exact e
   refine mono D j y' H' _ ys (hP j y' e') eD nP fun b o nb np e=>?_;exact aS b o nb np (s3.at np e)
  ·have hj:j=i:=by have:=(cG.mp e).1;simp at this;lia
   subst hj;have e':y'=y:=by rw [gY (by lia),el,jE] at e;simpa using e.symm
   subst e';exact mono D _ _ H3 _ ys hp e3 nP aS
 ·have e:i=n:=by lia
  subst e;have hD:er P H D=none:=by
   cases z:er P H D with
   | none=>rfl
   | some o=>have z2:=s1 _ _ z;rw [jq nP,nD] at z2;cases z2
  exact .inl ⟨aO _,fin D ys Hc nP hD (s1.trans sH) pc (by lia) hP eD⟩
def aN(B:Nat)(H:Hp)(q:Int)(a:Addr)(ps:aF):Prop:=∃vs:List V,H a=some (.lst vs)∧vs.length=ps.length∧∀(i:Nat) (v:V) (p:Int×Int),vs[i]?=some v→ps[i]?=some p→aQ B H q v p.1 p.2
variable {ps:aF}
theorem aN.mono{a:Addr}(h:aN B H q a ps)(s:ah H H'):aN B H' q a ps:=by obtain ⟨vs,e,l,k⟩:=h;exact ⟨vs,s _ _ e,l,fun i v p h1 h2=>(k i v p h1 h2).mono s⟩
variable {B':Nat} {m:Int}
theorem aQ.weak(h:aQ B H q v x m)(hb:B≤B'):aQ B' H q v x m:=by
 cases h with
 | bJ e l bx bm=>exact .bJ e l (ai bx hb) (ai bm hb)
 | rem h0 h1 h2=>exact .rem h0 h1 h2
theorem aN.weak{a:Addr}(h:aN B H q a ps)(hb:B≤B'):aN B' H q a ps:=by obtain ⟨vs,e,l,k⟩:=h;exact ⟨vs,e,l,fun i v p h1 h2=>(k i v p h1 h2).weak hb⟩
variable {K:ax}
theorem GV(hq:aD q){a:Addr}(h1:aN B H q a ps)(h2:aN B' H q b ps)(n:Nat):rJ K H (n+2) (.ref a) (.ref b):=by
 obtain ⟨vs,e1,l1,f1⟩:=h1;obtain ⟨us,e2,l2,f2⟩:=h2;refine .inr ⟨a,b,vs,us,rfl,rfl,.inl ⟨.of e1,.of e2⟩,by lia,fun j x y hx hy=>?_⟩
 have hj:j<ps.length:=by rw [←l1];exact (cG.mp hx).1
 exact BK ((f1 j x ps[j] hx (by simp [hj])).rE hq) ((f2 j y ps[j] hy (by simp [hj])).rE hq) rfl n
variable {R:VK}
theorem GW(hq:aD q){a:Addr}{r:Bool}(h1:aN B H q a ps)(h2:aN B' H q b ps)(k:R (.bl r) H):yk K 1 r (.ref a) (.ref b) H R:=by
 obtain ⟨vs,e1,l1,f1⟩:=h1;obtain ⟨us,e2,l2,f2⟩:=h2;refine ⟨a,b,vs,us,rfl,rfl,.of e1,.of e2,by lia,fun j x y hx hy=>?_,k⟩
 have hj:j<ps.length:=by rw [←l1];exact (cG.mp hx).1
 exact BK ((f1 j x ps[j] hx (by simp [hj])).rE hq) ((f2 j y ps[j] hy (by simp [hj])).rE hq) rfl 0
theorem GX{u:V}(hv:aQ B H q v x m)(hu:aQ B' H q u 0 1)(k:R (.bl (decide (x=0))) H):Gh K v u H R:=by
 cases hv with
 | bJ e l bx bm=>
  cases hu with
  | bJ e' l' _ _=>
   refine .inr (.inr (.inl ⟨_,_,_,_,rfl,rfl,.of e,.of e',rfl,rfl,?_⟩));have z:(fV [V.int x,V.int m] [V.int 0,V.int 1])=decide (x=0):=by
    show ((x == 0) && ((m == 1) && true))=_;by_cases hx:x=0
    ·subst hx
     have:=l.vz;rw [Int.gcd_zero_left] at this;have:=l.pos;have:m=1:=by lia
     subst this;rfl
    ·rw [gU hx,show (x == 0)=false from uJ.mpr hx]
     rfl
   show R (.bl (fV [V.int x,V.int m] [V.int 0,V.int 1])) H;rw [z];exact k
  | rem h0 h1 h2=>lia
 | rem h0 h1 h2=>
  cases hu with
  | bJ=>lia
  | rem mE yh GY=>
   refine .inr (.inr (.inr ⟨by simp [AS],?_⟩))
   rw [rB];exact k
def da(ps:aF):Nat→Nat
 | 0=>0
 | n+1=>if (ps.getD n o1).1=0 then da ps n else n+1
theorem BP(ps:aF):∀n,da ps n≤n
 | 0=>aO _
 | n+1=>by
  unfold da
  split
  ·exact ai (BP ps n) (Nat.le_succ n)
  ·exact aO _
def aM(ps:aF):List (Int×Int):=ps.take (da ps ps.length)
theorem rO(xs:List V)(k:Nat)(h:k≤xs.length):mq xs none (some (k:Int))=xs.take k:=by
 have e:HT.d7 xs.length xs.length (some (k:Int))=k:=by rw [HT.Nm];lia
 unfold mq;rw [e,show HT.d7 xs.length 0 none=0 from rfl,List.drop_zero,u3]
theorem aN.take{r:Addr}{vs:List V}{k:Nat}(e:H r=some (.lst (vs.take k)))(l:vs.length=ps.length)(f:∀(i:Nat) (v:V) (p:Int×Int),vs[i]?=some v→ps[i]?=some p→aQ B H q v p.1 p.2):aN B H q r (ps.take k):=by
 refine ⟨vs.take k,e,by simp [l],fun i v p h1 h2=>?_⟩
 have hi:i<k:=by have:=(cG.mp h1).1;rw [lL] at this;lia
 rw [Ar hi] at h1 h2;exact f i v p h1 h2
end My
namespace L2
open PySem PySem.Spec PyProof.Rows
def Pq(K:ax):R2:=fun x y H Q=>∃a b xs,x=.ref a∧y=.ref b∧aX K H a xs∧H b=some (.lst [])∧(∀v∈xs,∃i,v=.int i)∧Q (.bl (!xs.isEmpty)) H
theorem Pt{X:Cx}(hu:X.A.units+64<cLine):cC X (compareOp .NotEq) (Pq X.K):=by
 intro pins s σ H x y v u Q I rx ry h;obtain ⟨a,b,xs,rfl,rfl,h1,h2,_,q⟩:=h;cases rx;cases ry;obtain ⟨us,r1,t1,_⟩:=I.list h1;obtain ⟨vs,r2,t2,_⟩:=I.list (aX.of h2);have l1:=r1.length;have l2:=r2.length;cases xs with
 | nil=>
  refine SeqAt.RcNeAt.lists (e:=fun _=>true) t1.isList t2.isList (by simp at l1 l2 ⊢;lia) (by lia) (fun j z1 z2=>?_) _ _ _ _ ?_
  ·simp at l1
   have:us=[]:=gZ.mp l1.symm;subst this;simp at z1
  ·rw [all_range]
   exact ⟨.bl false,H,I,rfl,q⟩
 | cons w ws=>
  refine SeqAt.RcNeAt.lists_lengths t1.isList t2.isList ?_ (by lia) _ _ _ _ ⟨.bl true,H,I,rfl,q⟩
  simp at l1 l2 ⊢;lia
end L2
namespace My
open PySem L2
def jt(q:Int):Td:=if q=0 then .a "fractions" else .b "wheel" q
variable {q:Int}
theorem Pu(hq:aD q):(jt q).good=true:=by
 unfold jt;rcases hq with rfl | ⟨h1,h2,h3⟩;·rw [au rfl];simp [Td.good,Td.vo]
 ·rw [ar (by lia)];simp [Td.good,Td.vo,Td.iL,h1,h2,h3]
theorem rP:jt 0=.a "fractions":=au rfl
theorem oY(h:q≠0):jt q=.b "wheel" q:=ar h
def dA(H:Hp)(td:Addr)(q:Int):Prop:=H td=some (.tup (jt q).vs)
variable {H H':Hp}
theorem dA.mono{td:Addr}(h:dA H td q)(s:ah H H'):dA H' td q:=s _ _ h
def Pw:Sp:=fun vs H Q _=>∃c a:Int,vs=[.int c,.int a]∧0≤a∧∀r:Int,0≤r→Q (.int r) H
def Px(K:ax):Sp:=fun vs H Q _=>∃(P a:Addr) (ns:List Int) (many:Int),vs=[.ref P,.int many]∧cO H P a∧aX K (er P H) a (ns.map V.int)∧1≤many∧aU many∧∀(r:Int) (H':Hp),0≤r→r<many→aI P H H'→cO H' P a→Q (.int r) H'
def cm(q i:Int):Int×Int:=if q=0 then (i,1) else (i % q,1)
def dF(q:Int)(p r:Int×Int):Int×Int:=if q=0 then (fc (p.1*r.2+r.1*p.2) (p.2*r.2),fe (p.1*r.2+r.1*p.2) (p.2*r.2)) else ((p.1+r.1) % q,1)
def mulQ(q:Int)(p r:Int×Int):Int×Int:=if q=0 then (fc (p.1*r.1) (p.2*r.2),fe (p.1*r.1) (p.2*r.2)) else (p.1*r.1 % q,1)
def Py(B:Nat):Sp:=fun vs H Q _=>∃(td:Addr) (q i:Int),vs=[.ref td,.int i]∧dA H td q∧aD q∧i.natAbs≤B∧1000≤B∧∀(v:V) (H':Hp),ah H H'→aQ B H' q v (cm q i).1 (cm q i).2→Q v H'
variable {B:Nat} {r:Addr}
theorem yq{a b:Int}(e:H r=some (.tup [.int (fc a b),.int (fe a b)]))(hb:1≤b)(ba:a.natAbs≤B)(bb:b.natAbs≤B):aQ B H 0 (.ref r) (fc a b) (fe a b):=by obtain ⟨u,d,e1,e2,l,l1,l2⟩:=Gg (a:=a) hb;unfold fc fe at e ⊢;rw [e1,e2] at e ⊢;exact .bJ e l (ai l1 ba) (ai l2 bb)
def Pz:Sp:=fun vs H Q _=>∃(td:Addr) (q:Int) (v:V) (x m:Int) (B:Nat),vs=[.ref td,v]∧dA H td q∧aD q∧aQ B H q v x m∧B≤10 ^ 300∧∀H',ah H H'→Q (.bl true) H'
def PB:Sp:=fun vs H Q _=>∃(td a:Addr) (q:Int) (ps:aF) (B:Nat),vs=[.ref td,.ref a]∧dA H td q∧aD q∧aN B H q a ps∧ps.length≤1000∧B≤10 ^ 300∧∀H',ah H H'→Q (.bl true) H'
def PD(K:ax):Sp:=fun vs H Q _=>∃(P a:Addr) (ns:List Int),vs=[.ref P]∧cO H P a∧aX K (er P H) a (ns.map V.int)∧∀(td:Addr) (q:Int) (H':Hp),aD q→aI P H H'→cO H' P a→dA (er P H') td q→Q (.ref td) H'
def PF(C:Addr):Sp:=fun vs H Q _=>∃(z a:Addr) (q:Int) (ps:aF) (B:Nat),vs=[.ref z,.ref a]∧dE C H z q∧aD q∧aN B H q a ps∧ps.length≤1000∧∀(b:Addr) (H':Hp),ah H H'→H b=none→aN B H' q b (aM ps)→Q (.ref b) H'
def PH:Sp:=fun vs H Q _=>∃(td a:Addr) (q:Int) (ps:aF) (B:Nat),vs=[.ref td,.ref a]∧dA H td q∧aD q∧aN B H q a ps∧ps.length≤1000∧∀(b:Addr) (H':Hp),ah H H'→H b=none→aN B H' q b (aM ps)→Q (.ref b) H'
variable {v:V} {x m:Int} {P:Addr}
theorem aQ.er{H':Hp}{a:Addr}(h:aQ B H q v x m)(p:cO H P a):aQ B (er P H) q v x m:=by
 cases h with
 | bJ e l bx bm=>refine .bJ (jr (fun z=>?_) e) l bx bm;obtain ⟨x,y,e',_⟩:=p;rw [z,e'] at e;cases e
 | rem h0 h1 h2=>exact .rem h0 h1 h2
variable {D:Addr} {ys:List V}
theorem aQ.GZ(h:aQ B (My.er P H) q v x m)(eD:H D=some (.lst ys))(k:∀b o,b≠D→b≠P→H b=some o→H' b=some o):aQ B (My.er P H') q v x m:=by
 cases h with
 | bJ e l bx bm=>
  rename_i r
  have nP:r≠P:=fun z=>by unfold My.er at e;rw [au z] at e;cases e
  rw [jq nP] at e;refine .bJ (jr nP (k _ _ (fun z=>?_) nP e)) l bx bm;rw [z,eD] at e;cases e
 | rem h0 h1 h2=>exact .rem h0 h1 h2
theorem PJ(eD:H D=some (.lst ys))(hP:∀(i:Nat) (y:V),ys[i]?=some y→∃xm:Int×Int,aQ B H q y xm.1 xm.2):∃ps,aN B H q D ps∧ps.length=ys.length:=by obtain ⟨ps,lp,hp⟩:=pick (R:=fun _ y xm=>aQ B H q y (Prod.fst xm) (Prod.snd xm)) hP;exact ⟨ps,⟨ys,eD,lp.symm,fun i v x h1 h2=>hp i v x h1 h2⟩,lp⟩
theorem aN.cat{vs us:List V}{ps rs:aF}(e:H r=some (.lst (vs++us)))(l1:vs.length=ps.length)(l2:us.length=rs.length)(f1:∀(i:Nat) (v:V) (p:Int×Int),vs[i]?=some v→ps[i]?=some p→aQ B H q v p.1 p.2)(f2:∀(i:Nat) (v:V) (p:Int×Int),us[i]?=some v→rs[i]?=some p→aQ B H q v p.1 p.2):aN B H q r (ps++rs):=by
 refine ⟨vs++us,e,by simp [l1,l2],fun i v p h1 h2=>?_⟩
 by_cases hi:i<vs.length
 ·rw [ir hi] at h1
  rw [ir (by lia)] at h2
  exact f1 i v p h1 h2
 ·rw [gY (by lia)] at h1
  rw [gY (by lia),←l1] at h2
  exact f2 _ v p h1 h2
end My
namespace L2
open PySem PySem.Spec PyProof.Rows
theorem PK{K:ax}{wi:TI}{ρ:St→St}{te:TE}{σ:St}{H:Hp}{Q:VK}{Z:List (V×V)→Hp→Prop}(fK:∀R:It→Hp→Prop,(∀J H1 zs,ah H H1→ym J zs H1→zs.length<sizeLine→Z zs H1→R J H1)→wi σ H R)
  (P:Addr→Nat→V→Hp→Prop) (mono:∀D i y H H' ys,P D i y H→H D=some (.lst ys)→(∀b o,b≠D→H b=some o→H' b=some o)→P D i y H')
  (step:∀zs H1,Z zs H1→ah H H1→∀D i x y,zs[i]?=some (x,y)→∀(Hc:Hp) (R:VK),ah H1 Hc→(∃ys,Hc D=some (.lst ys))→(∀v H3,ah Hc H3→P D i v H3→R v H3)→te (some x::some y::ρ σ) Hc R)
  (fin:∀zs H1,Z zs H1→ah H H1→∀D vs Hc,H D=none→ah H1 Hc→vs.length=zs.length→(∀(i:Nat) (v:V),vs[i]?=some v→P D i v Hc)→Hc D=some (.lst vs)→Q (.ref D) Hc):rH K wi ρ (fun _ H Q=>Q true H) te σ H Q:=by
 refine fK _ fun J H1 zs s1 js hn hZ=>?_;intro D nD;have hD:H D=none:=by
  cases e:H D with
  | none=>rfl
  | some o=>rw [s1 _ _ e] at nD;cases nD
 refine ⟨fun i m vs Hc=>m=zs.length-i∧i≤zs.length∧Hc D=some (.lst vs)∧ah H1 Hc∧vs.length=i∧∀(j:Nat) (v:V),vs[j]?=some v→P D j v Hc,⟨_,rfl,bO _,aq,gy (ah.refl H1) nD,rfl,fun j y e=>by simp at e⟩,?_⟩
 rintro i m vs Hc ⟨rfl,hi,eD,sH,el,hP⟩;refine ⟨eD,?_⟩;by_cases bP:i<zs.length
 ·refine .inr ⟨js.go i Hc sH bP,fun v H' hy=>?_⟩
  obtain ⟨T,x,y,ev,nT,eH,hx⟩:=js.dW i Hc v H' sH hy;subst ev eH;refine ⟨T,x,y,rfl,.of aq,?_⟩;dsimp only;rw [au rfl];have sT:ah Hc (upd Hc T (.tup [x,y])):=fun b o e=>by rw [bG (fi e nT)];exact e
  refine step zs H1 hZ s1 D i x y (hx bP) _ _ (sH.trans sT) ⟨vs,sT _ _ eD⟩ fun w H3 s3 hp=>?_;have e3:=s3 _ _ (sT _ _ eD);have aS:∀b o,b≠D→H3 b=some o→upd H3 D (.lst (vs++[w])) b=some o:=fun b o nb e=>by rw [bG nb];exact e
  refine ⟨e3,by lia,zs.length-(i+1),by lia,rfl,bP,aq,gy (sH.trans (sT.trans s3)) nD,by simp [el],fun j v' e=>?_⟩
  by_cases hj:j<i;·exact mono D j v' Hc _ vs (hP j v' (by rw [ir (by lia)] at e;exact e)) eD fun b o nb e=>aS b o nb (s3 _ _ (sT _ _ e))
  ·have hj:j=i:=by have:=(cG.mp e).1;simp at this;lia
   subst hj;have e':v'=w:=by rw [gY (by lia),el,jE] at e;simpa using e.symm
   subst e';exact mono D _ _ H3 _ vs hp e3 aS
 ·have e:i=zs.length:=by lia
  subst e;exact .inl ⟨js.stop _ Hc sH (aO _),fin zs H1 hZ s1 D vs Hc hD sH el hP eD⟩
end L2
namespace My
open PySem L2
theorem PL(q:Int)(p r:Int×Int):dF q p r=dF q r p:=by
 unfold dF
 split
 ·rw [show p.1*r.2+r.1*p.2=r.1*p.2+p.1*r.2 by lia,show p.2*r.2=r.2*p.2 from iy ..]
 ·rw [Int.add_comm]
variable {q:Int}
theorem G3{B:Nat}{H:Hp}{v:V}{p:Int×Int}(h:aQ B H q v p.1 p.2):dF q p o1=p:=by
 obtain ⟨x,m⟩:=p;unfold dF o1;dsimp only at h ⊢;cases h with
 | bJ e l bx bm=>
  rw [au rfl];have hm:=l.pos;have e1:lowG x m=1:=by unfold lowG;rw [ar (by lia),l.vz];rfl
  unfold fc fe;rw [eQ,eQ,fE,jI,e1,qF,qF]
 | rem h0 h1 h2=>rw [ar (by lia),jI,lU h0 h1]
def gP(q:Int)(ps rs:aF):List (Int×Int):=(List.range (max ps.length rs.length)).map fun k=>dF q (ps.getD k o1) (rs.getD k o1)
theorem PM(q:Int)(ps rs:aF):gP q ps rs=gP q rs ps:=by unfold gP;rw [Nat.max_comm,show (fun k=>dF q (ps.getD k o1) (rs.getD k o1))=fun k=>dF q (rs.getD k o1) (ps.getD k o1) from funext fun k=>PL ..]
theorem vI(ps:aF):(aM ps).length≤ps.length:=by unfold aM;rw [lL];lia
theorem yr(q:Int)(ps rs:aF):(gP q ps rs).length=max ps.length rs.length:=by simp [gP]
theorem G4{ps rs:aF}{k:Nat}(h:k<max ps.length rs.length):(gP q ps rs)[k]?=some (dF q (ps.getD k o1) (rs.getD k o1)):=by unfold gP;rw [eS];simp [h]
end My
namespace L2
open PySem PySem.Spec PyProof.Rows
def vJ(K:ax)(l:Addr):It:=
  ⟨fun i H=>∃xs x,aX K H l xs∧xs[i]?=some x,
   fun i H v H'=>∃T x,H T=none∧v=.ref T∧H'=upd H T (.tup [.int (i:Int),x])∧∀xs,aX K H l xs→xs[i]?=some x,
   fun i H=>∃xs,aX K H l xs∧xs.length≤i⟩
variable {K:ax} {l:Addr}
theorem PN{P:Program}{w:World}{elts:List Expr}{k:Nat}{pos:Pos}{e it:Addr}(G5:e≠it):Turn P w K (.Tuple elts k pos) (vJ K l) [e,it] e
  (fun i h=>(∃old,IsEnum h e it (i:Int) old)∧h.IsListIter it l i) where
 mem:=by simp
 obj:=fun i h st b hb=>by
  obtain ⟨⟨old,he⟩,h1⟩:=st;simp only [dH,jF,jG] at hb;rcases hb with rfl | rfl;·exact ⟨_,he,fun v z=>by cases z⟩
  ·obtain ⟨o,e,c,d⟩:=h1
   exact ⟨o,e,fun v z=>by rw [d] at z;cases z⟩
 keep:=fun i h h' st k=>by obtain ⟨⟨old,he⟩,h1⟩:=st;exact ⟨⟨old,k _ (by simp) _ he⟩,h1.at fun o e=>k _ (by simp) o e⟩
 item:=by
  intro X hP hw hK hc i pins s σ H E I hf st hg;subst hP hw hK;obtain ⟨⟨old,he⟩,h1⟩:=st;obtain ⟨xs,x,iq,hx⟩:=hg;obtain ⟨ao,rv,p,_⟩:=I.list iq;obtain ⟨u,hu,ru⟩:=rv.get hx;refine wpAny_pyNext_enum_item he h1 p.isList (x:=u) (by simpa using hu) G5 fun h' g1 g2 g3 g4 g5=>⟨_,rfl,?_⟩
  refine wpAny_letOwnedTupleGo_enum g1 fun j6 q1 sb=>?_;have vD:H s.heap.objs.size=none:=I.ay.fresh (aO _);have lt:∀b o,s.heap.get? b=some o→b≠s.heap.objs.size:=fun b o e=>dZ (bK e);have keep:∀b o,b∉[e,it]→s.heap.get? b=some o→j6.get? b=some o:=fun b o nb e=>by simp only [dH,jF,jG,not_or] at nb;exact sb.extBut _ _ nb.1 (g5 b o nb.1 nb.2 e)
  have elt:e≠s.heap.objs.size:=lt _ _ he;have pT:=sb.extBut _ _ elt.symm g3;have jn:∀{b:Addr} {o:HO} (e:H b=some o),upd H s.heap.objs.size (.tup [.int (i:Int),x]) b=some o:=fun e=>by rw [bG (fi e vD)];exact e
  have ay:cJ X.prog X.w (upd H s.heap.objs.size (.tup [.int (i:Int),x])) j6:=fun b o e=>by
   by_cases hb:b=s.heap.objs.size
   ·subst hb
    rw [aq] at e;cases e;exact ⟨by show 2≤sizeLine;decide,[.int i s.toks,u],.cons ⟨_,rfl⟩ (.cons ru .nil),⟨_,pT,rfl,_,rfl⟩⟩
   ·rw [bG hb] at e
    refine (I.ay b o e).gL (fun c v dS q=>keep c v (fun m=>?_) q) (fun c q=>jn q) fun c xs q=>jn q;have nn:=(hf c m).1;rcases dS with rfl | dS;·rw [nn] at e;cases e
    ·rw [nn] at dS;cases dS
  have u1:Un (cE X.stack) [e,it] H (upd H s.heap.objs.size (.tup [.int (i:Int),x])) s.heap j6:=
   ⟨fun b o e n _ hx=>keep b o hx e,fun b o e n _ hx=>⟨o.slots,keep b o hx e⟩,fun b o e n hx=>by rw [bG (lt b o e)];exact n,fun b o e hx=>⟨o,keep b o hx e⟩,fun b xs e=>jn e,fun b o u e=>jn e,fun b ps e=>⟨#[],by rw [jn e];simp⟩⟩
  refine ⟨.ref s.heap.objs.size,upd H s.heap.objs.size (.tup [.int (i:Int),x]),I.jM (s':={s with heap:=j6,toks:=s.toks+1}) (ch:=[e,it]) rfl u1 ay I.bare (fun b hb=>?_),rfl,⟨_,x,vD,rfl,rfl,fun as ha=>by rw [I.xD ha iq];exact hx⟩,?_,fun b hb=>?_⟩
  ·obtain ⟨f0,f1,f2,f3,f4,f5⟩:=hf b hb
   exact ⟨f3,f1,f4,f5⟩
  ·refine ⟨⟨u,?_⟩,g2.extBut sb.extBut G5.symm⟩
   have z:((i+1:Nat):Int)=(i:Int)+1:=by lia
   rw [z];exact q1
  ·have nb:b≠s.heap.objs.size:=by
    simp only [dH,jF,jG] at hb;rcases hb with rfl | rfl;·exact lt _ _ he
    ·obtain ⟨o,e,_⟩:=h1;exact lt _ _ e
   rw [bG nb];exact (hf b hb).1
 done:=by
  intro X hP hw hK hc i pins s σ H E I hf st hg;subst hP hw hK;obtain ⟨⟨old,he⟩,h1⟩:=st;obtain ⟨xs,iq,hx⟩:=hg;obtain ⟨ao,rv,p,_⟩:=I.list iq;have hl:=rv.length;refine wpAny_pyNext_enum_end (I.ok.hd hc) he h1 p.isList (by simp;lia) fun h' g=>⟨rfl,?_⟩
  have keep:∀b o,b∉[e,it]→s.heap.get? b=some o→h'.get? b=some o:=fun b o nb e=>by simp only [dH,jF,jG,not_or] at nb;exact g b o nb.2 e
  have ay:cJ X.prog X.w H h':=fun b o e=>by
   refine (I.ay b o e).gL (fun c v dS q=>keep c v (fun m=>?_) q) (fun c q=>q) fun c xs q=>q;have nn:=(hf c m).1;rcases dS with rfl | dS;·rw [nn] at e;cases e
   ·rw [nn] at dS;cases dS
  have u1:Un (cE X.stack) [e,it] H H s.heap h':=
   ⟨fun b o e n _ hx=>keep b o hx e,fun b o e n _ hx=>⟨o.slots,keep b o hx e⟩,fun b o e n hx=>n,fun b o e hx=>⟨o,keep b o hx e⟩,fun b xs e=>e,fun b o u e=>e,fun b ps e=>⟨#[],by rw [e];simp⟩⟩
  refine I.jM (s':={s with heap:=h'}) (ch:=[e,it]) rfl u1 ay I.bare fun b hb=>?_;obtain ⟨f0,f1,f2,f3,f4,f5⟩:=hf b hb;exact ⟨f3,f1,f4,f5⟩
 self:=fun _ _ _ _ _ st h=>by obtain ⟨⟨old,he⟩,_⟩:=st;exact wpAny_pyIter_enum he h
theorem boot_enumerate:bootBuiltins "enumerate"=some (.type "enumerate"):=by decide +kernel
def PQ(K:ax)(ta:TA):TI:=fun σ H R=>ta σ H fun vs H1=>∃l,vs=[.ref l]∧(∃xs,aX K H1 l xs)∧R (vJ K l) H1
section
variable {X:Cx}
theorem G6{elts:List Expr}{k:Nat}{qS:Pos}{a:Expr}{ta:TA}{p pos:Pos}(hg:Gl X "enumerate")(hm:X.mg "enumerate"=none)(ha:PA X [a] ta)(hs:starEach [a] X.env=[(false,eval a X.env)]:=by rfl) :
  PI X (.Tuple elts k qS) (.Call (.Name "enumerate" p) [a] [] pos) (PQ X.K ta):=by
 intro pins s σ H R I h;refine Call_ (oj I hg hm boot_enumerate (uN (aB (ha pos pins s σ H _ I h) fun us s1 ⟨vs,H1,I1,r1,q1⟩=>?_) hs rfl));obtain ⟨l,e,⟨xs,iq⟩,q⟩:=q1;subst e;obtain ⟨u,rfl,ru⟩:=vals1 r1;cases ru;obtain ⟨ao,rv,p1,_⟩:=I1.list iq;refine call_enumerate_list p1.isList fun h' z1 z2 z3 z4=>?_;refine wpAny_pyIter_enum (s:={s1 with heap:=h'}) z1 ?_;refine ⟨_,_,_,_,H1,rfl,I1.kept (t':=s1.toks) z4,PN (Nat.succ_ne_self _),⟨⟨_,z1⟩,z2⟩,fun b hb=>?_,q⟩;have le:s1.heap.objs.size≤b:=by
  simp only [dH,jF,jG] at hb;rcases hb with rfl | rfl;·exact uY ..
  ·exact aO _
 exact I1.qT le (I1.ay.fresh le)
end
theorem G7{xs:List V}{g:TG}{tb:TS}{D:Ends}{σ:St}{H:Hp}(Pv:Nat→St→Hp→Prop)(h0:Pv 0 σ H)(hl:∀i σ H,Pv i σ H→aX K H l xs)
  (hs:∀(i:Nat) (x:V) σ H T,xs[i]?=some x→Pv i σ H→H T=none→g (.ref T) σ (upd H T (.tup [.int (i:Int),x])) fun σ2 H2=>tb {D with nx:=Pv (i+1),ct:=Pv (i+1),bk:=D.nx} σ2 H2) (hd:∀σ H,Pv xs.length σ H→D.nx σ H) :
  ∃W:Nat→Nat→St→Hp→Prop,(∃m,W 0 m σ H)∧∀i m σ H,W i m σ H→
   ((vJ K l).stop i H∧D.nx σ H)∨((vJ K l).go i H∧∃N:St→Hp→Prop,(∀σ' H',N σ' H'→∃m',m'<m∧W (i+1) m' σ' H')∧∀x H',(vJ K l).dW i H x H'→g x σ H' fun σ2 H2=>tb {D with nx:=N,ct:=N,bk:=D.nx} σ2 H2):=by
 refine ⟨fun i m σ H=>m=xs.length-i∧i≤xs.length∧Pv i σ H,⟨xs.length,by simp,bO _,h0⟩,?_⟩
 rintro i m σ H ⟨rfl,hi,p⟩;have q1:=hl i σ H p;by_cases bP:i<xs.length
 ·refine .inr ⟨⟨xs,xs[i],q1,by simp [bP]⟩,Pv (i+1),fun σ' H' p'=>⟨xs.length-(i+1),by lia,rfl,bP,p'⟩,fun v H' hy=>?_⟩
  obtain ⟨T,x,nT,rfl,rfl,hx⟩:=hy;exact hs i x σ H T (hx xs q1) p nT
 ·have e:i=xs.length:=by lia
  subst e;exact .inl ⟨⟨xs,q1,aO _⟩,hd σ H p⟩
def PR(K:ax):V→V→Hp→VK→Prop:=fun o i H Q=>∃p xs k v,o=.ref p∧i=.int k∧0≤k∧aX K H p xs∧cK xs k=some v∧Q v H
theorem PU{X:Cx}:E8 X (PR X.K):=by
 intro pins s σ H o i ov iv Q I ro ri h;obtain ⟨p,xs,k,z,rfl,rfl,h0,hq,he,q⟩:=h;cases ro;obtain ⟨t,rfl⟩:=ri;obtain ⟨ao,r,pl,hz⟩:=I.list hq;obtain ⟨j,h1,h2,h3,h4,h5⟩:=A4 he;obtain ⟨w,ew,ou⟩:=r.get h2;have hl:=r.length;have hn:=vh;have hj:k.toNat=j:=by rw [seqIndex_of h0 h5] at h1;exact Option.some.inj h1
 exact wpAny_getItem_list pl.isList h0 (by lia) (by rw [hj];simpa using ew) ⟨z,H,I,ou,q⟩
end L2
namespace My
open PySem L2
theorem fZ:∀(n:Nat) (f:Nat→Int),aK (n+1) f=aK n f+f n
 | 0,f=>by show f 0+0=0+f 0;lia
 | n+1,f=>by show f 0+aK (n+1) (fun i=>f (i+1))=(f 0+aK n fun i=>f (i+1))+f (n+1);rw [fZ n];lia
def cn(m:Nat)(t:Int)(u:Nat→Int)(i k:Nat):Int:=aK m fun j=>if i+j=k then t*u j else 0
def bL(n m:Nat)(f g:Nat→Int)(k:Nat):Int:=aK n fun i=>cn m (f i) g i k
def oZ(ts us:List Int):List Int:=(List.range (ts.length+us.length-1)).map fun k=>bL ts.length us.length (fun i=>ts.getD i 0) (fun j=>us.getD j 0) k
def PV:Sp:=fun vs H Q _=>∃(a b:Addr) (ts us:List Int),vs=[.ref a,.ref b]∧H a=some (.lst (ts.map V.int))∧H b=some (.lst (us.map V.int))∧(∀t∈ts,aU t)∧(∀t∈us,aU t)∧ts.length≤100∧us.length≤100 ∧
 ∀(c:Addr) (H':Hp),ah H H'→H c=none→H' c=some (.lst ((oZ ts us).map V.int))→Q (.ref c) H'
theorem PX{N x:Nat}{A:Nat→Int}{d:Int}(hx:x<N):(((List.range N).map A).map V.int).set x (.int (A x+d))=((List.range N).map fun k=>A k+if x=k then d else 0).map V.int:=by
 refine xq fun i=>?_;by_cases hi:i<N
 ·by_cases z:x=i
  ·subst z
   rw [nH (by simpa using hx)]
   simp [hx]
  ·rw [nI z]
   simp [hi,z]
 ·rw [jH (by simp;lia),jH (by simp;lia)]
variable {B:Nat} {x:Int}
theorem aU.yt(hB:B≤10 ^ 300)(h:x.natAbs≤2*B*B):aU x:=by have z:2*B*B≤2*10 ^ 300*10 ^ 300:=cI (gj 2 hB) hB;exact i6 (ai h z) (by decide +kernel)
def G8(f:Int→Int×Int→Int×Int→Int×Int):Sp:=fun vs H Q _=>∃(td:Addr) (q:Int) (v u:V) (p r:Int×Int) (B:Nat),vs=[.ref td,v,u]∧dA H td q∧aD q∧aQ B H q v p.1 p.2∧aQ B H q u r.1 r.2∧1000≤B∧B≤10 ^ 300∧∀(v':V) (H':Hp),ah H H'→aQ (2*B*B) H' q v' (f q p r).1 (f q p r).2→Q v' H'
def dj(q T D:Int):Int×Int:=if q=0 then (fc T D,fe T D) else (T % q,1)
variable {q T D:Int}
theorem j8(ok:bH q D):aE q (dj q T D) (T,D):=by
 unfold dj aE;by_cases z:q=0
 ·subst z
  have hD:=ok.1 rfl;have e:=(Bw (a:=T) (show D≠0 by lia)).2.1
  rw [au rfl];exact ⟨0,by dsimp only;rw [e];lia⟩
 ·rw [ar z,ok.2 z]
  obtain ⟨w,ew⟩:=vA T q;exact ⟨-w,by dsimp only;rw [gk];lia⟩
def Canon(q:Int)(p:Int×Int):Prop:=(q=0→il p.1 p.2)∧(q≠0→p.2=1∧0≤p.1∧p.1<q)
variable {H:Hp} {v:V} {m:Int}
theorem aQ.canon(h:aQ B H q v x m):Canon q (x,m):=by
 cases h with
 | bJ e l bx bm=>exact ⟨fun _=>l,fun z=>absurd rfl z⟩
 | rem h0 h1 h2=>exact ⟨fun z=>by lia,fun _=>⟨rfl,h0,h1⟩⟩
variable {r:Int×Int}
theorem o4(hq:aD q){p:Int×Int}(h1:Canon q p)(h2:Canon q r)(e:aE q p r):p=r:=by
 obtain ⟨x,m⟩:=p;obtain ⟨y,n⟩:=r;unfold aE at e;dsimp only at e;by_cases z:q=0
 ·subst z
  have l1:=h1.1 rfl;have l2:=h2.1 rfl;have e:=fN.mp e;obtain ⟨a,b⟩:=Gq l1 l2 (show x*n=y*m by lia)
  dsimp only at a b;rw [a,b]
 ·obtain ⟨a1,a2,a3⟩:=h1.2 z
  obtain ⟨b1,b2,b3⟩:=h2.2 z;dsimp only at a1 a2 a3 b1 b2 b3;subst a1 b1;rw [eQ,eQ] at e;obtain ⟨k,ek⟩:=e;have:k=0:=by
   rcases Int.lt_trichotomy k 0 with h | h | h
   ·have:=jC (show k≤-1 by lia) (show 0≤q by lia)
    lia
   ·exact h
   ·have:=jC (show 1≤k by lia) (show 0≤q by lia)
    lia
  rw [this,dQ] at ek;rw [show x=y by lia]
theorem j9(hq:aD q)(ok:bH q D):Canon q (dj q T D):=by
 unfold dj;refine ⟨fun z=>?_,fun z=>?_⟩
 ·rw [au z]
  exact (Bw (a:=T) (show D≠0 by have:=ok.1 z;lia)).1
 ·rw [ar z]
  have q2:0<q:=by rcases hq with h | h <;> lia
  exact ⟨rfl,dk _ z,du _ q2⟩
theorem yu(hq:aD q)(ok:bH q D)(b1:1000≤B)(bt:T.natAbs≤B)(bd:D.natAbs≤B):(dj q T D).1.natAbs≤B∧(dj q T D).2.natAbs≤B:=by
 unfold dj;by_cases z:q=0
 ·rw [au z]
  have hD:=ok.1 z;obtain ⟨u,d,e1,e2,l,l1,l2⟩:=Gg (a:=T) hD;unfold fc fe;dsimp only;rw [e1,e2];exact ⟨ai l1 bt,ai l2 bd⟩
 ·rw [ar z]
  have q2:0<q∧q≤997:=by rcases hq with h | h <;> lia
  have:=dk T z;have:=du T q2.1;exact ⟨by dsimp only;lia,by dsimp only;lia⟩
variable {B':Nat}
theorem aQ.kZ(h:aQ B H q v x m)(bx:x.natAbs≤B')(bm:m.natAbs≤B'):aQ B' H q v x m:=by
 cases h with
 | bJ e l _ _=>exact .bJ e l bx bm
 | rem h0 h1 h2=>exact .rem h0 h1 h2
theorem Canon.bot{p:Int×Int}(h:Canon q p):bH q p.2:=⟨fun z=>(h.1 z).pos,fun z=>(h.2 z).1⟩
theorem BQ(hq:aD q){p:Int×Int}(h1:Canon q p)(h2:Canon q r):Canon q (dF q p r)∧aE q (dF q p r) (p.1*r.2+r.1*p.2,p.2*r.2):=by
 have e:dF q p r=dj q (p.1*r.2+r.1*p.2) (p.2*r.2):=by
  unfold dF dj;by_cases z:q=0;·rw [au z,au z]
  ·rw [ar z,ar z,(h1.2 z).1,(h2.2 z).1,eQ,eQ]
 rw [e];exact ⟨j9 hq (h1.bot.mul h2.bot),j8 (h1.bot.mul h2.bot)⟩
theorem yv(hq:aD q){p:Int×Int}(h1:Canon q p)(h2:Canon q r):Canon q (mulQ q p r)∧aE q (mulQ q p r) (p.1*r.1,p.2*r.2):=by have e:mulQ q p r=dj q (p.1*r.1) (p.2*r.2):=rfl;rw [e];exact ⟨j9 hq (h1.bot.mul h2.bot),j8 (h1.bot.mul h2.bot)⟩
theorem G9{U:Int}(hq:aD q)(ok:bH q D){p:Int×Int}(h1:Canon q p)(h2:Canon q r)(w1:aE q p (T,D))(w2:aE q r (U,D)):dF q p r=dj q (T+U) D:=by obtain ⟨c,w⟩:=BQ hq h1 h2;refine o4 hq c (j9 hq ok) ?_;refine aE.trans ?_ (j8 (T:=T+U) ok).symm ok;refine aE.trans w ?_ (h1.bot.mul h2.bot);obtain ⟨k1,e1⟩:=w1;obtain ⟨k2,e2⟩:=w2;dsimp only at e1 e2;exact ⟨k1*r.2+k2*p.2,by dsimp only;grind⟩
variable {b:Int}
theorem bH.nz(hq:aD q)(h:bH q b):¬q∣b:=fun hd=>by
 by_cases z:q=0
 ·subst z
  have:=h.1 rfl;have:=fN.mp hd;lia
 ·rw [h.2 z] at hd
  have q2:2≤q:=by rcases hq with h | h <;> lia
  have:=qD (by decide) hd
  lia
theorem lcm_dvd(hb:1≤b)(hm:1≤m)(h1:b∣D)(h2:m∣D):b / (Int.gcd b m:Int)*m∣D:=by
 have gp:=oR (a:=b) (b:=m) (by lia)
 obtain ⟨b',eb⟩:=uV (a:=b) (b:=m)
 have g0:(Int.gcd b m:Int)≠0:=by lia
 have gb:b / (Int.gcd b m:Int)=b':=by
  conv=>lhs;lhs;rw [eb]
  exact lT _ g0
 have z:((Int.lcm b m:Nat):Int)∣D:=Int.coe_lcm_dvd h1 h2
 have e:((Int.lcm b m:Nat):Int)=b'*m:=by
  have h:=Int.gcd_mul_lcm b m
  have h2:((Int.gcd b m:Nat):Int)*((Int.lcm b m:Nat):Int)=((b*m).natAbs:Int):=by
   rw [←Int.natCast_mul,h,bq]
  have bm:0<b*m:=Int.mul_pos (by lia) (by lia)
  have h3:((b*m).natAbs:Int)=b*m:=by lia
  rw [h3] at h2
  refine Int.eq_of_mul_eq_mul_left g0 ?_
  rw [h2,←kA,←eb]
 rw [gb,←e]
 exact z
structure G_ (q:Int) (ps:aF) (ts:List Int) (b D:Int) (B:Nat):Prop where
 len:ts.length=ps.length
 ok:bH q b
 dvd:b∣D
 each:∀i,i<ps.length→ts.getD i 0*(ps.getD i o1).2=(ps.getD i o1).1*b∧(ts.getD i 0).natAbs≤B*D.natAbs
def PY:Sp:=fun vs H Q _=>∃(a:Addr) (ps:aF) (B:Nat) (D:Int),vs=[.ref a]∧aN B H 0 a ps∧ps.length≤100∧bH 0 D∧(∀p∈ps,p.2∣D)∧B≤10 ^ 150∧D.natAbs≤10 ^ 150∧∀(v:V) (H':Hp) (ts:List Int) (b:Int),ah H H'→GA H H' v ts b→G_ 0 ps ts b D B→Q v H'
def PZ(C:Addr):Sp:=fun vs H Q _=>∃(z a:Addr) (q:Int) (ps:aF) (B:Nat) (D:Int),vs=[.ref z,.ref a]∧dE C H z q∧aD q∧aN B H q a ps∧ps.length≤100∧bH q D∧(∀p∈ps,p.2∣D)∧B≤10 ^ 150∧1000≤B∧D.natAbs≤10 ^ 150∧∀(v:V) (H':Hp) (ts:List Int) (b:Int),ah H H'→GA H H' v ts b→G_ q ps ts b D B→Q v H'
theorem aU.Hq(h:x.natAbs≤10 ^ 150):aU x:=i6 h (by decide +kernel)
theorem vK(h:b∣D)(hD:D≠0):b.natAbs≤D.natAbs:=Nat.le_of_dvd (gh.mpr hD) (Az.mpr h)
theorem P1(ok:bH q D):(dj q T D).2∣D:=by
 unfold dj;by_cases z:q=0
 ·rw [au z]
  have hD:=ok.1 z;have e:lowG T D=(Int.gcd T D:Int):=by unfold lowG;rw [ar (by lia)]
  have gp:=oR (a:=T) (b:=D) (by lia)
  unfold fe;dsimp only;rw [e,uO _ (by lia)]
  exact Int.ediv_dvd_of_dvd (nS ..)
 ·rw [ar z]
  exact nY D
theorem P2{q b D:Int}:∀(n:Nat) (f g:Nat→Int),(∀i,i<n→aE q (f i,b) (g i,D))→aE q (aK n f,b) (aK n g,D)
 | 0,f,g,_=>⟨0,by show (0:Int)*D-0*b=_;simp⟩
 | n+1,f,g,h=>by
  obtain ⟨k1,e1⟩:=h 0 (by lia)
  obtain ⟨k2,e2⟩:=P2 n (fun i=>f (i+1)) (fun i=>g (i+1)) (fun i hi=>h (i+1) (by lia))
  refine ⟨k1+k2,?_⟩;show (f 0+aK n fun i=>f (i+1))*D-(g 0+aK n fun i=>g (i+1))*b=_;dsimp only at e1 e2;grind
theorem rQ{M:Nat}:∀(n:Nat) (f:Nat→Int),(∀i,i<n→(f i).natAbs≤M)→(aK n f).natAbs≤n*M
 | 0,f,_=>by simp [aK]
 | n+1,f,h=>by
  have a:=h 0 (by lia)
  have b:=rQ n (fun i=>f (i+1)) (fun i hi=>h (i+1) (by lia))
  show (f 0+aK n fun i=>f (i+1)).natAbs≤_;rw [Nat.succ_mul];lia
variable {n k:Nat} {f g:Nat→Int}
theorem P4{M:Nat}{m:Nat}(h:∀i j,i<n→j<m→(f i*g j).natAbs≤M):(bL n m f g k).natAbs≤n*(m*M):=by
 unfold bL;refine rQ n _ fun i hi=>?_;unfold cn;refine rQ m _ fun j hj=>?_;by_cases z:i+j=k;·rw [au z];exact h i j hi hj
 ·rw [ar z];exact bO _
def B2:Nat:=10 ^ 290
def cU(q:Int)(n m:Nat)(f g:Nat→Int)(D:Int)(N:Nat):List (Int×Int):=(List.range N).map fun k=>dj q (bL n m f g k) D
variable {ps:aF}
theorem aN.kZ{a:Addr}(h:aN B H q a ps)(hb:∀p∈ps,p.1.natAbs≤B'∧p.2.natAbs≤B'):aN B' H q a ps:=by obtain ⟨vs,e,l,k⟩:=h;refine ⟨vs,e,l,fun i v p h1 h2=>?_⟩;have b:=hb p (uQ h2);exact (k i v p h1 h2).kZ b.1 b.2
theorem Hr{ps:aF}{x:Int×Int}:∀n,n≤ps.length→da (ps++[x]) n=da ps n
 | 0,_=>rfl
 | n+1,h=>by
  have e:(ps++[x]).getD n o1=ps.getD n o1:=by rw [d3,d3,ir (by lia)]
  show (if ((ps++[x]).getD n o1).1=0 then da (ps++[x]) n else n+1)=if (ps.getD n o1).1=0 then da ps n else n+1
  rw [e,Hr n (by lia)]
theorem Hs{x:Int×Int}(h:x.1=0):aM (ps++[x])=aM ps:=by
 unfold aM;rw [iu,As];have e:(ps++[x]).getD ps.length o1=x:=by
  rw [d3,gY (by lia),jE]
  rfl
 have e2:da (ps++[x]) (ps.length+1)=da ps ps.length:=by
  show (if ((ps++[x]).getD ps.length o1).1=0 then da (ps++[x]) ps.length else ps.length+1)=_
  rw [e,au h,Hr _ (aO _)]
 rw [e2,List.take_append_of_le_length (BP ps _)]
theorem P5:(dj q 0 D).1=0:=by
 unfold dj fc
 split
 ·show Int.fdiv 0 (lowG 0 D)=0
  exact Int.zero_fdiv _
 ·exact Int.zero_emod q
theorem Ht{m:Nat}(h:n+m≤k+1):bL n m f g k=0:=by
 unfold bL;have:∀i,i<n→cn m (f i) g i k=0:=fun i hi=>by
  unfold cn;refine Eq.trans (di (g:=fun _=>0) fun j hj=>?_) (iN m);have:¬i+j=k:=by lia
  rw [ar this]
 rw [di this,iN]
theorem P6{m:Nat}:aM (cU q n m f g D (n+m))=aM (cU q n m f g D (n+m-1)):=by
 by_cases z:n+m=0;·rw [z]
 ·obtain ⟨N,e⟩:∃N,n+m=N+1:=⟨n+m-1,by lia⟩
  rw [e,qH];unfold cU;rw [List.range_succ,nZ];refine Hs ?_;show (dj q (bL n m f g N) D).1=0;rw [Ht (by lia)]
  exact P5
def P7(K:ax):Sp:=fun vs H Q _=>∃(P a td:Addr) (ns:List Int) (q aS:Int) (F:Nat),vs=[.ref P,.ref td,.int aS]∧cO H P a∧aX K (er P H) a (ns.map V.int)∧dA (er P H) td q∧aD q∧1≤aS∧aS≤(F:Int)∧4≤F∧F≤10 ^ 20∧∀(v:V) (x m:Int) (H':Hp),aI P H H'→cO H' P a→aQ F (er P H') q v x m→Q v H'
variable {F:Nat}
theorem aQ.BR(hF:1≤F)(h:aQ F H q v x m):bH q m∧m.natAbs≤F:=by
 refine ⟨h.canon.bot,?_⟩;cases h with
 | bJ e l bx bm=>exact bm
 | rem h0 h1 h2=>exact hF
theorem aN.BR(hF:1≤F){a:Addr}(h:aN F H q a ps):∀p∈ps,bH q p.2∧p.2.natAbs≤F:=fun p hp=>by
 obtain ⟨vs,e,l,k⟩:=h;obtain ⟨i,hi,ei⟩:=lW hp;have dX:i<vs.length:=by lia
 exact (k i vs[i] p (by simp [dX]) (by rw [←ei];simp [hi])).BR hF
theorem P8{wi:TI}{ρ:St→St}{te:TE}{σ:St}{Q:VK}{P a:Addr}(hn:n<sizeLine)
  (fK:∀R:It→Hp→Prop,(∀(H1:Hp),aI P H H1→cO H1 P a→R (kL 0 n) H1)→wi σ H R)
  (Pr:Addr→Nat→V→Hp→Prop) (mono:∀D i y Hc H' ys,Pr D i y Hc→Hc D=some (.lst ys)→D≠P→(∀b o,b≠D→b≠P→Hc b=some o→H' b=some o)→Pr D i y H')
  (step:∀(D:Addr) (i:Nat),i<n→∀(Hc:Hp) (R:VK),aI P H Hc→cO Hc P a→(∃ys,Hc D=some (.lst ys))→D≠P→(∀y H3,aI P Hc H3→cO H3 P a→Pr D i y H3→R y H3)→te (some (.int (0+(i:Int)))::ρ σ) Hc R)
  (fin:∀(D:Addr) (ys:List V) (Hc:Hp),D≠P→aI P H Hc→cO Hc P a→ys.length=n→(∀(i:Nat) (y:V),ys[i]?=some y→Pr D i y Hc)→Hc D=some (.lst ys)→Q (.ref D) Hc):jV wi ρ (fun _ H Q=>Q true H) te σ H Q:=by
 refine fK _ fun H1 s1 p1=>?_;intro D nD;have nP:=p1.ne nD;refine ⟨fun i m ys Hc=>m=n-i∧i≤n∧Hc D=some (.lst ys)∧aI P H1 Hc∧cO Hc P a∧ys.length=i∧∀j y,ys[j]?=some y→Pr D j y Hc,⟨_,rfl,bO _,aq,(aI.refl H1).but nD,p1.upd nP,rfl,fun j y e=>by simp at e⟩,?_⟩
 rintro i m ys Hc ⟨rfl,hi,eD,sH,pc,el,hP⟩;refine ⟨eD,?_⟩;by_cases bP:i<n
 ·refine .inr ⟨bP,fun x H' hy=>?_⟩
  obtain ⟨rfl,rfl⟩:=hy;rw [au rfl];refine step D i (by lia) _ _ (s1.trans sH) pc ⟨ys,eD⟩ nP fun y H3 s3 p3 hp=>?_
  have e3:=s3.at nP eD;refine ⟨e3,by lia,n-(i+1),by lia,rfl,bP,aq,(sH.trans s3).but nD,p3.upd nP,by simp [el],fun j y' e=>?_⟩
  have aS:∀b o,b≠D→b≠P→H3 b=some o→upd H3 D (.lst (ys++[y])) b=some o:=fun b o nb _ e=>by rw [bG nb];exact e
  by_cases hj:j<i
  ·have e':ys[j]?=some y':=by rw [ir (by lia)] at e;exact e
   refine mono D j y' H' _ ys (hP j y' e') eD nP fun b o nb np e=>?_;exact aS b o nb np (s3.at np e)
  ·have hj:j=i:=by have:=(cG.mp e).1;simp at this;lia
   subst hj;have e':y'=y:=by rw [gY (by lia),el,jE] at e;simpa using e.symm
   subst e';exact mono D _ _ H3 _ ys hp e3 nP aS
 ·have e:i=n:=by lia
  subst e;exact .inl ⟨aO _,fin D ys Hc nP (s1.trans sH) pc el hP eD⟩
theorem HA{M:Nat}:∀(n:Nat) (f:Nat→Int),(∀i,i<n→(f i).natAbs≤M)→(aK n f).natAbs≤n*M
 | 0,_,_=>by show (0:Int).natAbs≤_;simp
 | n+1,f,h=>by rw [fZ,Nat.succ_mul];exact ai (u4 ..) (n_ (HA n f fun i hi=>h i (by lia)) (h n (by lia)))
end My
namespace L2
open PySem PySem.Spec PyProof.Rows
section
variable {X:Cx} {tg:Expr}
def rR(lo:Int)(n:Nat):It:=⟨fun i _=>i<n,fun i H x H'=>H'=H∧x=.int (lo-i),fun i _=>n≤i⟩
theorem P9{P:Program}{w:World}{K:ax}(it:Addr)(lo:Int)(n:Nat):Turn P w K tg (rR lo n) [it] it (fun i h=>IsRangeIter h it (lo+(i:Nat)*(-1)) ((n:Int)-(i:Nat)) (-1)) where
 mem:=by simp
 obj:=fun i h st b hb=>by
  have e:b=it:=by simpa using hb
  subst e;exact ⟨_,st,fun v z=>by have z':Data.fields _=Data.cell v:=z;cases z'⟩
 keep:=fun i h h' st k=>k it (by simp) _ st
 item:=by
  intro X hP hw hK hc i pins s σ H E I hf st hg;subst hP hw hK;obtain ⟨f0,f1,f2,f3,f4,f5⟩:=hf it (by simp)
  have W:=Walks.range (prog:=X.prog) (w:=X.w) (I.ok.hd hc) it lo (-1) n;refine W.item i s _ _ hg st fun v h' tk hv i8 kk=>?_;obtain ⟨t,rfl⟩:=hv;have I1:Inv X pins σ H {s with heap:=h',toks:=tk}:=I.turned (fun b o hb e=>kk b o (by simpa using hb) e) f0 f1 f3 f4 f5
  refine ⟨_,rfl,xM (s:={s with heap:=h',toks:=tk}) (n:="range_iterator") i8 rfl rfl (by decide) ⟨.int (lo-i),H,I1,⟨t,?_⟩,⟨rfl,rfl⟩,i8,fun b hb=>(hf b hb).1⟩⟩
  rw [show lo+(i:Int)*(-1)=lo-i by lia]
 done:=by
  intro X hP hw hK hc i pins s σ H E I hf st hg;subst hP hw hK;obtain ⟨f0,f1,f2,f3,f4,f5⟩:=hf it (by simp)
  exact wpAny_pyNext_range_end (I.ok.hd hc) st (by have:n≤i:=hg;lia) fun h' eb=>⟨rfl,I.turned (t':=s.toks) (fun b o hb e=>eb b o hb e) f0 f1 f3 f4 f5⟩
 self:=fun _ _ _ _ _ st h=>wpAny_pyIter_rangeiter st h
variable {σ:St} {H:Hp} {lo:Int}
theorem P_{pins:aZ}{s:Shared}{R:It→Hp→Prop}{E:bV}{hi:Int}{t u v:Tok}{tk:Nat}(I:Inv X pins σ H s)(Qa:Builtin.Range.small lo hi (-1)=true)
  (q:R (rR lo (lo-hi).toNat) H):wpAny (model X.prog X.w) X.A (pyIter (.ref s.heap.objs.size)) (AN X pins σ tg R) E {s with heap:=s.heap.push {cls:=.type "range",data:=.fields #[.int lo t,.int hi u,.int (-1) v]},toks:=tk}:=by
 refine wpAny_pyIter_range (IsRange.new ..) Qa ?_;have I1:Inv X pins σ H {s with heap:=s.heap.push {cls:=.type "range",data:=.fields #[.int lo t,.int hi u,.int (-1) v]},toks:=tk}:=I.kept fun b o e=>de _ e
 refine ⟨(s.heap.push {cls:=.type "range",data:=.fields #[.int lo t,.int hi u,.int (-1) v]}).objs.size,[(s.heap.push {cls:=.type "range",data:=.fields #[.int lo t,.int hi u,.int (-1) v]}).objs.size],_,_,H,rfl,
  I1.kept (t':=tk) fun b o e=>de _ e,P9 _ lo (lo-hi).toNat,?_,fun b hb=>?_,q⟩
 ·have e1:lo+((0:Nat):Int)*(-1)=lo:=by simp
  have e2:(((lo-hi).toNat:Nat):Int)-((0:Nat):Int)=Builtin.Range.rangeSize lo hi (-1):=by
   unfold Builtin.Range.rangeSize;rw [ar (by decide)]
   split
   ·rw [show -(-1:Int)=1 from rfl,Int.ediv_one];lia
   ·lia
  show IsRangeIter _ _ (lo+((0:Nat):Int)*(-1)) ((((lo-hi).toNat:Nat):Int)-((0:Nat):Int)) (-1);rw [e1,e2];exact gg _ rfl
 ·have e:b=(s.heap.push {cls:=.type "range",data:=.fields #[.int lo t,.int hi u,.int (-1) v]}).objs.size:=by simpa using hb
  subst e;exact I1.qT (aO _) (I1.ay.fresh (aO _))
theorem small_down{a b:Int}(h1:-(2 ^ 62)≤a)(h2:a<2 ^ 62)(h3:-(2 ^ 62)≤b)(h4:b<2 ^ 62):Builtin.Range.small a b (-1)=true:=by
 have e:Builtin.Range.rangeSize a b (-1)=if a>b then a-b else 0:=by
  unfold Builtin.Range.rangeSize;rw [ar (by decide)]
  split
  ·rw [show -(-1:Int)=1 from rfl,Int.ediv_one];lia
  ·rfl
 have f:∀{x:Int},-(2 ^ 63)≤x→x<2 ^ 63→Builtin.Range.rangeFitsLong x=true:=fun{x} h1 h2=>by unfold Builtin.Range.rangeFitsLong;simp;lia
 unfold Builtin.Range.small;rw [e,f (x:=a) (by lia) (by lia),f (x:=b) (by lia) (by lia),f (x:=-1) (by decide) (by decide),f (x:=if a>b then a-b else 0) (by split <;> lia) (by split <;> lia)]
 simp;exact .inr (f (by lia) (by lia))
def Qb(ta:TA):TI:=fun σ H R=>ta σ H fun vs H1=>∃i j:Int,vs=[.int i,.int j,.int (-1)]∧(-(2 ^ 62)≤i∧i<2 ^ 62∧-(2 ^ 62)≤j∧j<2 ^ 62)∧R (rR i (i-j).toNat) H1
theorem Qc{a b c:Expr}{ta:TA}{p pos:Pos}(hg:Gl X "range")(hm:X.mg "range"=none)(ha:PA X [a,b,c] ta)(hs:starEach [a,b,c] X.env=[(false,eval a X.env),(false,eval b X.env),(false,eval c X.env)]:=by rfl)(jS:starEach [b,c] X.env=[(false,eval b X.env),(false,eval c X.env)]:=by rfl) :
  PI X tg (.Call (.Name "range" p) [a,b,c] [] pos) (Qb ta):=by
 intro pins s σ H R I h;refine Call_ (oj I hg hm boot_range (uN (aB (ha pos pins s σ H _ I h) fun us s1 ⟨vs,H1,I1,r1,q1⟩=>?_) (by rw [hs,jS]) (by rw [jS];rfl)))
 obtain ⟨i,j,e,⟨q1,q2,q3,q4⟩,q⟩:=q1;subst e;cases r1 with
 | cons r rr=>
  cases rr with
  | cons r' rr=>
   cases rr with
   | cons r3 rr=>
    cases rr;obtain ⟨t,rfl⟩:=r;obtain ⟨t',rfl⟩:=r';obtain ⟨t3,rfl⟩:=r3;refine call_range_3 (by decide) (P_ I1 (small_down q1 q2 q3 q4) q) (.inl ?_)
    have z:decide ((if ((-1:Int) == 0)=true then 0 else (-1:Int).natAbs.log2 / 30+1)>300)=false:=by decide +kernel
    unfold Builtin.divisionGoesByPylong;dsimp only;rw [z];rfl
theorem Qd{n:Nat}{g:TG}{tb:TS}{D:Ends}(Pv:Nat→St→Hp→Prop)(h0:Pv 0 σ H)
  (hs:∀i σ H,i<n→Pv i σ H→g (.int (lo-i)) σ H fun σ2 H2=>tb {D with nx:=Pv (i+1),ct:=Pv (i+1),bk:=D.nx} σ2 H2) (hd:∀σ H,Pv n σ H→D.nx σ H) :
  ∃W:Nat→Nat→St→Hp→Prop,(∃m,W 0 m σ H)∧∀i m σ H,W i m σ H→
   ((rR lo n).stop i H∧D.nx σ H)∨((rR lo n).go i H∧∃N:St→Hp→Prop,(∀σ' H',N σ' H'→∃m',m'<m∧W (i+1) m' σ' H')∧∀x H',(rR lo n).dW i H x H'→g x σ H' fun σ2 H2=>tb {D with nx:=N,ct:=N,bk:=D.nx} σ2 H2):=by
 refine ⟨fun i m σ H=>m=n-i∧i≤n∧Pv i σ H,⟨n,by simp,bO _,h0⟩,?_⟩
 rintro i m σ H ⟨rfl,hi,p⟩;by_cases bP:i<n
 ·refine .inr ⟨bP,Pv (i+1),fun σ' H' p'=>⟨n-(i+1),by lia,rfl,bP,p'⟩,fun x H' y=>?_⟩
  obtain ⟨e,y⟩:=y;subst e y;exact hs i σ _ bP p
 ·have e:i=n:=by lia
  subst e;exact .inl ⟨aO _,hd σ H p⟩
end
theorem Qe{X:Cx}{K:ax}{e:Expr}{f:Str}{pos:Pos}{ta:TE}(he:PE X e ta)(hb:attributeBase e f X.env (eval e X.env)=eval e X.env)(hK:X.K=K:=by rfl):PE X (.Attribute e f pos) (Fw K ta f):=by subst hK;exact oB he hb
end L2
namespace My
open PySem L2
def Cg(q a b:Int):Prop:=q∣a-b
variable {q:Int}
theorem Cg.refl(a:Int):Cg q a a:=⟨0,by lia⟩
variable {b:Int}
theorem Cg.of_eq{a:Int}(h:a=b):Cg q a b:=h▸Cg.refl a
theorem Cg.symm{a:Int}(h:Cg q a b):Cg q b a:=by obtain ⟨k,e⟩:=h;exact ⟨-k,by rw [gk];lia⟩
variable {c:Int}
theorem Cg.trans{a:Int}(h1:Cg q a b)(h2:Cg q b c):Cg q a c:=by obtain ⟨k,e⟩:=h1;obtain ⟨l,e'⟩:=h2;exact ⟨k+l,by rw [jD];lia⟩
variable {d:Int}
theorem Cg.add{a:Int}(h1:Cg q a b)(h2:Cg q c d):Cg q (a+c) (b+d):=by obtain ⟨k,e⟩:=h1;obtain ⟨l,e'⟩:=h2;exact ⟨k+l,by rw [jD];lia⟩
theorem Cg.sub{a:Int}(h1:Cg q a b)(h2:Cg q c d):Cg q (a-c) (b-d):=by obtain ⟨k,e⟩:=h1;obtain ⟨l,e'⟩:=h2;exact ⟨k-l,by rw [Int.mul_sub];lia⟩
theorem Cg.mulL{a:Int}(c:Int)(h:Cg q a b):Cg q (c*a) (c*b):=by obtain ⟨k,e⟩:=h;exact ⟨c*k,by rw [←Int.mul_sub,e];grind⟩
theorem Cg.mulR{a:Int}(c:Int)(h:Cg q a b):Cg q (a*c) (b*c):=by rw [iy a,iy b];exact h.mulL c
theorem gQ(q a:Int):Cg q (a % q) a:=⟨-(a / q),by have:=Int.mul_ediv_add_emod a q;rw [gk];lia⟩
theorem Cg.nz{a:Int}(h:Cg q a b)(n:¬q∣b):¬q∣a:=fun d=>n (by
 have:b=a-(a-b):=by lia
 rw [this];exact Int.dvd_sub d h)
theorem BS{q:Int}:∀{n:Nat} {f g:Nat→Int},(∀i,i<n→Cg q (f i) (g i))→Cg q (aK n f) (aK n g)
 | 0,_,_,_=>Cg.refl _
 | n+1,f,g,h=>by unfold aK;exact (h 0 (by lia)).add (BS fun i hi=>h (i+1) (by lia))
variable {B:Nat}
theorem BU{a:Int}(hq:aD q)(b1:1000≤B)(h:a.natAbs≤B):(a % q).natAbs≤B:=by
 rcases hq with rfl | ⟨h2,h3,_⟩;·rw [Int.emod_zero];exact h
 ·have:=dk a (show q≠0 by lia)
  have:=du a (show 0<q by lia)
  lia
theorem iO(t:Int)(u:Nat→Int)(i k:Nat):∀m,cn m t u i k=if i≤k∧k<i+m then t*u (k-i) else 0
 | 0=>by
  rw [ar (by lia)]
  rfl
 | m+1=>by
  have e:cn (m+1) t u i k=cn m t u i k+if i+m=k then t*u m else 0:=by unfold cn;rw [fZ]
  rw [e,iO t u i k m];by_cases h:i+m=k
  ·rw [ar (by lia),au h,au (by lia),show k-i=m by lia]
   lia
  ·rw [ar h]
   by_cases h2:i≤k∧k<i+m;·rw [au h2,au (by lia)];lia
   ·rw [ar h2,ar (by lia)];lia
def convS(s n m:Nat)(f g:Nat→Int)(k:Nat):Int:=aK n fun i=>cn m (f i) g (s+i) k
theorem Qf(n m:Nat)(f g:Nat→Int)(k:Nat):convS 0 n m f g k=bL n m f g k:=by unfold convS bL;exact di fun i _=>by rw [Nat.zero_add]
theorem Qg(s n m:Nat)(f g:Nat→Int)(k:Nat):convS s (n+1) m f g k=cn m (f 0) g s k+convS (s+1) n m (fun i=>f (i+1)) g k:=by unfold convS;rw [aK];exact fL (_ + ·) (di fun i _=>by rw [show s+(i+1)=s+1+i by lia])
theorem Qh(c t:Int)(u:Nat→Int)(m i k:Nat):cn m (c*t) u i k=c*cn m t u i k:=by
 rw [iO,iO]
 split
 ·rw [kA]
 ·rw [dQ]
theorem Qi(c:Int)(s n m:Nat)(f g:Nat→Int)(k:Nat):convS s n m (fun i=>c*f i) g k=c*convS s n m f g k:=by unfold convS;rw [rN];exact di fun i _=>Qh ..
variable {t:Int}
theorem Qj{t':Int}(h:Cg q t t')(u:Nat→Int)(m i k:Nat):Cg q (cn m t u i k) (cn m t' u i k):=by
 rw [iO,iO]
 split
 ·exact h.mulR _
 ·exact Cg.refl _
variable {n m k:Nat} {f g:Nat→Int}
theorem Qk{s:Nat}{f':Nat→Int}(h:∀i,i<n→Cg q (f i) (f' i)):Cg q (convS s n m f g k) (convS s n m f' g k):=
 BS fun i hi=>Qj (h i hi) g m (s+i) k
structure j_ (q:Int) (ts us:List Int) (T U n i:Nat) (bs ls:List Int) (aA:Int):Prop where
 lb:bs.length=i
 ll:ls.length=ts.length-i
 eq:∀k,Cg q (aA*ts.getD k 0) (convS (n-i) i us.length (fun j=>bs.getD j 0) (fun j=>us.getD j 0) k+ls.getD k 0)
 nz:¬q∣aA
 last:0<i→¬q∣bs.getD (i-1) 0
 bb:∀x∈bs,x.natAbs*(2*U)≤T*(2*U) ^ i
 bl:∀x∈ls,x.natAbs≤T*(2*U) ^ i
 bm:aA.natAbs≤1000*(2*U) ^ i
theorem cX{α:Type}{xs:List α}{d:α}(h:xs.length≤k):xs.getD k d=d:=by rw [d3,jH h];rfl
variable {xs:List Int}
theorem rS(h:∀x∈xs,x.natAbs≤B)(k:Nat):(xs.getD k 0).natAbs≤B:=by
 by_cases hk:k<xs.length;·rw [getD_at hk];exact h _ (gI _)
 ·rw [cX (by lia)];exact bO _
theorem vL{f:Int→Int}(h0:f 0=0)(k:Nat):(xs.map f).getD k 0=f (xs.getD k 0):=by
 by_cases hk:k<xs.length;·rw [getD_at (by simpa using hk),getD_at hk,iB]
 ·rw [cX (by simp;lia),cX (by lia),h0]
variable {ts us:List Int} {T U:Nat}
theorem j_.start(hq:aD q)(hT:∀x∈ts,x.natAbs≤T)(hn:n=ts.length+1-us.length):j_ q ts us T U n 0 [] ts 1 where
 lb:=rfl
 ll:=rfl
 eq:=fun k=>Cg.of_eq (by unfold convS aK;lia)
 nz:=fun h=>by
  rcases hq with rfl | ⟨h2,_⟩
  ·have:=fN.mp h
   lia
  ·have:=qD (by decide) h
   lia
 last:=fun h=>absurd h (by decide)
 bb:=fun x hx=>by simp at hx
 bl:=fun x hx=>by simpa using hT x hx
 bm:=by simp
def eJ(place:Nat)(head:Int)(us:List Int):List Int:=List.replicate place 0++us.dropLast.map fun u=>head*u
variable {place:Nat} {head:Int}
theorem BV:(eJ place head us).length=place+(us.length-1):=by unfold eJ;rw [iu,iw,aW,List.length_dropLast]
theorem Ql(hk:k<place+(us.length-1)):(eJ place head us).getD k 0=if place≤k then head*us.getD (k-place) 0 else 0:=by
 unfold eJ;rw [d3];by_cases h:place≤k
 ·rw [au h,gY (by simpa using h),iw,eS,List.getElem?_dropLast,au (by lia),xr (show k-place<us.length by lia),getD_at (show k-place<us.length by lia)]
  rfl
 ·rw [ar h,ir (by simp;lia),kv,au (by lia)]
  rfl
theorem j_.step{i:Nat}{bs ls:List Int}{aA:Int}(h:j_ q ts us T U n i bs ls aA)(hq:aD q)(hn:n=ts.length+1-us.length)(hi:i<n)(hu:1≤us.length)
  (hU:∀x∈us,x.natAbs≤U) (HB:1≤U) (vM:1000≤T) (lz:¬q∣us.getD (us.length-1) 0) (tz:¬q∣ts.getD (ts.length-1) 0) :
  j_ q ts us T U n (i+1) (([ls.getD (ls.length-1) 0]++bs.map fun x=>us.getD (us.length-1) 0*x).map fun x=>x % q)
   (((List.zip ls (eJ (n-1-i) (ls.getD (ls.length-1) 0) us)).map fun ab=>us.getD (us.length-1) 0*ab.1-ab.2).map fun x=>x % q) (aA*us.getD (us.length-1) 0 % q):=by
 generalize k4:us.getD (us.length-1) 0=lead at lz;generalize rT:ls.getD (ls.length-1) 0=head;have HC:=h.ll;have Qm:=h.lb;have vN:head.natAbs≤T*(2*U) ^ i:=by rw [←rT];exact rS h.bl _
 have vO:lead.natAbs≤U:=by rw [←k4];exact rS hU _
 have pw:T*(2*U) ^ (i+1)=T*(2*U) ^ i*(2*U):=by rw [d4,lV]
 have pp:1≤(2*U) ^ i:=nV (by lia)
 have T1:1000≤T*(2*U) ^ i:=ai vM (iC _ pp);have T2:T*(2*U) ^ i≤T*(2*U) ^ (i+1):=by rw [pw];exact iC _ (by lia)
 have zl:(List.zip ls (eJ (n-1-i) head us)).length=ts.length-(i+1):=by rw [xt,BV,HC];lia
 refine ⟨?_,?_,?_,?_,?_,?_,?_,?_⟩;·simp [Qm]
 ·rw [aW,aW,zl]
 ·intro k
  have e0:=h.eq k;have el:∀k,Cg q ((((List.zip ls (eJ (n-1-i) head us)).map fun ab=>lead*ab.1-ab.2).map fun x=>x % q).getD k 0) (lead*ls.getD k 0-cn us.length head (fun j=>us.getD j 0) (n-1-i) k):=fun k=>by
   rw [iO];by_cases hk:k<ts.length-(i+1)
   ·have BW:k<(List.zip ls (eJ (n-1-i) head us)).length:=by lia
    have k1:k<ls.length:=by lia
    have k2:k<(eJ (n-1-i) head us).length:=by rw [BV];lia
    rw [getD_at (by simpa using BW),iB,iB,List.getElem_zip,getD_at k1]
    have e1:(eJ (n-1-i) head us)[k]=if n-1-i≤k∧k<n-1-i+us.length then head*us.getD (k-(n-1-i)) 0 else 0:=by
     rw [←getD_at (d:=0) k2,Ql (by rw [BV] at k2;exact k2)]
     by_cases z:n-1-i≤k;·rw [au z,au (by lia)]
     ·rw [ar z,ar (by lia)]
    rw [e1];exact gQ _ _
   ·rw [cX (by rw [aW,aW,zl];lia)]
    by_cases BW:k=ts.length-(i+1)
    ·have e1:ls.getD k 0=head:=by rw [←rT,HC,BW];congr 1
     have e2:k-(n-1-i)=us.length-1:=by lia
     rw [au (by lia),e1,e2,k4,iy]
     exact Cg.of_eq (by lia)
    ·rw [ar (by lia),cX (by lia)]
     exact Cg.of_eq (by simp)
  have eb:∀j,Cg q ((([head]++bs.map fun x=>lead*x).map fun x=>x % q).getD j 0) (if j=0 then head else lead*bs.getD (j-1) 0):=fun j=>by
   rw [vL (by simp)]
   refine (gQ _ _).trans (Cg.of_eq ?_);cases j with
   | zero=>rfl
   | succ j=>
    rw [ar (by lia)]
    show ((head::bs.map fun x=>lead*x).getD (j+1) 0)=_;rw [List.getD_cons_succ,vL (by simp)]
    simp
  have ec:Cg q (convS (n-(i+1)) (i+1) us.length (fun j=>(([head]++bs.map fun x=>lead*x).map fun x=>x % q).getD j 0) (fun j=>us.getD j 0) k) (cn us.length head (fun j=>us.getD j 0) (n-1-i) k+lead*convS (n-i) i us.length (fun j=>bs.getD j 0) (fun j=>us.getD j 0) k):=by
   refine (Qk fun j _=>eb j).trans (Cg.of_eq ?_);rw [Qg,show n-(i+1)+1=n-i by lia,show n-(i+1)=n-1-i by lia,au rfl]
   have:(fun j=>if j+1=0 then head else lead*bs.getD (j+1-1) 0)=fun j=>lead*bs.getD j 0:=funext fun j=>by rw [ar (by lia),qH]
   rw [this,Qi]
  have em:Cg q (aA*lead % q*ts.getD k 0) (lead*(aA*ts.getD k 0)):=((gQ q (aA*lead)).mulR _).trans (Cg.of_eq (by grind))
  refine em.trans ((e0.mulL lead).trans (Cg.trans ?_ (ec.add (el k)).symm));exact Cg.of_eq (by rw [jD];lia)
 ·exact (gQ q _).nz (dN hq h.nz lz)
 ·intro _
  rw [vL (by simp)]
  refine (gQ q _).nz ?_;show ¬q∣(head::bs.map fun x=>lead*x).getD i 0;cases i with
  | zero=>
   rw [List.getD_cons_zero,←rT,show ls.length-1=ts.length-1 by lia]
   have e0:=h.eq (ts.length-1);have z:convS (n-0) 0 us.length (fun j=>bs.getD j 0) (fun j=>us.getD j 0) (ts.length-1)=0:=rfl;rw [z,Int.zero_add] at e0;exact e0.symm.nz (dN hq h.nz tz)
  | succ i=>
   rw [List.getD_cons_succ,vL (by simp)]
   exact dN hq lz (h.last (by lia))
 ·intro x hx
  obtain ⟨y,hy,rfl⟩:=fD.mp hx;refine ai (iz (2*U) (BU (B:=T*(2*U) ^ i) hq T1 ?_)) (i5 pw.symm);rcases gG.mp hy with hy | hy
  ·rw [ky.mp hy]
   exact vN
  ·obtain ⟨w,hw,rfl⟩:=fD.mp hy
   rw [bq,jB];exact ai (gj _ (ai vO (show U≤2*U by lia))) (h.bb w hw)
 ·intro x hx
  obtain ⟨y,hy,rfl⟩:=fD.mp hx;refine BU hq (ai T1 T2) ?_;obtain ⟨ab,BX,rfl⟩:=fD.mp hy;have m:=qC BX;have b1:(lead*ab.1).natAbs≤T*(2*U) ^ i*U:=by rw [bq,jB];exact cI (h.bl _ m.1) vO
  have b2:ab.2.natAbs≤T*(2*U) ^ i*U:=by
   have m2:=m.2;unfold eJ at m2;rcases gG.mp m2 with z | z;·rw [(qI.mp z).2];exact bO _
   ·obtain ⟨u,j4,e⟩:=fD.mp z
    rw [←e,bq];exact cI vN (hU u (List.dropLast_subset _ j4))
  have e:T*(2*U) ^ i*(2*U)=T*(2*U) ^ i*U+T*(2*U) ^ i*U:=by rw [Nat.mul_left_comm,Nat.two_mul]
  rw [pw,e];show (lead*ab.1-ab.2).natAbs≤_;lia
 ·refine BU hq ?_ ?_
  ·exact iC _ (nV (by lia))
  ·rw [bq,d4,←lV]
   exact cI h.bm (ai vO (by lia))
variable {wi:TI} {ρ:St→St} {te:TE} {σ:St} {H:Hp} {Q:VK}
theorem vP(g:Int→Int)(hn:ts.length≤500)
  (fK:∀R:It→Hp→Prop,(∀J H1,ah H H1→kW J (ts.map V.int) H1→R J H1)→wi σ H R)
  (step:∀t∈ts,∀(Hc:Hp) (R:VK),ah H Hc→(∀H3,ah Hc H3→R (.int (g t)) H3)→te (some (.int t)::ρ σ) Hc R)
  (fin:∀D Hc,H D=none→ah H Hc→Hc D=some (.lst ((ts.map g).map V.int))→Q (.ref D) Hc):jV wi ρ (fun _ H Q=>Q true H) te σ H Q:=by
 refine vE (xs:=ts.map V.int) fK (by rw [aW];exact jd (by lia)) (fun _ i y _=>∃t,ts[i]?=some t∧y=.int (g t)) (fun _ _ _ _ _ _ h _ _=>h) ?_ ?_
 ·intro D i v hi Hc R sc _ kc
  rw [eS] at hi;cases e:ts[i]? with
  | none=>rw [e] at hi;cases hi
  | some t=>rw [e] at hi;cases hi;exact step t (uQ e) Hc R sc fun H3 s3=>kc _ H3 s3 ⟨t,e,rfl⟩
 ·intro D ys Hc nD sc ju hP eD
  have ey:ys=(ts.map g).map V.int:=yo (by rw [ju,aW,aW]) fun i v e=>by obtain ⟨t,e1,e2⟩:=hP i v e;exact ⟨g t,by rw [eS,e1];rfl,e2⟩
  rw [ey] at eD;exact fin D Hc nD sc eD
theorem HD{K:ax}{ys:List Int}(g:Int→Int→Int)(hn:xs.length≤500)
  (fK:∀R:It→Hp→Prop,(∀J H1,ah H H1→ym J ((xs.map V.int).zip (ys.map V.int)) H1→R J H1)→wi σ H R)
  (step:∀x y,(x,y)∈xs.zip ys→∀(Hc:Hp) (R:VK),ah H Hc→(∀H3,ah Hc H3→R (.int (g x y)) H3)→te (some (.int x)::some (.int y)::ρ σ) Hc R)
  (fin:∀D Hc,ah H Hc→Hc D=some (.lst (((xs.zip ys).map fun ab=>g ab.1 ab.2).map V.int))→Q (.ref D) Hc):rH K wi ρ (fun _ H Q=>Q true H) te σ H Q:=by
 have lz:((xs.map V.int).zip (ys.map V.int)).length=(xs.zip ys).length:=by simp [xt]
 have at':∀(i:Nat) (v u:V),((xs.map V.int).zip (ys.map V.int))[i]?=some (v,u)→∃x y,(xs.zip ys)[i]?=some (x,y)∧v=.int x∧u=.int y:=fun i v u e=>by
  obtain ⟨h1,h2⟩:=Ay.mp e;rw [eS] at h1 h2;cases e1:xs[i]? with
  | none=>rw [e1] at h1;cases h1
  | some x=>
   cases e2:ys[i]? with
   | none=>rw [e2] at h2;cases h2
   | some y=>rw [e1] at h1;rw [e2] at h2;cases h1;cases h2;exact ⟨x,y,Ay.mpr ⟨e1,e2⟩,rfl,rfl⟩
 refine O4 (zs:=(xs.map V.int).zip (ys.map V.int)) fK (by rw [lz,xt];exact jd (by lia)) (fun i v=>∃x y,(xs.zip ys)[i]?=some (x,y)∧v=.int (g x y)) ?_ ?_
 ·intro i v u hi Hc R sc kc
  obtain ⟨x,y,e,rfl,rfl⟩:=at' i v u hi;exact step x y (uQ e) Hc R sc fun H3 s3=>kc _ H3 s3 ⟨x,y,e,rfl⟩
 ·intro D vs Hc sc vQ hP eD
  have ey:vs=((xs.zip ys).map fun ab=>g ab.1 ab.2).map V.int:=yo (by rw [vQ,lz,aW]) fun i v e=>by obtain ⟨x,y,e1,e2⟩:=hP i v e;exact ⟨g x y,by rw [eS,e1];rfl,e2⟩
  rw [ey] at eD;exact fin D Hc sc eD
theorem Qn(xs:List V):mq xs none (some (-1))=xs.dropLast:=by
 have e:HT.d7 xs.length xs.length (some (-1))=xs.length-1:=by unfold HT.d7;simp;lia
 unfold mq;rw [e,show HT.d7 xs.length 0 none=0 from rfl,List.drop_zero,u3,List.dropLast_eq_take]
theorem yw(h:1≤xs.length):cK (xs.map V.int) (-1)=some (.int (xs.getD (xs.length-1) 0)):=by
 obtain ⟨ys,y,rfl⟩:∃ys y,xs=ys++[y]:=⟨xs.dropLast,xs.getLast (by intro e;simp [e] at h),(List.dropLast_concat_getLast _).symm⟩
 rw [nZ];show cK (ys.map V.int++[V.int y]) (-1)=_;rw [FL,iu,As,qH,getD_at (by simp)]
 simp
theorem BY:∀place:Nat,(List.replicate ((place:Int).toNat) [V.int 0]).flatten=(List.replicate place (0:Int)).map V.int:=fun place=>by
 rw [d_,List.map_replicate]
 induction place with
 | zero=>rfl
 | succ m ih=>rw [lM,uS,ih,lM];rfl
variable {x:Int}
theorem BZ(hq:aD q)(nb:¬q∣b)(h:q∣b*x):q∣x:=lX fun nx=>dN hq nb nx h
theorem Qo{a:Int}{v:V}(ho:Bx H q v a b)(hq:aD q)(nb:¬q∣b)(ba:a.natAbs≤B)(bb:b.natAbs≤B):∃p:Int×Int,aQ B H q v p.1 p.2∧aE q p (a,b):=by
 rcases ho with ⟨rfl,r,rfl,e⟩ | ⟨q2,r,rfl,r0,r1,er⟩
 ·have hb:b≠0:=fun z=>nb (z▸nU 0)
  obtain ⟨l,w,b1,b2⟩:=Bw (a:=a) hb;exact ⟨(fc a b,fe a b),.bJ e l (ai b1 ba) (ai b2 bb),⟨0,by dsimp only;lia⟩⟩
 ·have q3:q≤997:=by rcases hq with h | h <;> lia
  refine ⟨(r,1),.rem r0 r1 q3,?_⟩;show q∣r*b-a*1;have h1:Cg q (r*(b % q)) a:=(gQ q _).symm.trans (er▸gQ q a);have h2:Cg q (r*b) (r*(b % q)):=((gQ q b).mulL r).symm;have h3:=h2.trans h1;rw [eQ];exact h3
theorem HE(ps:aF):∀n k,da ps n≤k→k<n→(ps.getD k o1).1=0
 | 0,_,_,h=>by lia
 | n+1,k,h1,h2=>by
  unfold da at h1;by_cases z:(ps.getD n o1).1=0
  ·rw [au z] at h1
   by_cases e:k=n;·rw [e];exact z
   ·exact HE ps n k h1 (by lia)
  ·rw [ar z] at h1
   lia
theorem HF(ps:aF):∀n,0<da ps n→(ps.getD (da ps n-1) o1).1≠0
 | 0,h=>by simp [da] at h
 | n+1,h=>by
  unfold da at h ⊢;by_cases z:(ps.getD n o1).1=0
  ·rw [au z] at h ⊢
   exact HF ps n h
  ·rw [ar z] at h ⊢
   exact z
theorem B0(ps:aF):(aM ps).length=da ps ps.length:=by unfold aM;rw [lL];have:=BP ps ps.length;lia
variable {ps:aF}
theorem mH(h:k<(aM ps).length):(aM ps).getD k o1=ps.getD k o1:=by have h':=h;rw [B0] at h';unfold aM;rw [d3,Ar h',←d3]
theorem HG(h:(aM ps).length≤k):(ps.getD k o1).1=0:=by
 rw [B0] at h;by_cases hk:k<ps.length;·exact HE ps ps.length k h hk
 ·rw [cX (by lia)];rfl
theorem vR(h:0<(aM ps).length):((aM ps).getD ((aM ps).length-1) o1).1≠0:=by
 rw [mH (by lia)]
 rw [B0] at h ⊢;exact HF ps ps.length h
theorem yx(h:0<ps.length→(ps.getD (ps.length-1) o1).1≠0):aM ps=ps:=by
 unfold aM;cases e:ps.length with
 | zero=>rw [gZ.mp e];rfl
 | succ m=>
  unfold da;have z:=h (by lia)
  rw [e,qH] at z;rw [ar z,←e,List.take_length]
theorem HH(ps:aF):aM (aM ps)=aM ps:=yx fun h=>vR h
theorem o5{p:Int×Int}(h:p∈aM ps):p∈ps:=List.mem_of_mem_take h
variable {ys:aF}
theorem Qp{xs:aF}(h:∀k,xs.getD k o1=ys.getD k o1):aM xs=aM ys:=by
 have pad:∀(n:Nat) (zs:aF),aM (zs++List.replicate n o1)=aM zs:=fun n zs=>by
  induction n with
  | zero=>simp
  | succ n ih=>rw [List.replicate_succ',←gH,Hs (show (o1:Int×Int).1=0 from rfl),ih]
 have e:xs++List.replicate ys.length o1=ys++List.replicate xs.length o1:=by
  refine List.ext_getElem (by simp;lia) fun k h1 h2=>?_
  have g:∀(zs:aF) (n k:Nat),k<zs.length+n→∀hk,(zs++List.replicate n o1)[k]'hk=zs.getD k o1:=fun zs n k hk h=>by
   by_cases z:k<zs.length;·rw [List.getElem_append_left z,getD_at z]
   ·rw [List.getElem_append_right (by lia),List.getElem_replicate,cX (by lia)]
  rw [g xs _ k (by simpa using h1),g ys _ k (by simpa using h2),h k]
 rw [←pad ys.length xs,e,pad]
variable {D:Int}
theorem HI{f:Int}{p:Int×Int}(hq:aD q)(hT:1000≤T)(hc:Canon q p)(e:t*p.2=p.1*b)(ok:bH q b)(dG:bH q D)(db:b∣D)(w:aE q p (f,D))(bf:f.natAbs≤T):t.natAbs≤T:=by
 by_cases z:q=0
 ·subst z
  have hp:=(hc.bot).1 rfl;have hb:=ok.1 rfl;have hD:=dG.1 rfl;obtain ⟨k,ek⟩:=w;have e2:p.1*D=f*p.2:=by dsimp only at ek;omega
  have e3:t*D=f*b:=by
   have:(t*D)*p.2=(f*b)*p.2:=by rw [Int.mul_right_comm,e,Int.mul_right_comm,e2,Int.mul_right_comm]
   exact Int.eq_of_mul_eq_mul_right (show p.2≠0 by lia) this
  have e4:t.natAbs*D.natAbs=f.natAbs*b.natAbs:=by rw [←bq,e3,bq]
  have e5:b.natAbs≤D.natAbs:=vK db (by lia)
  have e6:t.natAbs*D.natAbs≤f.natAbs*D.natAbs:=by rw [e4];exact gj _ e5
  exact ai (Nat.le_of_mul_le_mul_right e6 (by lia)) bf
 ·have e1:=(hc.2 z)
  have q3:q≤997:=by rcases hq with h | h <;> lia
  rw [e1.1,ok.2 z] at e;lia
theorem HJ(l:ts.length=(aM ps).length)(h:∀k,k<(aM ps).length→aE q ((aM ps).getD k o1) (ts.getD k 0,b))(k:Nat):aE q (ps.getD k o1) (ts.getD k 0,b):=by
 by_cases hk:k<(aM ps).length
 ·rw [←mH hk]
  exact h k hk
 ·have z:=HG (ps:=ps) (k:=k) (by lia)
  rw [cX (xs:=ts) (by lia)]
  exact ⟨0,by dsimp only;rw [z];simp⟩
theorem aN.f9{a:Addr}(h:aN B H q a ps):∀p∈ps,Canon q p:=fun p hp=>by
 obtain ⟨vs,e,l,k⟩:=h;obtain ⟨i,hi,rfl⟩:=lW hp;have hv:i<vs.length:=by lia
 exact (k i vs[i] ps[i] (by simp [hv]) (by simp [hi])).canon
theorem HK(hq:aD q):Canon q o1:=⟨fun _=>⟨by decide,by decide⟩,fun z=>⟨rfl,by decide,by rcases hq with h | h;exact absurd h z;show (0:Int)<q;lia⟩⟩
theorem dY(hq:aD q)(h:∀p∈ps,Canon q p)(k:Nat):Canon q (ps.getD k o1):=by
 by_cases hk:k<ps.length;·rw [getD_at hk];exact h _ (gI _)
 ·rw [cX (by lia)];exact HK hq
theorem B4{M:Int}{p:Int×Int}(hq:aD q)(hc:Canon q p)(nx:¬q∣x)(w:aE q p (x,M)):p.1≠0:=fun z=>by obtain ⟨k,e⟩:=w;dsimp only at e;rw [z,fE,qE] at e;refine dN hq nx (hc.bot.nz hq) ⟨-k,?_⟩;rw [gk,←e,Int.neg_neg]
theorem yy{p:Int×Int}(hc:Canon q p)(h:p.1≠0):¬q∣p.1:=fun d=>by
 by_cases z:q=0
 ·subst z
  exact h (fN.mp d)
 ·have e:=hc.2 z
  have:=qD (by lia) d
  lia
theorem HL{p:Int×Int}(hq:aD q)(hc:Canon q p)(h:p.1≠0)(e:t*p.2=p.1*b)(ok:bH q b):¬q∣t:=fun d=>by refine dN hq (yy hc h) (ok.nz hq) ?_;rw [←e];exact kz d (uW ..)
theorem HM{q:Int}{F:Nat}(hF:1≤F):∀(xs:aF),(∀p∈xs,bH q p.2∧p.2.natAbs≤F)→∃D:Int,bH q D∧(∀p∈xs,p.2∣D)∧D.natAbs≤F ^ xs.length∧∀p∈xs,D.natAbs≤p.2.natAbs*F ^ (xs.length-1)
 | [],_=>⟨1,bH.one,fun p hp=>by simp at hp,by simp,fun p hp=>by simp at hp⟩
 | x::xs,h=>by
  obtain ⟨D,h1,h2,h3,h4⟩:=HM hF xs (fun p hp=>h p (gW _ hp));have hx:=h x lK;refine ⟨x.2*D,hx.1.mul h1,fun p hp=>?_,?_,fun p hp=>?_⟩
  ·rcases dH.mp hp with e | e
   ·rw [e];exact uW ..
   ·exact kz (h2 p e) (Int.dvd_mul_left ..)
  ·rw [bq,d9,d4,jB]
   exact cI h3 hx.2
  ·rw [bq,d9,qH]
   rcases dH.mp hp with e | e;·rw [e];exact gj _ h3
   ·have l:1≤xs.length:=List.length_pos_of_mem e
    refine ai (cI hx.2 (h4 p e)) (i5 ?_);rw [show xs.length=xs.length-1+1 by lia,d4,qH]
    rw [Nat.mul_left_comm,jB F]
def Qq(K:ax):Sp:=fun vs H Q _=>∃(P a td:Addr) (ns:List Int) (q aS:Int) (mN F:Nat),vs=[.ref P,.ref td,.int ((mN+1:Nat):Int),.int aS]∧cO H P a∧aX K (er P H) a (ns.map V.int)∧dA (er P H) td q∧aD q∧mN≤10∧1≤aS∧aS≤(F:Int)∧4≤F∧F≤10 ^ 20 ∧
 ∀(r:Addr) (ps:aF) (D:Int) (H':Hp),aI P H H'→cO H' P a→er P H r=none→ps.length≤20→aN (F+1000) (er P H') q r ps→bH q D→(∀p∈ps,p.2∣D)→D.natAbs≤F ^ mN→(∀p∈ps,p.1=0∨D.natAbs≤p.2.natAbs*F ^ (mN-1))→(∀k,mN≤k→(ps.getD k o1).1=0)→Q (.ref r) H'
structure RowW (q:Int) (ps:aF) (D:Int) (f:Nat→Int) (X Y L:Nat):Prop where
 ok:bH q D
 dvd:∀p∈ps,p.2∣D
 w:∀i,aE q (ps.getD i o1) (f i,D)
 bf:∀i,(f i).natAbs≤X
 bD:D.natAbs≤Y
 out:∀i,L≤i→f i=0
theorem Qr(hq:aD q){F mN X Y:Nat}(hc:∀p∈ps,Canon q p)(hb:∀p∈ps,p.1.natAbs≤F+1000)(ok:bH q D)(dv:∀p∈ps,p.2∣D)(bD:D.natAbs≤F ^ mN)(bd:∀p∈ps,p.1=0∨D.natAbs≤p.2.natAbs*F ^ (mN-1))(out:∀k,mN≤k→(ps.getD k o1).1=0)
  (hX:(F+1000)*F ^ (mN-1)≤X) (hY:F ^ mN≤Y):RowW q ps D (fun i=>(ps.getD i o1).1*(D / (ps.getD i o1).2)) X Y mN:=by
 have gd:∀i,ps.getD i o1∈ps∨ps.getD i o1=o1:=fun i=>by
  by_cases hi:i<ps.length;·rw [getD_at hi];exact .inl (gI _)
  ·exact .inr (cX (by lia))
 have HN:∀i,(ps.getD i o1).2∣D:=fun i=>by
  rcases gd i with h | h;·exact dv _ h
  ·rw [h];exact nY D
 refine ⟨ok,dv,fun i=>⟨0,?_⟩,fun i=>?_,ai bD hY,fun i hi=>by rw [out i hi,fE]⟩
 ·obtain ⟨k,e⟩:=HN i
  have nz:(ps.getD i o1).2≠0:=fun z=>(dY hq hc i).bot.nz hq (by rw [z];exact fM q)
  dsimp only;have e2:D / (ps.getD i o1).2=k:=by rw [e,lT _ nz]
  rw [e2,dQ,e];grind
 ·rcases gd i with h | h
  ·rcases bd _ h with z | z
   ·rw [z,fE];exact bO _
   ·obtain ⟨k,e⟩:=HN i
    have nz:(ps.getD i o1).2≠0:=fun z=>(dY hq hc i).bot.nz hq (by rw [z];exact fM q)
    have e2:D / (ps.getD i o1).2=k:=by rw [e,lT _ nz]
    rw [e2,bq];rw [e,bq] at z;have z2:=Nat.le_of_mul_le_mul_left z (gh.mpr nz);exact ai (cI (hb _ h) z2) hX
  ·rw [h]
   show ((0:Int)*_).natAbs≤_;rw [fE];exact bO _
theorem aN.Qs(hB:1000≤B){a:Addr}(h:aN B H q a ps):∀p∈ps,p.1.natAbs≤B:=fun p hp=>by
 obtain ⟨vs,e,l,k⟩:=h;obtain ⟨i,hi,rfl⟩:=lW hp;have hv:i<vs.length:=by lia
 have z:=k i vs[i] ps[i] (by simp [hv]) (by simp [hi])
 generalize ps[i]=p at z;generalize vs[i]=v at z;obtain ⟨x,m⟩:=p;cases z with
 | bJ e l bx bm=>exact bx
 | rem h0 h1 h2=>dsimp only;lia
theorem aN.aS{H':Hp}{a D:Addr}{ys:List V}(h:aN B H q a ps)(n:a≠D)(eD:H D=some (.lst ys))(k:∀b o,b≠D→H b=some o→H' b=some o):aN B H' q a ps:=by obtain ⟨vs,e,l,f⟩:=h;exact ⟨vs,k _ _ n e,l,fun i v p h1 h2=>(f i v p h1 h2).aS eD k⟩
theorem canon_zero{p:Int×Int}(hc:Canon q p)(h:p.1=0):p=o1:=by
 obtain ⟨x,m⟩:=p;dsimp only at h;subst h;by_cases z:q=0
 ·have l:=hc.1 z
  have e:m=1:=by have l1:=l.pos;have l2:=l.2;simp at l2;lia
  rw [e];rfl
 ·rw [show m=1 from (hc.2 z).1]
  rfl
theorem vS(hq:aD q)(hc:∀p∈ps,Canon q p)(k:Nat):(aM ps).getD k o1=ps.getD k o1:=by
 by_cases hk:k<(aM ps).length;·exact mH hk
 ·rw [cX (by lia),canon_zero (dY hq hc k) (HG (by lia))]
theorem yz:aE q o1 (0,D):=⟨0,by show (0:Int)*D-0*1=_;simp⟩
variable {N:Nat}
theorem B5(hq:aD q)(ok:bH q D):∀p∈cU q n m f g D N,Canon q p:=fun p hp=>by unfold cU at hp;obtain ⟨k,_,rfl⟩:=fD.mp hp;exact j9 hq ok
theorem HP{α:Type}{F:Nat→α}{d:α}(hk:k<N):((List.range N).map F).getD k d=F k:=by rw [getD_at (by simpa using hk),iB,List.getElem_range]
theorem B6(ok:bH q D)(k:Nat):aE q ((cU q n m f g D (n+m-1)).getD k o1) (bL n m f g k,D):=by
 by_cases hk:k<n+m-1
 ·unfold cU
  rw [HP hk];exact j8 ok
 ·rw [cX (by simp [cU];lia),Ht (by lia)]
  exact yz
theorem zero_add{y:Int}(ok:bH q D)(hq:aD q)(h1:aE q o1 (x,D))(h2:aE q o1 (y,D)):aE q o1 (x+y,D):=by obtain ⟨a,e1⟩:=h1;obtain ⟨b,e2⟩:=h2;refine ⟨a+b,?_⟩;show (0:Int)*D-(x+y)*1=_;have e1:(0:Int)*D-x*1=q*a:=e1;have e2:(0:Int)*D-y*1=q*b:=e2;rw [jD];lia
theorem Qt{xs:aF}{x y:Nat→Int}(hq:aD q)(ok:bH q D)(cx:∀p∈xs,Canon q p)(cy:∀p∈ys,Canon q p)(wx:∀k,aE q (xs.getD k o1) (x k,D))(wy:∀k,aE q (ys.getD k o1) (y k,D))(k:Nat):(gP q xs ys).getD k o1=dj q (x k+y k) D:=by
 by_cases hk:k<max xs.length ys.length
 ·unfold gP
  rw [HP hk];exact G9 hq ok (dY hq cx k) (dY hq cy k) (wx k) (wy k)
 ·rw [cX (by simp [gP];lia)]
  have a:=wx k;have b:=wy k;rw [cX (by lia)] at a b
  exact o4 hq (HK hq) (j9 hq ok) ((zero_add ok hq a b).trans (j8 ok).symm ok)
end My
namespace L2
open PySem PySem.Spec PyProof.Rows
def Qu(K:ax):R2:=fun x y H Q=>∃a b xs,x=.ref a∧y=.ref b∧aX K H a xs∧H b=some (.lst [])∧Q (.bl xs.isEmpty) H
theorem Qv{X:Cx}(hu:X.A.units+64<cLine):cC X (compareOp .Eq) (Qu X.K):=by
 intro pins s σ H x y v u Q I rx ry h;obtain ⟨a,b,xs,rfl,rfl,h1,h2,q⟩:=h;cases rx;cases ry;obtain ⟨us,r1,t1,_⟩:=I.list h1;obtain ⟨vs,r2,t2,_⟩:=I.list (aX.of h2);have l1:=r1.length;have l2:=r2.length;cases xs with
 | nil=>
  refine SeqAt.RcAt.lists (e:=fun _=>true) t1.isList t2.isList (by simp at l1 l2 ⊢;lia) (by lia) (fun j z1 z2=>?_) _ _ _ _ ?_
  ·simp at l1
   have:us=[]:=gZ.mp l1.symm;subst this;simp at z1
  ·rw [all_range]
   exact ⟨.bl true,H,I,rfl,q⟩
 | cons w ws=>
  refine SeqAt.RcAt.lists_lengths t1.isList t2.isList ?_ (by lia) _ _ _ _ ⟨.bl false,H,I,rfl,q⟩
  simp at l1 l2 ⊢;lia
variable {c:TT} {t:TS} {D:Ends} {σ:St} {H:Hp}
theorem B7{u:TS}(k:∀R:St→Hp→Prop,(∀σ H,D.nx σ H→R σ H)→vb c t u {D with nx:=R} σ H):vb c t u D σ H:=k D.nx fun _ _ h=>h
theorem Qw{u:TS}(hc:∀Q:Bool→Hp→Prop,(∀b,Q b H)→c σ H Q)(ht:t D σ H)(hu:u D σ H):vb c t u D σ H:=hc _ fun b=>by
 cases b with
 | true=>rw [au rfl];exact ht
 | false=>rw [ar cZ];exact hu
end L2
namespace My
open PySem L2
variable {q D:Int} {ps:aF} {f:Nat→Int} {X Y L:Nat}
theorem RowW.weak{X' Y' L':Nat}(h:RowW q ps D f X Y L)(hx:X≤X')(hy:Y≤Y')(hl:L≤L'):RowW q ps D f X' Y' L':=
 ⟨h.ok,h.dvd,h.w,fun i=>ai (h.bf i) hx,ai h.bD hy,fun i hi=>h.out i (by lia)⟩
theorem RowW.top(hq:aD q)(h:RowW q ps D f X Y L)(hc:∀p∈ps,Canon q p){i:Nat}(hi:L≤i):(ps.getD i o1).1=0:=lX fun n=>by have w:=h.w i;rw [h.out i hi] at w;obtain ⟨k,e⟩:=w;dsimp only at e;rw [fE,Int.sub_zero] at e;exact dN hq (yy (dY hq hc i) n) (h.ok.nz hq) ⟨k,e⟩
theorem B8(h:∀i,L≤i→(ps.getD i o1).1=0):(aM ps).length≤L:=Nat.le_of_not_lt fun n=>by
 have z:=vR (ps:=ps) (by lia)
 rw [mH (by lia)] at z
 exact z (h _ (by lia))
variable {n:Nat}
theorem Qx{m k:Nat}{g:Nat→Int}(hf:∀i,L≤i→f i=0)(hg:∀i,L≤i→g i=0)(hk:2*L-1≤k):bL n m f g k=0:=by
 unfold bL;rw [show (fun i=>cn m (f i) g i k)=fun _=>0 from funext fun i=>?_,iN];rw [iO]
 split
 ·by_cases h:L≤i
  ·rw [hf i h,fE]
  ·rw [hg (k-i) (by lia),dQ]
 ·rfl
variable {b:Int}
theorem B9{a D1 D2:Int}{p r:Int×Int}(h1:aE q p (a,D1))(h2:aE q r (b,D2)):aE q (p.1*r.1,p.2*r.2) (a*b,D1*D2):=by obtain ⟨k1,e1⟩:=h1;obtain ⟨k2,e2⟩:=h2;dsimp only at e1 e2;refine ⟨k1*(r.1*D2)+a*p.2*k2,?_⟩;dsimp only;grind
theorem Qy(hX:1≤X)(L:Nat):RowW q (List.replicate n o1) 1 (fun _=>0) X X L:=by
 refine ⟨bH.one,fun p hp=>?_,fun i=>?_,fun _=>bO _,hX,fun _ _=>rfl⟩;·rw [(qI.mp hp).2];exact nY 1
 ·have e:(List.replicate n o1).getD i o1=o1:=by
   rw [d3,kv]
   split <;> rfl
  rw [e];exact yz
theorem Cg.mul{a c d:Int}(h1:Cg q a b)(h2:Cg q c d):Cg q (a*c) (b*d):=(h1.mulR c).trans (h2.mulL b)
theorem Cg.pow{q a b:Int}(h:Cg q a b):∀k:Nat,Cg q (a ^ k) (b ^ k)
 | 0=>by rw [u5,u5];exact Cg.refl 1
 | k+1=>by rw [u6,u6];exact (Cg.pow h k).mul h
theorem o6{q a:Int}(hq:aD q)(ha:¬q∣a):∀k:Nat,¬q∣a ^ k
 | 0=>by rw [u5];exact bH.one.nz hq
 | k+1=>by rw [u6];exact dN hq (o6 hq ha k) ha
end My
namespace L2
open PySem PySem.Spec PyProof.Rows
section
variable {X:Cx} {e:Expr} {te:TE} {pos p2:Pos}
end
end L2
namespace My
open PySem L2
end My
namespace L2
open PySem PySem.Spec PyProof.Rows
section
variable {X:Cx} {pins:aZ} {σ:St} {H:Hp} {s:Shared}
end
end L2
namespace My
open PySem L2
variable {n:Nat}
theorem HQ{wi:TI}{ρ:St→St}{te:TE}{σ:St}{H:Hp}{Q:VK}{xs:List V}(hl:xs.length=n)(fK:∀R:It→Hp→Prop,(∀J H1,ah H H1→kW J xs H1→R J H1)→wi σ H R)(hn:n<sizeLine)
  (P:Addr→Nat→Addr→Hp→Prop) (mono:∀D i y H H' ys,P D i y H→y≠D→H D=some (.lst ys)→(∀b o,b≠D→H b=some o→H' b=some o)→P D i y H')
  (step:∀D (i:Nat) (x:V),xs[i]?=some x→∀(Hc:Hp) (R:VK),ah H Hc→(∃ys,Hc D=some (.lst ys))→(∀y H3,ah Hc H3→Hc y=none→(∃o,H3 y=some o)→P D i y H3→R (.ref y) H3)→te (some x::ρ σ) Hc R)
  (fin:∀D (A:Nat→Addr) Hc,H D=none→ah H Hc→(∀i j,i<n→j<n→A i=A j→i=j)→(∀i,i<n→P D i (A i) Hc∧A i≠D)→Hc D=some (.lst ((List.range n).map fun i=>V.ref (A i)))→Q (.ref D) Hc):jV wi ρ (fun _ H Q=>Q true H) te σ H Q:=by
 refine fK _ fun J H1 s1 js=>?_;intro D nD;have hD:H D=none:=by
  cases e:H D with
  | none=>rfl
  | some o=>rw [s1 _ _ e] at nD;cases nD
 refine ⟨fun i m ys Hc=>m=n-i∧i≤n∧Hc D=some (.lst ys)∧ah H1 Hc∧∃A:Nat→Addr,ys=(List.range i).map (fun j=>V.ref (A j))∧(∀a b,a<i→b<i→A a=A b→a=b)∧∀j,j<i→P D j (A j) Hc∧A j≠D∧∃o,Hc (A j)=some o,⟨_,rfl,bO _,aq,gy (ah.refl H1) nD,fun _=>D,rfl,(fun a b h=>by lia),fun j h=>by lia⟩,?_⟩
 rintro i m ys Hc ⟨rfl,hi,eD,sH,A,rfl,inj,hA⟩;refine ⟨eD,?_⟩;by_cases bP:i<n
 ·refine .inr ⟨js.go i Hc sH (by lia),fun x H' hy=>?_⟩
  obtain ⟨rfl,hx⟩:=js.dW i Hc x H' sH hy;rw [au rfl];refine step D i x (hx (by lia)) _ _ (s1.trans sH) ⟨_,eD⟩ fun y H3 s3 ny ⟨o,ho⟩ hp=>?_
  have e3:=s3 _ _ eD;have yD:y≠D:=fun e=>by rw [e,eD] at ny;cases ny
  have aS:∀b o,b≠D→H3 b=some o→upd H3 D (.lst ((List.range i).map (fun j=>V.ref (A j))++[.ref y])) b=some o:=fun b o nb e=>by rw [bG nb];exact e
  have nA:∀j,j<i→A j≠y:=fun j hj e=>by obtain ⟨_,_,o',h'⟩:=hA j hj;rw [e,ny] at h';cases h'
  refine ⟨e3,by simp;lia,n-(i+1),by lia,rfl,bP,aq,gy (sH.trans s3) nD,fun j=>if j=i then y else A j,?_,fun a b ha hb e=>?_,fun j hj=>?_⟩
  ·rw [List.range_succ,nZ]
   congr 1
   ·refine List.map_congr_left fun j hj=>?_
    dsimp only;rw [ar (by have:=ku.mp hj;lia)]
   ·simp
  ·dsimp only at e
   by_cases z1:a=i
   ·by_cases z2:b=i
    ·lia
    ·rw [au z1,ar z2] at e
     exact absurd e.symm (nA b (by lia))
   ·by_cases z2:b=i
    ·rw [ar z1,au z2] at e
     exact absurd e (nA a (by lia))
    ·rw [ar z1,ar z2] at e
     exact inj a b (by lia) (by lia) e
  ·dsimp only
   by_cases z:j=i
   ·rw [au z,z]
    exact ⟨mono D i y H3 _ _ hp yD e3 aS,yD,o,aS _ _ yD ho⟩
   ·rw [ar z]
    obtain ⟨h1,h2,o',h3⟩:=hA j (by lia)
    exact ⟨mono D j (A j) H' _ _ h1 h2 eD (fun b o nb e=>aS b o nb (s3 _ _ e)),h2,o',aS _ _ h2 (s3 _ _ h3)⟩
 ·have e:i=n:=by lia
  subst e;exact .inl ⟨js.stop _ Hc sH (by lia),fin D A Hc hD (s1.trans sH) inj (fun j hj=>⟨(hA j hj).1,(hA j hj).2.1⟩) eD⟩
theorem Qz{a b:Int}(h:Cg 0 a b):a=b:=by have:=fN.mp h;lia
variable {q:Int}
theorem QA{a:Int}(h:¬q∣a):a≠0:=fun e=>h (e▸fM q)
def HR(C:Addr):Sp:=fun vs H Q _=>∃(z a:Addr) (q:Int) (ts:List Int) (b:Int) (u:Nat→Int),vs=[.ref z,.ref a,.int b]∧dE C H z q∧aD q∧H a=some (.lst (ts.map V.int))∧ts.length≤500∧(∀t∈ts,aU t)∧aU b∧¬q∣b∧(∀i,i<ts.length→Cg q (ts.getD i 0) (b*u i)) ∧
 ∀(c:Addr) (H':Hp) (rs:List Int),ah H H'→H c=none→H' c=some (.lst (rs.map V.int))→rs.length=ts.length→(∀i,i<ts.length→Cg q (rs.getD i 0) (u i))→(q≠0→∀x∈rs,0≤x∧x<q)→Q (.ref c) H'
def ae(xs:List Int):Nat→Int:=fun i=>xs.getD i 0
def cv(f g:Nat→Int)(k:Nat):Int:=aK (k+1) fun i=>f i*g (k-i)
section
variable {q:Int} {f f' g g':Nat→Int} {k:Nat}
theorem HS:cv (fun i=>f i+f' i) g k=cv f g k+cv f' g k:=by unfold cv;rw [←yp];exact di fun i _=>by grind
theorem mI(c:Int):cv (fun i=>c*f i) g k=c*cv f g k:=by unfold cv;rw [rN];exact di fun i _=>by grind
theorem QB:cv f (fun i=>g i+g' i) k=cv f g k+cv f g' k:=by unfold cv;rw [←yp];exact di fun i _=>by grind
theorem QC(c:Int):cv f (fun i=>c*g i) k=c*cv f g k:=by unfold cv;rw [rN];exact di fun i _=>by grind
theorem vT(h:∀i,Cg q (f i) (f' i))(h':∀i,Cg q (g i) (g' i)):Cg q (cv f g k) (cv f' g' k):=BS fun i _=>((h i).mulR _).trans ((h' _).mulL _)
theorem B_(n:Nat)(F:Nat→Int):aK (n+1) F=aK n F+F n:=fZ n F
theorem HU(F:LW):∀k,(aK (k+1) fun i=>aK (k+1-i) fun j=>F i j)=aK (k+1) fun s=>aK (s+1) fun i=>F i (s-i)
 | 0=>rfl
 | k+1=>by
  have ih:=HU F k;rw [B_ (k+1) fun s=>aK (s+1) fun i=>F i (s-i),←ih,B_ (k+1) fun i=>aK (k+1+1-i) fun j=>F i j];rw [show (aK (k+1) fun i=>aK (k+1+1-i) fun j=>F i j)=(aK (k+1) fun i=>aK (k+1-i) fun j=>F i j)+aK (k+1) fun i=>F i (k+1-i) by rw [←yp];refine di fun i hi=>?_;rw [show k+1+1-i=k+1-i+1 by lia,fZ]]
  rw [B_ (k+1) fun i=>F i (k+1-i),show k+1+1-(k+1)=1 by lia]
  have:(aK 1 fun j=>F (k+1) j)=F (k+1) (k+1-(k+1)):=by rw [jE];show F (k+1) 0+0=_;lia
  rw [this];lia
theorem QD(n:Nat)(F:Nat→Int):aK (n+1) F=aK (n+1) fun i=>F (n-i):=by
 induction n with
 | zero=>rfl
 | succ n ih=>
  rw [fZ,ih];show _=F (n+1-0)+aK (n+1) fun i=>F (n+1-(i+1));rw [show (fun i=>F (n+1-(i+1)))=fun i=>F (n-i) from funext fun i=>by congr 1;lia,u3]
  lia
theorem QE(f g:Nat→Int)(k:Nat):cv f g k=cv g f k:=by unfold cv;rw [QD];refine di fun i hi=>?_;rw [show k-(k-i)=i by lia,iy]
theorem HV(f g h:Nat→Int)(k:Nat):cv (cv f g) h k=cv f (cv g h) k:=by
 have l:cv (cv f g) h k=aK (k+1) fun s=>aK (s+1) fun i=>f i*g (s-i)*h (k-s):=by unfold cv;refine di fun s _=>?_;rw [iy,rN];exact di fun i _=>by grind
 have r:cv f (cv g h) k=aK (k+1) fun i=>aK (k+1-i) fun j=>f i*g j*h (k-(i+j)):=by
  unfold cv;refine di fun i hi=>?_;rw [rN,show k-i+1=k+1-i by lia]
  exact di fun j _=>by rw [show k-i-j=k-(i+j) by lia];grind
 rw [l,r,HU fun i j=>f i*g j*h (k-(i+j))];refine di fun s _=>di fun i hi=>?_;rw [show i+(s-i)=s by lia]
end
theorem vU{m:Nat}{f g:Nat→Int}(hf:∀i,n≤i→f i=0)(hg:∀i,m≤i→g i=0)(k:Nat):bL n m f g k=cv f g k:=by
 have e:bL n m f g k=aK n fun i=>if i≤k then f i*g (k-i) else 0:=by
  unfold bL;refine di fun i _=>?_;rw [iO];by_cases h:i≤k
  ·rw [au h]
   by_cases h2:k<i+m;·rw [au ⟨h,h2⟩]
   ·rw [ar (by lia),hg _ (by lia),dQ]
  ·rw [ar (by lia),ar h]
 rw [e];unfold cv;have ext:∀(a b:Nat) (F:Nat→Int),(∀i,a≤i→F i=0)→aK (a+b) F=aK a F:=fun a b F hF=>by
  induction b with
  | zero=>rfl
  | succ b ih=>
   rw [show a+(b+1)=(a+b)+1 by lia,fZ,ih,hF _ (by lia)]
   lia
 have p1:=ext n (k+1) (fun i=>if i≤k then f i*g (k-i) else 0) fun i hi=>by show (if i≤k then f i*g (k-i) else 0)=0;rw [hf i hi];simp
 have p2:=ext (k+1) n (fun i=>if i≤k then f i*g (k-i) else 0) fun i hi=>ar (by lia)
 rw [←p1,Nat.add_comm n (k+1),p2];exact di fun i hi=>au (by lia)
theorem dn{xs:List Int}{i:Nat}(h:xs.length≤i):ae xs i=0:=cX h
theorem QF(ts us:List Int)(k:Nat):ae (oZ ts us) k=cv (ae ts) (ae us) k:=by
 rw [←vU (n:=ts.length) (m:=us.length) (fun i hi=>dn hi) (fun i hi=>dn hi)];unfold ae oZ;by_cases hk:k<ts.length+us.length-1;·rw [getD_at (by simpa using hk),iB,List.getElem_range]
 ·rw [cX (by simp;lia)]
  unfold bL;rw [show (fun i=>cn us.length (ts.getD i 0) (fun j=>us.getD j 0) i k)=fun i=>if i<ts.length then 0 else cn us.length (ts.getD i 0) (fun j=>us.getD j 0) i k from funext fun i=>by
   by_cases h:i<ts.length
   ·rw [au h,iO]
    by_cases h2:i≤k∧k<i+us.length;·lia
    ·rw [ar h2]
   ·rw [ar h]]
  rw [di (g:=fun _=>0) fun i hi=>au hi,iN]
theorem iP(hq:aD q):¬q∣1:=fun h=>by
 rcases hq with rfl | ⟨h2,_⟩
 ·have:=fN.mp h
  lia
 ·have:=qD (by decide) h
  lia
def cY(q:Int)(D X:Nat→Int):Prop:=∃(c:Int) (w:Nat→Int) (N:Nat),¬q∣c∧(∀i,N≤i→w i=0)∧∀t,Cg q (c*X t) (cv w D t)
section
variable {q:Int} {D X Y Z b:Nat→Int} {n:Nat}
theorem cY.self(hq:aD q)(D:Nat→Int):cY q D D:=⟨1,fun i=>if i=0 then 1 else 0,1,iP hq,fun i hi=>ar (by lia),fun t=>Cg.of_eq (by
 unfold cv;rw [aK,show (fun i=>(fun i=>if i=0 then (1:Int) else 0) (i+1)*D (t-(i+1)))=fun _=>0 from funext fun i=>by simp,iN]
 simp)⟩
theorem cY.QG(hq:aD q)(h:∀t,Cg q (X t) 0):cY q D X:=⟨1,fun _=>0,0,iP hq,fun _ _=>rfl,fun t=>((h t).mulL 1).trans (Cg.of_eq (by
 unfold cv;rw [show (fun i=>0*D (t-i))=fun _=>0 from funext fun i=>by simp,iN]
 rfl))⟩
theorem QH{w:Nat→Int}{N M:Nat}(hw:∀i,N≤i→w i=0)(hb:∀i,M≤i→b i=0){k:Nat}(hk:N+M≤k):cv w b k=0:=by
 unfold cv;rw [di (g:=fun _=>0) fun i hi=>by
  by_cases h:N≤i;·rw [hw i h,fE]
  ·rw [hb _ (by lia),dQ],iN]
theorem cY.made(hq:aD q)(hX:cY q D X)(hY:cY q D Y){aA least:Int}(hb:∀i,n≤i→b i=0)(nm:¬q∣aA)(e:∀t,Cg q (aA*Z t) (cv b X t+least*Y t)):cY q D Z:=by
 obtain ⟨c1,w1,N1,a1,b1,d1⟩:=hX;obtain ⟨c2,w2,N2,a2,b2,d2⟩:=hY;refine ⟨c1*c2*aA,fun i=>c2*cv b w1 i+least*c1*w2 i,n+N1+N2,dN hq (dN hq a1 a2) nm,fun i hi=>?_,fun t=>?_⟩
 ·show c2*cv b w1 i+least*c1*w2 i=0
  rw [QH (k:=i) hb b1 (by lia),b2 i (by lia)]
  simp
 ·have l:Cg q (c1*c2*aA*Z t) (c1*c2*(cv b X t+least*Y t)):=(Cg.of_eq (by grind)).trans ((e t).mulL (c1*c2))
  have x:Cg q (c1*cv b X t) (cv (cv b w1) D t):=by rw [←QC,HV];exact vT (fun _=>Cg.refl _) d1
  have r:cv (fun i=>c2*cv b w1 i+least*c1*w2 i) D t=c2*cv (cv b w1) D t+least*c1*cv w2 D t:=by rw [HS,mI,mI]
  rw [r];refine l.trans ((Cg.of_eq (show _=c2*(c1*cv b X t)+least*c1*(c2*Y t) by grind)).trans ((x.mulL c2).add ((d2 t).mulL _)))
end
end My
namespace Srs
def o7:Nat→Nat
 | 0=>1
 | n+1=>(n+1)*o7 n
theorem HW{c L W B:Nat}{F:List Row→Int}(hF:∀rows,rows.length=L→(∀r∈rows,∀i,(r i).natAbs≤W)→(F rows).natAbs≤B):∀(rows pre:List Row),pre.length+rows.length=L+1→(∀r∈pre,∀i,(r i).natAbs≤W)→(∀r∈rows,∀i,(r i).natAbs≤W)→(c_ c F pre rows).natAbs≤rows.length*(W*B)
 | [],pre,_,_,_=>by simp [c_]
 | r::post,pre,hl,hp,hr=>by
  have h1:=hF (pre++post) (by simp at hl ⊢;lia) fun s hs=>by
   rcases gG.mp hs with h | h;·exact hp s h
   ·exact hr s (gW _ h)
  have h2:=HW (c:=c) hF post (pre++[r]) (by simp at hl ⊢;lia) (fun s hs=>by
   rcases gG.mp hs with h | h;·exact hp s h
   ·rw [ky.mp h];exact hr r lK) fun s hs=>hr s (gW _ hs)
  have h3:=cI (hr r lK c) h1;have h4:=Int.natAbs_sub_le (r c*F (pre++post)) (c_ c F (pre++[r]) post);rw [bq] at h4;rw [c_,d9,Nat.succ_mul];lia
theorem HX{W:Nat}:∀(cs:List Nat) (rows:List Row),cs.length=rows.length→(∀r∈rows,∀i,(r i).natAbs≤W)→(det cs rows).natAbs≤o7 cs.length*W ^ cs.length
 | [],[],_,_=>by simp [det,o7]
 | [],_::_,h,_=>by simp at h
 | c::cs,rows,h,hr=>by
  have:=HW (c:=c) (L:=cs.length) (fun rs hl hb=>HX cs rs hl.symm hb) rows [] (by simp at h ⊢;lia) (fun _ z=>nomatch z) hr
  show (c_ c (det cs) [] rows).natAbs≤_;refine ai this (i5 ?_);rw [←h,d9,o7,d4];grind
theorem HY:∀(k hi:Nat),(cols hi k).length=k
 | 0,_=>rfl
 | k+1,hi=>by rw [cols,d9,HY]
theorem Ca(r:Row):∀k,(bR r k).length=k
 | 0=>rfl
 | k+1=>by rw [bR,d9,Ca]
variable {W:Nat}
theorem HZ{k:Nat}{r:Row}(h:∀i,(r i).natAbs≤W)(i:Nat):(sh k r i).natAbs≤W:=by
 unfold sh
 split
 ·simp
 ·exact h _
theorem H_{f g:Row}{n m j t:Nat}(hf:∀i,(f i).natAbs≤W)(hg:∀i,(g i).natAbs≤W)(hj:j<m)(mn:m≤n):S j f n g m t≤o7 (n+m-2*j)*W ^ (n+m-2*j):=by
 have l:(cols (n+m-j-1) (n+m-2*j-1)++[t]).length=n+m-2*j:=by rw [iu,HY];simp;lia
 have:=HX (W:=W) (cols (n+m-j-1) (n+m-2*j-1)++[t]) (bR f (m-j)++bR g (n-j)) (by rw [l,iu,Ca,Ca];lia) fun r hr i=>by
  rcases gG.mp hr with h | h;·obtain ⟨k,_,rfl⟩:=oW.mp h;exact HZ hf i
  ·obtain ⟨k,_,rfl⟩:=oW.mp h;exact HZ hg i
 rw [l] at this;exact this
end Srs
namespace My
open PySem L2 Srs
def mJ(b:Nat→Int)(B:Row)(i:Nat):Int:=aK (i / 3+1) fun j=>b j*B (i-3*j)
def Lf(aA:Int)(A:Row)(b:Nat→Int)(B:Row):Row:=fun i=>aA*A i-mJ b B i
theorem Ia(a b:Nat){F:Nat→Int}(hF:∀i,a≤i→F i=0):aK (a+b) F=aK a F:=by
 induction b with
 | zero=>rfl
 | succ b ih=>
  rw [show a+(b+1)=(a+b)+1 by lia,fZ,ih,hF _ (by lia)]
  lia
theorem Ib(b:Nat→Int)(g:Row)(i:Nat):∀N s,comb ((((List.range' s N)).map fun j=>(-(b j),j)).map fun p=>(p.1,sh p.2 g)) i=-aK N fun j=>b (s+j)*sh (s+j) g i
 | 0,s=>by simp [comb,aK]
 | N+1,s=>by
  have ih:=Ib b g i N (s+1);rw [List.range'_succ,nO,nO,comb];dsimp only;rw [ih,aK,Nat.add_zero];rw [show (fun j=>b (s+1+j)*sh (s+1+j) g i)=fun j=>b (s+(j+1))*sh (s+(j+1)) g i from funext fun j=>by rw [show s+1+j=s+(j+1) by lia]]
  show -b s*sh s g i+_=_;grind
theorem Ic{aA:Int}{A B:Row}{b:Nat→Int}{d:Nat}(hb:∀j,d<j→b j=0):Red aA A B (Lf aA A b B) d:=by
 refine ⟨(List.range' 0 (d+1)).map fun j=>(-(b j),j),fun p hp=>?_,fun i=>?_⟩
 ·obtain ⟨j,hj,rfl⟩:=fD.mp hp
  have:=List.mem_range'.mp hj;show j≤d;obtain ⟨k,hk,e⟩:=this;lia
 ·rw [Ib]
  have e:mJ b B i=aK (d+1) fun j=>b (0+j)*sh (0+j) B i:=by
   have p1:=Ia (d+1) (i / 3+1) (F:=fun j=>b (0+j)*sh (0+j) B i) fun j hj=>by rw [Nat.zero_add,hb j (by lia),fE]
   have p2:=Ia (i / 3+1) (d+1) (F:=fun j=>b (0+j)*sh (0+j) B i) fun j hj=>by rw [Nat.zero_add];unfold sh;rw [au (by lia),dQ]
   rw [←p1,Nat.add_comm (d+1),p2];unfold mJ;refine di fun j hj=>?_;rw [Nat.zero_add];unfold sh;rw [ar (by lia)]
  unfold Lf;rw [e];lia
def up1(r:Nat→Int):Nat→Int:=fun t=>if t=0 then 0 else r (t-1)
def aJ(r u v:List Int):Row:=fun i=>if i % 3=0 then up1 (ae r) (i / 3) else if i % 3=1 then ae u (i / 3) else ae v (i / 3)
theorem QI(b r:Nat→Int)(t:Nat):cv b (up1 r) t=up1 (cv b r) t:=by
 cases t with
 | zero=>show b 0*up1 r 0+0=0;show b 0*0+0=0;lia
 | succ t=>show _=cv b r t;unfold cv;rw [fZ,jE,show up1 r 0=0 from rfl,dQ,jI];exact di fun i hi=>by unfold up1;rw [ar (by lia),show t+1-i-1=t-i by lia]
section
variable {r u v:List Int} {t:Nat} {b:Nat→Int} {B:Row}
theorem mK:aJ r u v (3*t)=up1 (ae r) t:=by unfold aJ;rw [au (by lia),show 3*t / 3=t by lia]
theorem o8:aJ r u v (3*t+1)=ae u t:=by unfold aJ;rw [ar (by lia),au (by lia),show (3*t+1) / 3=t by lia]
theorem o9:aJ r u v (3*t+2)=ae v t:=by unfold aJ;rw [ar (by lia),ar (by lia),show (3*t+2) / 3=t by lia]
theorem Ie{P:Nat→Prop}(h0:∀t,P (3*t))(h1:∀t,P (3*t+1))(h2:∀t,P (3*t+2))(i:Nat):P i:=by
 have e:i=3*(i / 3)∨i=3*(i / 3)+1∨i=3*(i / 3)+2:=by lia
 rcases e with e | e | e;·rw [e];exact h0 _
 ·rw [e];exact h1 _
 ·rw [e];exact h2 _
theorem Cb{c:Nat}(hc:c<3):mJ b B (3*t+c)=cv b (fun k=>B (3*k+c)) t:=by
 unfold mJ cv;rw [show (3*t+c) / 3=t by lia]
 exact di fun j hj=>by rw [show 3*t+c-3*j=3*(t-j)+c by lia]
theorem QJ:mJ b (aJ r u v) (3*t)=up1 (cv b (ae r)) t:=by
 have:=Cb (b:=b) (B:=aJ r u v) (t:=t) (c:=0) (by decide)
 rw [Nat.add_zero] at this;rw [this,←QI]
 congr 1
 funext k
 exact mK
theorem Ig:mJ b (aJ r u v) (3*t+1)=cv b (ae u) t:=by
 rw [Cb (by decide)]
 congr 1
 funext k
 exact o8
theorem Ih:mJ b (aJ r u v) (3*t+2)=cv b (ae v) t:=by
 rw [Cb (by decide)]
 congr 1
 funext k
 exact o9
end
def Bz(W x:Nat):Nat:=3628800*W ^ (x+1)
variable {W x:Nat}
theorem vV{y:Nat}(h:x≤y)(w1:1≤W):Bz W x≤Bz W y:=gj _ (gi w1 (by lia))
theorem ka(w1:1≤W):W≤Bz W x:=by
 unfold Bz;rw [d4];have:=nV (n:=x) (show 0<W by lia)
 have:1*W≤3628800*W ^ x*W:=iz W (by lia)
 grind
theorem Ii:∀x,x≤10→o7 x≤3628800:=fun x hx=>(show ∀x∈List.range 11,o7 x≤3628800 by decide) x (ku.mpr (by lia))
theorem QK:∀a b:Nat,∃x y:Int,(a:Int)*x+(b:Int)*y=(Nat.gcd a b:Nat):=fun a b=>by
 induction a,b using Nat.gcd.induction with
 | H0 n=>exact ⟨0,1,by simp⟩
 | H1 m n hm ih=>
  obtain ⟨x,y,e⟩:=ih;refine ⟨y-(n / m:Nat)*x,x,?_⟩;have h:=Nat.mod_add_div n m;have h':((n % m:Nat):Int)=(n:Int)-(m:Int)*((n / m:Nat):Int):=by
   have:((n % m:Nat):Int)+(m:Int)*((n / m:Nat):Int)=n:=by exact_mod_cast h
   lia
  rw [Nat.gcd_rec m n,←e,h'];grind
variable {q b:Int}
theorem Ij(hq:aD q)(q0:q≠0)(nb:¬q∣b):∃c:Int,Cg q (b*c) 1:=by
 rcases hq with h | ⟨q2,q3,q4⟩;·exact absurd h q0
 ·have k1:=dk b (show q≠0 by lia)
  have k2:=du b (show 0<q by lia)
  have k3:b % q≠0:=fun z=>nb (Ax z);have g:=Bv q2 q3 q4 (show 1≤b % q by lia) k2
  obtain ⟨x,y,e⟩:=QK q.natAbs (b % q).natAbs;have g':Nat.gcd q.natAbs (b % q).natAbs=1:=g;rw [g',show (q.natAbs:Int)=q by lia,show ((b % q).natAbs:Int)=b % q by lia] at e
  refine ⟨y,?_⟩;have c:Cg q (b*y) (b % q*y):=((gQ q b).symm).mulR y;exact c.trans ⟨-x,by rw [gk];lia⟩
theorem yA{u x y:Int}(hq:aD q)(nu:¬q∣u)(h:Cg q (u*x) (u*y)):Cg q x y:=by
 refine lX fun z=>dN hq nu z ?_;unfold Cg at h
 rwa [Int.mul_sub]
theorem aux1{a k j:Int}(h:a-b*(q*k)=q*j):a=q*(j+b*k):=by grind
theorem aux2(m x y a b:Int):m*x-a+(m*y-b)=m*(x+y)-(a+b):=by grind
def gR(x:Int)(B:Nat):Prop:=x.natAbs≤B
structure CI (q:Int) (ts us:List Int) (f g:Row) (n0 m0 W:Nat) (r u v r' u' v':List Int) (ld ht:Int):Prop where
 bz:∀t,Cg q (cv (ae u) (ae ts) t+cv (ae v) (ae us) t) (ae r t)
 Ik:∀t,Cg q (cv (ae u') (ae ts) t+cv (ae v') (ae us) t) (ae r' t)
 tr:r≠[]→¬q∣ae r (r.length-1)
 o_:r'≠[]→¬q∣ae r' (r'.length-1)
 dv:∀D,cY q D (ae r)→cY q D (ae r')→cY q D (ae ts)∧cY q D (ae us)
 nl:¬q∣ld
 nh:¬q∣ht
 le:r'.length≤r.length
 h1:r.length=r'.length→ht=1
 ch:q=0→r'≠[]→Ch f n0 g m0 (aJ r u v) r.length (aJ r' u' v') r'.length ld.natAbs ht.natAbs
 ev:q=0→r'≠[]→∃X,X*ht.natAbs ^ (r.length-r'.length-1)=(ae r' (r'.length-1)).natAbs ^ (r.length-r'.length)∧X≤Bz W (n0+m0-2*r'.length)
 bh:ht.natAbs≤Bz W (n0+m0-2*r.length)
 bl:ld.natAbs≤Bz W (n0+m0-2*r.length)
 bA:∀i,(aJ r u v i).natAbs≤Bz W (n0+m0-2*r.length)
 bB:∀i,(aJ r' u' v' i).natAbs≤Bz W (n0+m0-2*r'.length)
 Cc:∀i,(aJ r' u' v' i).natAbs≤Bz W (n0+m0+2-2*r.length)
 rn:r.length≤n0
 rm:r'.length≤m0
structure CG (f g:Row) (n0 m0 W:Nat):Prop where
 bf:∀i,(f i).natAbs≤W
 bg:∀i,(g i).natAbs≤W
 mn:m0≤n0
 n5:n0≤5
 w1:1000≤W
section
variable {q:Int} {ts us:List Int} {f g:Row} {n0 m0 W:Nat} {r u v r' u' v':List Int} {ld ht:Int} {aA:Int} {bs ls:List Int}
variable {xs ys zs:List Int}
theorem vW:∀t,xs.length<t→aJ xs ys zs (3*t)=0:=fun t h=>by
 rw [mK];unfold up1;rw [ar (by lia)]
 exact dn (by lia)
theorem k8(h:1≤xs.length):aJ xs ys zs (3*xs.length)=ae xs (xs.length-1):=by rw [mK];unfold up1;rw [ar (by lia)]
theorem yB{t:Nat}:Lf aA (aJ r u v) (ae bs) (aJ r' u' v') (3*t)=up1 (fun k=>aA*ae r k-cv (ae bs) (ae r') k) t:=by
 unfold Lf;rw [mK,QJ];unfold up1
 split <;> simp
theorem CI.left(hq:aD q)(I:CI q ts us f g n0 m0 W r u v r' u' v' ld ht)(G:CG f g n0 m0 W)(ne:r'≠[])(lb:bs.length=r.length-r'.length+1)(ll:ls.length=r'.length-1)(e:∀k,Cg q (aA*ae r k) (cv (ae bs) (ae r') k+ae ls k))(em:q=0→aA=ae r' (r'.length-1) ^ (r.length-r'.length+1)) :
  ∃C:Row,(∀i,Cg q (Lf aA (aJ r u v) (ae bs) (aJ r' u' v') i) (ld*ht ^ (r.length-r'.length)*C i))∧(q=0→∀i,(C i).natAbs≤Bz W (n0+m0+2-2*r'.length)):=by
 have ke:¬q∣ld*ht ^ (r.length-r'.length):=dN hq I.nl (o6 hq I.nh _);have l1:1≤r'.length:=by
  cases r' with
  | nil=>exact absurd rfl ne
  | cons _ _=>simp
 by_cases q0:q=0
 ·subst q0
  have e0:∀k,aA*ae r k=cv (ae bs) (ae r') k+ae ls k:=fun k=>by have:=fN.mp (e k);lia
  have red:Red ((aJ r' u' v' (3*r'.length)) ^ (r.length-r'.length+1)) (aJ r u v) (aJ r' u' v') (Lf aA (aJ r u v) (ae bs) (aJ r' u' v')) (r.length-r'.length):=by rw [k8 l1,←em rfl];exact Ic fun j hj=>dn (by lia)
  have h0:∀t,r'.length-1<t→Lf aA (aJ r u v) (ae bs) (aJ r' u' v') (3*t)=0:=fun t ht=>by
   rw [yB];unfold up1;rw [ar (by lia)]
   show aA*ae r (t-1)-cv (ae bs) (ae r') (t-1)=0;rw [e0,dn (show ls.length≤t-1 by lia)]
   lia
  have L:=fun t=>Pk (I.ch rfl ne) red I.le l1 (by rw [k8 l1];exact fun z=>I.o_ ne (by rw [z];exact fM 0)) vW h0 t
  have dvd:∀t,ld*ht ^ (r.length-r'.length)∣Lf aA (aJ r u v) (ae bs) (aJ r' u' v') t:=fun t=>by rw [←Az,bq,gq,L t];exact ⟨_,rfl⟩
  refine ⟨fun t=>Lf aA (aJ r u v) (ae bs) (aJ r' u' v') t / (ld*ht ^ (r.length-r'.length)),fun t=>Cg.of_eq (Int.mul_ediv_cancel' (dvd t)).symm,fun _ t=>?_⟩;have eC:(Lf aA (aJ r u v) (ae bs) (aJ r' u' v') t / (ld*ht ^ (r.length-r'.length))).natAbs=S (r'.length-1) f n0 g m0 t:=by
   have p:0<(ld*ht ^ (r.length-r'.length)).natAbs:=gh.mpr fun z=>ke (by rw [z];exact fM 0)
   refine uZ p ?_;rw [←bq,Int.mul_ediv_cancel' (dvd t),L t,bq,gq]
  rw [eC];have rm:=I.rm;have b:=H_ (t:=t) G.bf G.bg (show r'.length-1<m0 by lia) G.mn
  refine ai b ?_;rw [show n0+m0-2*(r'.length-1)=n0+m0+2-2*r'.length by lia]
  unfold Bz;have:=G.mn;have:=G.n5;exact cI (Ii _ (by lia)) (gi (by have:=G.w1;lia) (by lia))
 ·obtain ⟨c,hc⟩:=Ij hq q0 ke
  refine ⟨fun i=>c*Lf aA (aJ r u v) (ae bs) (aJ r' u' v') i,fun i=>?_,fun z=>absurd z q0⟩;have:=hc.mulR (Lf aA (aJ r u v) (ae bs) (aJ r' u' v') i);exact ((Cg.of_eq (by grind)).trans (this.symm)).trans (Cg.of_eq (by grind))
theorem CI.next{r2 u2 v2:List Int}{h2:Int}{C:Row}(hq:aD q)(I:CI q ts us f g n0 m0 W r u v r' u' v' ld ht)(G:CG f g n0 m0 W)(ne:r'≠[])(lb:bs.length=r.length-r'.length+1)(ll:ls.length=r'.length-1)(e:∀k,Cg q (aA*ae r k) (cv (ae bs) (ae r') k+ae ls k))(nm:¬q∣aA)(em:q=0→aA=ae r' (r'.length-1) ^ (r.length-r'.length+1))
  (hC:∀i,Cg q (Lf aA (aJ r u v) (ae bs) (aJ r' u' v') i) (ld*ht ^ (r.length-r'.length)*C i)) (bC:q=0→∀i,(C i).natAbs≤Bz W (n0+m0+2-2*r'.length)) (e2:∀i,Cg q (aJ r2 u2 v2 i) (C i)) (b2:q≠0→∀i,(aJ r2 u2 v2 i).natAbs≤W) (l2:r2.length≤r'.length-1) (t2:r2≠[]→¬q∣ae r2 (r2.length-1))
  (eh:Cg q (ae r' (r'.length-1) ^ (r.length-r'.length)) (ht ^ (r.length-r'.length-1)*h2)) (QL:gR h2 (Bz W (n0+m0-2*r'.length))):CI q ts us f g n0 m0 W r' u' v' r2 u2 v2 (ae r' (r'.length-1)) h2:=by
 have ke:¬q∣ld*ht ^ (r.length-r'.length):=dN hq I.nl (o6 hq I.nh _);have l1:1≤r'.length:=by
  cases r' with
  | nil=>exact absurd rfl ne
  | cons _ _=>simp
 have nG:=I.o_ ne;have w1:1≤W:=by have:=G.w1;lia
 have eA:∀i,Cg q (Lf aA (aJ r u v) (ae bs) (aJ r' u' v') i) (ld*ht ^ (r.length-r'.length)*aJ r2 u2 v2 i):=fun i=>(hC i).trans ((e2 i).symm.mulL _);have bT:∀i,(aJ r2 u2 v2 i).natAbs≤Bz W (n0+m0+2-2*r'.length):=fun i=>by
  by_cases q0:q=0
  ·have z:=e2 i
   have z':=bC q0 i;subst q0
   rwa [oa.mp (fN.mp z)]
  ·exact ai (b2 q0 i) (ka w1)
 have e0:∀t,Cg q (ld*ht ^ (r.length-r'.length)*ae r2 t) (aA*ae r t-cv (ae bs) (ae r') t):=fun t=>by have z:=(eA (3*(t+1))).symm;rw [mK,yB] at z;exact z
 have e1:∀t,Cg q (ld*ht ^ (r.length-r'.length)*ae u2 t) (aA*ae u t-cv (ae bs) (ae u') t):=fun t=>by
  have z:=(eA (3*t+1)).symm;unfold Lf at z
  rwa [o8,o8,Ig] at z
 have e3:∀t,Cg q (ld*ht ^ (r.length-r'.length)*ae v2 t) (aA*ae v t-cv (ae bs) (ae v') t):=fun t=>by
  have z:=(eA (3*t+2)).symm;unfold Lf at z
  rwa [o9,o9,Ih] at z
 have QM:¬q∣h2:=fun z=>by have:=eh.nz (b:=ht ^ (r.length-r'.length-1)*h2);exact o6 hq nG (r.length-r'.length) (by obtain ⟨k,hk⟩:=z;obtain ⟨j,hj⟩:=eh;exact ⟨j+ht ^ (r.length-r'.length-1)*k,aux1 (by rw [hk] at hj;exact hj)⟩)
 have hH:q=0→h2.natAbs*ht.natAbs ^ (r.length-r'.length)=(aJ r' u' v' (3*r'.length)).natAbs ^ (r.length-r'.length)*ht.natAbs:=fun z=>by
  subst z;have z:=oa.mp (fN.mp eh);have zz:=fL Int.natAbs z;rw [bq,gq,gq] at zz;rw [k8 l1,zz];by_cases g0:r.length=r'.length
  ·have h1:=I.h1 g0
   rw [h1,g0];simp
  ·obtain ⟨k,hk⟩:∃k,r.length-r'.length=k+1:=⟨r.length-r'.length-1,by have:=I.le;lia⟩
   rw [hk,show k+1-1=k by lia,d4]
   ac_rfl
 have lp:ld≠0:=fun z=>I.nl (by rw [z];exact fM q)
 have hp:ht≠0:=fun z=>I.nh (by rw [z];exact fM q)
 have fz:q=0→Red ((aJ r' u' v' (3*r'.length)) ^ (r.length-r'.length+1)) (aJ r u v) (aJ r' u' v') (fun i=>ld*ht ^ (r.length-r'.length)*aJ r2 u2 v2 i) (r.length-r'.length):=fun z=>by
  have:(fun i=>ld*ht ^ (r.length-r'.length)*aJ r2 u2 v2 i)=Lf aA (aJ r u v) (ae bs) (aJ r' u' v'):=funext fun i=>by have y:=eA i;subst z;exact (oa.mp (fN.mp y)).symm
  rw [this,k8 l1,←em z];exact Ic fun j hj=>dn (by lia)
 have G0:aJ r' u' v' (3*r'.length)≠0:=by rw [k8 l1];exact fun z=>nG (by rw [z];exact fM q)
 refine ⟨I.Ik,fun t=>yA hq ke ?_,I.o_,t2,fun D d1 d2=>I.dv D ?_ d1,nG,QM,by clear hH;lia,fun z=>by clear hH;lia,fun z n2=>?_,fun z n2=>?_,QL,by rw [←k8 (ys:=u') (zs:=v') l1];exact I.bB _,I.bB,fun i=>?_,fun i=>?_,by have:=I.le;have:=I.rn;lia,by have:=I.rm;lia⟩
 ·have a:=vT (k:=t) e1 (fun i=>Cg.refl (ae ts i))
  have b:=vT (k:=t) e3 (fun i=>Cg.refl (ae us i));rw [mI] at a b;have s1:∀(x y w:Nat→Int),cv (fun i=>aA*x i-cv (ae bs) y i) w t=aA*cv x w t-cv (ae bs) (cv y w) t:=fun x y w=>by
   rw [←HV,←mI,show (fun i=>aA*x i-cv (ae bs) y i)=fun i=>aA*x i+(-1)*cv (ae bs) y i from funext fun i=>by lia,HS,mI (-1),mI]
   lia
  rw [s1] at a b;have c1:=I.bz t;have c2:Cg q (cv (ae bs) (cv (ae u') (ae ts)) t+cv (ae bs) (cv (ae v') (ae us)) t) (cv (ae bs) (ae r') t):=by rw [←QB];exact vT (fun _=>Cg.refl _) I.Ik
  refine (Cg.of_eq (jD ..)).trans ((a.add b).trans (Cg.trans ?_ (e0 t).symm));exact (Cg.of_eq (aux2 ..)).trans ((c1.mulL aA).sub c2)
 ·refine cY.made hq d1 d2 (least:=ld*ht ^ (r.length-r'.length)) (b:=ae bs) (n:=bs.length) (fun i hi=>dn hi) nm fun t=>?_
  have z:=(Cg.refl (q:=q) (cv (ae bs) (ae r') t)).add (e0 t);exact (Cg.of_eq (by rw [Int.add_comm,Int.sub_add_cancel])).trans z.symm
 ·have c:=Pl (e:=ld*ht ^ (r.length-r'.length)) (C:=aJ r2 u2 v2) (l:=r2.length) (I.ch z ne) (gh.mpr lp) (gh.mpr hp) (fz z) (by rw [bq,gq]) I.le G0 vW (by clear hH;lia) vW (hH z)
  rwa [k8 l1] at c
 ·have l3:1≤r2.length:=by
   cases r2 with
   | nil=>exact absurd rfl n2
   | cons _ _=>simp
  have c:=Pn (e:=ld*ht ^ (r.length-r'.length)) (C:=aJ r2 u2 v2) (l:=r2.length) (I.ch z ne) (gh.mpr lp) (gh.mpr hp) (fz z) (by rw [bq,gq]) I.le G0 vW (by clear hH;lia) vW (hH z)
  rw [k8 l3] at c;have rm:=I.rm;have b:=H_ (t:=3*r2.length) G.bf G.bg (show r2.length<m0 by clear hH;lia) G.mn
  refine ⟨_,c,ai b ?_⟩;unfold Bz;have:=G.mn;have:=G.n5;exact cI (Ii _ (by clear hH;lia)) (gi (by have:=G.w1;clear hH;lia) (by clear hH;lia))
 ·exact ai (bT i) (vV (by lia) w1)
 ·exact bT i
end
end My
namespace L2
open PySem PySem.Spec PyProof.Rows
theorem QN{X:Cx}:vd X .Mult (fun x y H Q=>∃i j,x=.int i∧y=.int j∧yb i j∧Q (.int (i*j)) H):=by intro pins s σ H x y v u Q I r1 r2 h;obtain ⟨i,j,e1,e2,c,q⟩:=h;subst e1;subst e2;obtain ⟨t,rfl⟩:=r1;obtain ⟨t',rfl⟩:=r2;exact imul_int ⟨.int _,H,I.tok _,⟨_,rfl⟩,q⟩ c.ok
end L2
namespace My
open PySem L2 Srs
variable {σ:St} {H:Hp}
theorem ft{a b:TS}{D:Ends}(h:∀R:St→Hp→Prop,(∀σ H,b D σ H→R σ H)→a {D with nx:=R} σ H):AI a b D σ H:=h _ fun _ _ h=>h
theorem QO{te:TE}{tr:TA}{Q:List V→Hp→Prop}(h:te σ H fun x H1=>tr σ H1 fun ys H2=>Q (x::ys) H2):fJ te tr σ H Q:=h
variable {x:Int}
theorem eK(h:x.natAbs≤10 ^ 600):aU x:=i6 h (by decide +kernel)
def Rm(q:Int)(xs:List Int):Prop:=q≠0→∀x∈xs,0≤x∧x<q
def cV(q:Int)(xs:List Int):Prop:=xs≠[]→¬q∣ae xs (xs.length-1)
variable {q:Int}
theorem QP(h:q≠0→0≤x∧x<q)(n:x≠0):¬q∣x:=fun d=>by
 by_cases q0:q=0
 ·rw [q0] at d
  exact n (fN.mp d)
 ·obtain ⟨k,hk⟩:=d
  have b:=h q0;have:k=0:=by
   rcases Int.lt_trichotomy k 0 with y | y | y
   ·have:q*k≤q*(-1):=jC (by lia) (by lia)
    lia
   ·exact y
   ·have:q*1≤q*k:=jC (by lia) (by lia)
    lia
  rw [this,dQ] at hk;exact n hk
theorem Il{rs:List Int}{k:Nat}(nn:Rm q rs)(hk:k≤rs.length)(hn:0<k→ae rs (k-1)≠0)(hz:∀j,k≤j→ae rs j=0):Rm q (rs.take k)∧cV q (rs.take k)∧∀t,ae (rs.take k) t=ae rs t:=by
 have ek:∀t,ae (rs.take k) t=ae rs t:=fun t=>by
  unfold ae;rw [d3,d3,List.getElem?_take];by_cases h:t<k;·rw [au h]
  ·rw [ar h]
   have:=hz t (by lia)
   unfold ae at this;rw [d3] at this;rw [this];rfl
 refine ⟨fun q0 x hx=>nn q0 x (List.mem_of_mem_take hx),fun ne=>?_,ek⟩;have l:(rs.take k).length=k:=by rw [lL];lia
 have k1:0<k:=by rw [←l];exact gJ.mpr ne
 rw [ek,l];have hi:k-1<rs.length:=by lia
 refine QP (fun q0=>?_) (hn k1);rw [show ae rs (k-1)=rs[k-1] from getD_at hi];exact nn q0 _ (gI hi)
variable {ts:List Int}
theorem Cd{C z a:Addr}{Q:VK}{E:XK}(hz:dE C H z q)(hq:aD q)(ea:H a=some (.lst (ts.map V.int)))(l:ts.length≤500)(m:∀t∈ts,aU t)(k:∀(c:Addr) (H':Hp),ah H H'→H c=none→H' c=some (.lst ((ts.map fun x=>x % q).map V.int))→Q (.ref c) H'):HR C [.ref z,.ref a,.int 1] H Q E:=by
 refine ⟨z,a,q,ts,1,fun i=>ts.getD i 0,rfl,hz,hq,ea,l,m,aU.of_lt (by decide) (by decide),iP hq,fun i _=>Cg.of_eq (qG _).symm,fun c H' rs s n e lr cg nn=>k c H' s n ?_⟩
 rw [e]
 congr 3
 refine List.ext_getElem (by simp [lr]) fun i h1 h2=>?_
 have hi:i<ts.length:=by lia
 have c1:Cg q (rs.getD i 0) (ts.getD i 0):=cg i hi;rw [getD_at h1,getD_at hi] at c1;rw [iB];by_cases q0:q=0
 ·subst q0
  rw [Int.emod_zero];exact oa.mp (fN.mp c1)
 ·have b:=nn q0 _ (gI h1)
  have c2:=c1.trans (gQ q ts[i]).symm;have k1:=dk ts[i] q0;have k2:=du ts[i] (show 0<q by lia)
  obtain ⟨k,hk⟩:=c2;have:k=0:=by
   rcases Int.lt_trichotomy k 0 with y | y | y
   ·have:q*k≤q*(-1):=jC (by lia) (by lia)
    lia
   ·exact y
   ·have:q*1≤q*k:=jC (by lia) (by lia)
    lia
  rw [this] at hk;lia
def QQ:Sp:=fun vs H Q _=>∃(a:Addr) (ts:List Int),vs=[.ref a]∧H a=some (.lst (ts.map V.int))∧ts.length≤500 ∧
 ∀(b:Addr) (H':Hp) (k:Nat),ah H H'→H b=none→k≤ts.length→(∀j,k≤j→ae ts j=0)→(0<k→ae ts (k-1)≠0)→H' b=some (.lst ((ts.take k).map V.int))→Q (.ref b) H'
def QR:Sp:=fun vs H Q _=>∃(x n:Int),vs=[.int x,.int n]∧-5≤n∧n≤100∧(∀i,i≤n.toNat→(x ^ i).natAbs≤10 ^ 600)∧x.natAbs≤10 ^ 600∧Q (.int (x ^ n.toNat)) H
def QS:Sp:=fun vs H Q _=>∃(a b:Addr) (ts us:List Int),vs=[.ref a,.ref b]∧H a=some (.lst (ts.map V.int))∧H b=some (.lst (us.map V.int))∧ts.length≤200∧us.length≤200 ∧
 ∀(c:Addr) (H':Hp) (rs:List Int),ah H H'→H' c=some (.lst (rs.map V.int))→rs.length=max ts.length us.length→(∀t,ae rs t=ae ts t-ae us t)→Q (.ref c) H'
def Im(C0:Addr):Sp:=fun vs H Q _=>∃(z a b c:Addr) (q:Int) (xs ys bs:List Int) (aA least:Int) (u:Nat→Int),vs=[.ref z,.ref a,.ref b,.ref c,.int aA,.int least]∧dE C0 H z q∧aD q∧H a=some (.lst (xs.map V.int))∧H b=some (.lst (ys.map V.int))∧H c=some (.lst (bs.map V.int))∧xs.length≤50∧ys.length≤50∧bs.length≤50∧(∀x∈xs,x.natAbs≤10 ^ 600∧(aA*x).natAbs≤10 ^ 599)∧(∀y∈ys,y.natAbs≤10 ^ 600)∧(∀b∈bs,b.natAbs≤10 ^ 600)∧(∀t,(cv (ae bs) (ae ys) t).natAbs≤10 ^ 599)∧aA.natAbs≤10 ^ 600∧least.natAbs≤10 ^ 600∧¬q∣least∧(∀t,Cg q (aA*ae xs t-cv (ae bs) (ae ys) t) (least*u t)) ∧
 ∀(r:Addr) (H':Hp) (rs:List Int),ah H H'→H r=none→H' r=some (.lst (rs.map V.int))→rs.length≤max xs.length (bs.length+ys.length)→(∀t,Cg q (ae rs t) (u t))→Rm q rs→cV q rs→Q (.ref r) H'
def QT(C0:Addr):Sp:=fun vs H Q _=>∃(z a b:Addr) (q:Int) (ts us:List Int) (T U:Nat),vs=[.ref z,.ref a,.ref b]∧dE C0 H z q∧aD q∧H a=some (.lst (ts.map V.int))∧H b=some (.lst (us.map V.int))∧ts.length≤100∧us.length≤100∧1≤us.length∧(∀x∈ts,x.natAbs≤T)∧(∀x∈us,x.natAbs≤U)∧1≤U∧1000≤T∧T*(2*U) ^ (ts.length+1-us.length)≤10 ^ 580∧U≤10 ^ 580∧¬q∣us.getD (us.length-1) 0∧(0<ts.length+1-us.length→¬q∣ts.getD (ts.length-1) 0) ∧
 ∀(p l1 l2:Addr) (bs ls:List Int) (aA:Int) (H':Hp),ah H H'→H' p=some (.tup [.ref l1,.ref l2,.int aA])→H' l1=some (.lst (bs.map V.int))→H' l2=some (.lst (ls.map V.int))→j_ q ts us T U (ts.length+1-us.length) (ts.length+1-us.length) bs ls aA→(q=0→aA=us.getD (us.length-1) 0 ^ (ts.length+1-us.length))→Q (.ref p) H'
theorem kf{xs:List Int}{B:Nat}(h:∀x∈xs,x.natAbs≤B)(k:Nat):(ae xs k).natAbs≤B:=by
 by_cases hk:k<xs.length
 ·rw [show ae xs k=xs[k] from getD_at hk]
  exact h _ (gI _)
 ·rw [dn (by lia)]
  exact bO _
theorem vX(f:Nat→Int)(t:Nat):cv (ae []) f t=0:=by unfold cv;rw [di (g:=fun _=>0) fun i _=>by rw [dn (bO _),fE],iN]
theorem yC(f:Nat→Int)(t:Nat):cv (ae [1]) f t=f t:=by
 unfold cv;rw [aK,show (fun i=>ae [1] (i+1)*f (t-(i+1)))=fun _=>0 from funext fun i=>by rw [dn (by simp),fE],iN]
 show (1:Int)*f (t-0)+0=f t;rw [qG,jI,u3]
variable {W:Nat}
theorem Ce{a b c:List Int}(ha:∀x∈a,x.natAbs≤W)(hb:∀x∈b,x.natAbs≤W)(hc:∀x∈c,x.natAbs≤W):∀i,(aJ a b c i).natAbs≤W:=Ie (fun t=>by
 rw [mK];unfold up1
 split
 ·exact bO _
 ·exact kf ha _) (fun t=>by rw [o8];exact kf hb _) (fun t=>by rw [o9];exact kf hc _)
theorem CI.start{us r u v r' u' v':List Int}(hq:aD q)(w1:1000≤W)(n5:r.length≤5)(le:r'.length≤r.length)(br:∀x∈r,x.natAbs≤W)(vY:∀x∈r',x.natAbs≤W)(bx:(∀x∈u,x.natAbs≤W)∧(∀x∈v,x.natAbs≤W)∧(∀x∈u',x.natAbs≤W)∧∀x∈v',x.natAbs≤W)(tr:cV q r)(o_:cV q r')
  (b1:∀t,cv (ae u) (ae ts) t+cv (ae v) (ae us) t=ae r t) (b2:∀t,cv (ae u') (ae ts) t+cv (ae v') (ae us) t=ae r' t) (dv:∀D,cY q D (ae r)→cY q D (ae r')→cY q D (ae ts)∧cY q D (ae us)) :
  CI q ts us (aJ r u v) (aJ r' u' v') r.length r'.length W r u v r' u' v' 1 1∧CG (aJ r u v) (aJ r' u' v') r.length r'.length W:=by
 have bf:=Ce br bx.1 bx.2.1;have bg:=Ce vY bx.2.2.1 bx.2.2.2;have w0:1≤W:=by lia
 refine ⟨⟨fun t=>Cg.of_eq (b1 t),fun t=>Cg.of_eq (b2 t),tr,o_,dv,iP hq,iP hq,le,fun _=>rfl,fun _ _=>Pj,fun _ ne=>?_,ai w0 (ka w0),ai w0 (ka w0),fun i=>ai (bf i) (ka w0),fun i=>ai (bg i) (ka w0),fun i=>ai (bg i) (ka w0),aO _,aO _⟩,bf,bg,le,n5,w1⟩;refine ⟨(ae r' (r'.length-1)).natAbs ^ (r.length-r'.length),by simp,?_⟩
 have b:=Nat.pow_le_pow_left (kf vY (r'.length-1)) (r.length-r'.length);refine ai b ?_;unfold Bz;exact ai (gi w0 (by lia)) (lY _ (by decide))
def rV(W N:Nat):Prop:=∀n0 m0 n m,n0≤N→m0≤n0→n≤n0→m≤n→1≤m→100*(Bz W (n0+m0-2*n)*(2*Bz W (n0+m0+2-2*n)) ^ (n-m+1))≤10 ^ 580
def QU(W N:Nat):Bool:=(List.range (N+1)).all fun n0=>(List.range (n0+1)).all fun m0=>(List.range (n0+1)).all fun n=>(List.range (n+1)).all fun m=>m == 0 || decide (100*(Bz W (n0+m0-2*n)*(2*Bz W (n0+m0+2-2*n)) ^ (n-m+1))≤10 ^ 580)
theorem Io{N:Nat}(h:QU W N=true):rV W N:=fun n0 m0 n m a b c d e=>by
 have h1:=lO.mp h n0 (ku.mpr (by lia))
 have h2:=lO.mp h1 m0 (ku.mpr (by lia))
 have h3:=lO.mp h2 n (ku.mpr (by lia))
 have h4:=lO.mp h3 m (ku.mpr (by lia))
 rcases Bool.or_eq_true_iff.mp h4 with z | z
 ·have:=jz.mp z
  lia
 ·exact dC z
section
variable {q:Int} {ts us:List Int} {f g:Row} {n0 m0 W:Nat} {r u v r' u' v':List Int} {ld ht:Int}
theorem CI.high(hq:aD q)(I:CI q ts us f g n0 m0 W r u v r' u' v' ld ht)(ne:r'≠[]):∃x:Int,Cg q (ae r' (r'.length-1) ^ (r.length-r'.length)) (ht ^ (r.length-r'.length-1)*x)∧(q=0→x.natAbs≤Bz W (n0+m0-2*r'.length)):=by
 have nh:=o6 hq I.nh (r.length-r'.length-1);by_cases q0:q=0
 ·obtain ⟨X,e,b⟩:=I.ev q0 ne
  have d:ht ^ (r.length-r'.length-1)∣ae r' (r'.length-1) ^ (r.length-r'.length):=by rw [←Az,gq,gq,←e];exact ⟨X,jB _ _⟩
  obtain ⟨x,hx⟩:=d;refine ⟨x,Cg.of_eq hx,fun _=>?_⟩;have p:0<(ht ^ (r.length-r'.length-1)).natAbs:=gh.mpr fun z=>nh (by rw [z];exact fM q)
  have e2:(ht ^ (r.length-r'.length-1)).natAbs*x.natAbs=(ht ^ (r.length-r'.length-1)).natAbs*X:=by rw [←bq,←hx,gq,gq,←e,jB]
  rw [uZ p e2];exact b
 ·obtain ⟨c,hc⟩:=Ij hq q0 nh
  refine ⟨c*ae r' (r'.length-1) ^ (r.length-r'.length),?_,fun z=>absurd z q0⟩;have:=hc.mulR (ae r' (r'.length-1) ^ (r.length-r'.length));exact (Cg.of_eq (qG _).symm).trans (this.symm.trans (Cg.of_eq (kA ..)))
end
def QV(C0:Addr):Sp:=fun vs H Q _=>∃(z a b:Addr) (q:Int) (ts us:List Int) (W N:Nat),vs=[.ref z,.ref a,.ref b]∧dE C0 H z q∧aD q∧H a=some (.lst (ts.map V.int))∧H b=some (.lst (us.map V.int))∧ts.length≤N∧us.length≤N∧N≤5∧rV W N∧1000≤W∧W≤10 ^ 580∧(∀x∈ts,x.natAbs≤W)∧(∀x∈us,x.natAbs≤W)∧cV q ts∧cV q us ∧
 ∀(p l0 l1 l2:Addr) (r u v:List Int) (H':Hp),ah H H'→H' p=some (.lst [.ref l0,.ref l1,.ref l2])→H' l0=some (.lst (r.map V.int))→H' l1=some (.lst (u.map V.int))→H' l2=some (.lst (v.map V.int))→cV q r→cV q u→cV q v→(∀t,Cg q (cv (ae u) (ae ts) t+cv (ae v) (ae us) t) (ae r t))→(r=[]→ts=[]∧us=[])→cY q (ae r) (ae ts)→cY q (ae r) (ae us)→r.length≤50→u.length≤50→v.length≤50→(r≠[]→(∀x∈r,x.natAbs≤Bz W (2*N-2*r.length))∧(∀x∈u,x.natAbs≤Bz W (2*N-2*r.length))∧∀x∈v,x.natAbs≤Bz W (2*N-2*r.length))→Q (.ref p) H'
end My
namespace L2
open PySem PySem.Spec PyProof.Rows
section
variable {X:Cx} {N:List Str} {scope:Scope} {cl:List (Str×Addr)} {x y:Str} {px py pos tp:Pos} {jo:Nat} {iter elt:Expr} {ifs:List Expr} {wi:TI} {ρ:St→St} {tt:TT} {te:TE}
theorem QW{y9:Str}{rX vC:Pos}{i0:Nat}(B:BE X N scope cl x y ρ)(hc:X.calm=true)(hN:X.N.Nodup)(kX:X.N[i0]?=some y9)(hy:Loc X.env.scope y9)(hi:PI X (.Tuple [.Name x px,.Name y py] jo tp) iter wi)(ht:∀s₃ H₃ fp,jU (X.aY N scope cl s₃ H₃ fp) ifs tt)(he:∀s₃ H₃ fp,PE (X.aY N scope cl s₃ H₃ fp) elt te)
  (BB:swapsWith (.ListComp elt [⟨.Tuple [.Name x px,.Name y py] jo tp,iter,ifs,0⟩] scope pos) (some (.Name y9 rX)) vC.line X.env=pure true:=by rfl) (hf:X.fn y9=true∨X.env.scope.names.lookup y9=some .local:=by first | exact .inl rfl | exact .inr rfl | assumption)
  (hs:∀x,foldedSetIterable iter X.env x=pure x:=by intro _;rfl):PS X (.Assign [.Name y9 rX] (.ListComp elt [⟨.Tuple [.Name x px,.Name y py] jo tp,iter,ifs,0⟩] scope pos) vC) (mh (rH X.K wi ρ tt te) (b5 i0)):=by
 intro pins s σ H D0 I h
 have h:rH X.K wi ρ tt te σ H (fun v H1=>D0.nx (σ.set i0 (some v)) H1):=h
 rw [exec_Assign_Name_used _ _ _ _ BB]
 refine cw (uK (cw ?_))
 show wpAny _ X.A (do let _ ←comprehension (.ListComp elt [⟨.Tuple [.Name x px,.Name y py] jo tp,iter,ifs,0⟩] scope pos) scope X.env _ (newList []) false (eval iter X.env) (some (assign (.Name y9 rX) X.env))) _ _ s
 refine cw (cf (Q:=fun _ s'=>SP X pins D0 .next s') ?_ (fun _ s' hq=>d0 (d0 hq)) fun _ _ e=>e)
 refine xh (use:=some (assign (.Name y9 rX) X.env)) rfl hs B.vp B.kind B.names (aB (hi pins s σ H _ I h) fun v s1 h1=>aB h1 fun qU s2 h2=>?_)
 obtain ⟨it,fp,tn,J,H2,rfl,I2,T,fG,f2,q2⟩:=h2
 have nD:H2 s2.heap.objs.size=none:=I2.ay.fresh (aO _)
 obtain ⟨W,⟨m0,w0⟩,turn⟩:=q2 _ nD
 refine uM (xi B.vq (by intro y hy;simp at hy) (fun h₁ eZ e7=>?_) B.kind)
 dsimp only at eZ e7 ⊢
 generalize hD:s2.heap.objs.size=D at nD w0 turn eZ e7 ⊢
 generalize eI:({s2 with heap:=s2.heap.push {cls:=.type "list",dict:=none,data:=.seq ([]:List Value).toArray}}:Shared)=s3
 have I3:Inv X pins σ (upd H2 D (.lst [])) s3:=by
  subst hD eI
  exact I2.laid (t':=s2.toks) (fun b u e=>de _ e) (aO _) ⟨bO _,[],_,.nil,gg _ rfl⟩
 have e3:s3.heap=s2.heap.push {cls:=.type "list",dict:=none,data:=.seq ([]:List Value).toArray}:=by rw [←eI]
 have e_:∀b o,s2.heap.get? b=some o→s3.heap.get? b=some o:=fun b o e=>by rw [e3];exact de _ e
 rw [←e3] at eZ e7 ⊢
 have below:∀b o,s3.heap.get? b=some o→b≠s3.heap.objs.size:=fun b o e=>dZ (bK e)
 have dm:∀b o,s3.heap.get? b=some o→h₁.get? b=some o:=fun b o e=>e7.extBut b o (below b o e) (de _ e)
 have gu:∀b∈fp,∃o,s2.heap.get? b=some o∧∀v,o.data≠.cell v:=T.obj _ _ fG
 have oJ:∀b∈fp,b≠D:=fun b hb z=>by
  obtain ⟨o,e,_⟩:=gu b hb
  rw [z,←hD] at e
  exact absurd (bK e) (gF _)
 have cT:∀y c,cl.lookup y=some c→X.env.cells.lookup y=some c:=fun y c e=>B.sub (y,c) (jA e)
 have oK:=I3.qL
 have fU:(X.aY N scope cl s3 (upd H2 D (.lst [])) fp).Ok:=by
  refine ⟨I.ok.mod,B.kind,I.ok.glob,I.ok.blt,aO _,fun a b c e1 e2=>I.ok.inj a b c (cT a c e1) (cT b c e2),fun y hy=>B.has y hy,(fun _ _ z _=>absurd z cZ),(fun _=>I.ok.hd hc),I.ok.frames,.inl rfl,fun b hb=>⟨?_,fun y c e z=>?_⟩,fun b o e=>?_,ai I.ok.gr I3.sz,fun b o e hb=>?_,fun b hb z=>?_,I3.stack,oK⟩
  ·obtain ⟨o,e,_⟩:=gu b hb
   exact below b o (e_ b o e)
  ·exact (f2 b hb).2.2.2.2.1 y c (cT y c e) z
  ·exact I3.bs b o e
  ·rcases (f2 b hb).2.2.2.1 with z | z
   ·exact I.ok.l_ b o e z
   ·exact absurd (dB (bK e) (ai I.ok.gr z)) (gF _)
  ·rcases dH.mp (I3.qK b z) with z | z
   ·exact (f2 b hb).2.1 z
   ·exact (f2 b hb).2.2.1 z
 have IB:∀tk:Nat,Inv (X.aY N scope cl s3 (upd H2 D (.lst [])) fp) [] (none::none::ρ σ) (upd H2 D (.lst [])) {s3 with heap:=h₁,toks:=tk}:=fun tk=>by
  refine ⟨fU,rfl,I3.bare,Un.kept dm,⟨_,eZ,fun j y v e1 e2 e3=>?_⟩,fun y c e=>?_,?_,fun y c e=>I3.g_ y c (cT y c e),(fun p hp=>nomatch hp),I3.ay.kept dm,?_⟩
  ·cases j with
   | zero=>cases e2
   | succ j=>
   cases j with
   | zero=>cases e2
   | succ j=>
    obtain ⟨i,y',a1,a2,a3,a4,a5,a6⟩:=B.vt σ j v e2
    have jW:N[j+1+1]?=some y:=e1
    rw [jW] at a1
    cases a1
    obtain ⟨m,hn,hl⟩:=I3.loc
    obtain ⟨u,r,l⟩:=hl i y v a2 a3 a4
    refine ⟨u,r,.inr ⟨a6,?_⟩⟩
    obtain ⟨c,ec⟩:=B.has y a6
    rcases l with ⟨k,_⟩ | ⟨_,c',jh,z⟩
    ·rcases a5 with q | q <;> (rw [k] at q;cases q)
    ·have:=cT y c ec
     rw [this] at jh
     cases jh
     obtain ⟨o,ho,hd⟩:=z
     exact ⟨c,ec,o,dm _ _ ho,hd⟩
  ·obtain ⟨v,o,ho,hd⟩:=I3.cell y c (cT y c e)
   exact ⟨v,o,dm _ _ ho,hd⟩
  ·exact I3.ay.fresh (aO _)
  ·show (none::none::ρ σ).length=N.length
   rw [d9,d9]
   exact B.len σ I.len
 have oS:∀b o,s3.heap.get? b=some o→b≠s3.heap.objs.size:=below
 have fin:∀{σ':St} {H':Hp} {s':Shared},Inv (X.aY N scope cl s3 (upd H2 D (.lst [])) fp) [] σ' H' s'→D0.nx (σ.set i0 (some (.ref D))) H'→compPost (model X.prog X.w) X.A X.xe (some (assign (.Name y9 rX) X.env)) (fun _ s'=>SP X pins D0 .next s') (.ref D) s3.heap.objs.size (.ok .next) s':=fun{σ' H' s'} J q=>by
  obtain ⟨m,hn,_⟩:=J.loc
  have hn:s'.heap.Ns s3.heap.objs.size m:=hn
  have JC:H' s3.heap.objs.size=none:=J.free
  have u1:Un (cE X.stack) fp (upd H2 D (.lst [])) H' s3.heap s'.heap:=by
   refine ⟨fun b o e n hb hx=>J.base.keep b o e n hb hx,fun b o e n hb hx=>J.base.slot b o e n hb hx,J.base.free,fun b o e hx=>J.base.there b o e hx,J.base.fP,J.base.fF,J.base.fQ⟩
  have IX:Inv X pins σ H' s':=I3.jM (ch:=fp) (J.os) u1 J.ay J.bare fun b hb=>by
   obtain ⟨g0,g1,g2,g3,g4,g5⟩:=f2 b hb
   exact ⟨g3,g1,g4,g5⟩
  have nl:X.env.locals≠s3.heap.objs.size:=by
   obtain ⟨m3,⟨o3,_,_,e3,_⟩,_⟩:=I3.loc
   exact oS _ _ e3
  have nc:∀z c,X.env.cells.lookup z=some c→c≠s3.heap.objs.size:=fun z c e=>by
   obtain ⟨v3,o3,e3,_⟩:=I3.cell z c e
   exact oS _ _ e3
  refine wpAny_assign_Name (AG (v:=.ref D) IX hN kX hy rfl (fun ig oT oU=>?_) hf)
  obtain ⟨a,oU,ha⟩:=oU
  have na:s3.heap.objs.size≠a:=by
   rcases ha with rfl | e
   ·exact fun z=>nl z.symm
   ·exact fun z=>nc _ _ e z.symm
  refine ⟨m,hn.sameBut oU na,fun h' fb=>⟨σ.set i0 (some (.ref D)),H',?_,q⟩⟩
  have u2:Un (cE X.stack) [s3.heap.objs.size] H' H' ig.heap h':=by
   refine ⟨fun b o e n hb hx=>(fb.2 b (by simpa using hx)).trans e,fun b o e n hb hx=>⟨o.slots,(fb.2 b (by simpa using hx)).trans e⟩,fun b o e n hx=>n,fun b o e hx=>⟨o,(fb.2 b (by simpa using hx)).trans e⟩,fun b xs z=>z,fun b o u z=>z,fun b ps z=>⟨#[],by simpa using z⟩⟩
  have oM:cJ X.prog X.w H' h':=fun b u e=>by
   refine (oT.ay b u e).gL (fun c v hc z=>(fb.2 c fun y=>?_).trans z) (fun _ z=>z) fun _ _ z=>z
   have y':c=s3.heap.objs.size:=y
   rcases hc with hc | hc
   ·rw [←hc,y',JC] at e
    cases e
   ·rw [y',JC] at hc
    cases hc
  refine oT.jM (s':={ig with heap:=h'}) (ch:=[s3.heap.objs.size]) rfl u2 oM oT.bare fun b hb=>?_
  have eb:b=s3.heap.objs.size:=by simpa using hb
  subst eb
  refine ⟨.inr I3.sz,fun z=>nl z.symm,fun z c e=>nc z c e,fun p hp=>?_⟩
  exact oS _ _ (I3.pin p hp).1
 have eV:∀{H':Hp},(∀b∈fp,H' b=none)→∀b∈fp,jP (X.aY N scope cl s3 (upd H2 D (.lst [])) fp) [] H' b:=fun hn b hb=>by
  refine ⟨hn b hb,?_,?_,.inl hb,fun y c e z=>(f2 b hb).2.2.2.2.1 y c (cT y c e) z,fun p hp=>nomatch hp⟩
  ·obtain ⟨o,e,_⟩:=gu b hb
   exact below b o (e_ b o e)
  ·exact fU.ma b hb
 have loop:∀tk:Nat,codeAny (model X.prog X.w) X.A (.compLoop (.ListComp elt [⟨.Tuple [.Name x px,.Name y py] jo tp,iter,ifs,0⟩] scope pos) 0 (.ref it) (.ref D) (compEnvC scope cl s3.heap.objs.size X.env))
   (compPost (model X.prog X.w) X.A X.xe (some (assign (.Name y9 rX) X.env)) (fun _ s'=>SP X pins D0 .next s') (.ref D) s3.heap.objs.size) {s3 with heap:=h₁,toks:=tk}:=fun tk=>by
  refine Gv (fun n s'=>∃i ys o o2 H',Inv (X.aY N scope cl s3 (upd H2 D (.lst [])) fp) [] (o::o2::ρ σ) H' s'∧tn i s'.heap∧(∀b∈fp,H' b=none)∧W i n ys H') ?_ m0
   ⟨0,[],none,none,_,IB tk,T.keep _ _ _ fG fun b hb o e=>dm _ _ (e_ _ _ e),fun b hb=>by rw [bG (oJ b hb)];exact (f2 b hb).1,w0⟩
  rintro n s4 ⟨i,ys,o,o2,H4,I4,ji,jj,w4⟩
  obtain ⟨Bn,oN⟩:=turn i n ys H4 w4
  rcases oN with ⟨stop,qn⟩ | ⟨go,step⟩
  ·refine cf (T.done (X.aY N scope cl s3 (upd H2 D (.lst [])) fp) rfl rfl rfl hc i [] s4 _ H4 (fun _ _=>False) I4 (eV jj) ji stop) (fun r s5 ⟨hr,I5⟩=>?_) fun _ _ z=>z.elim
   subst hr
   exact fin I5 qn
  ·refine cf (T.item (X.aY N scope cl s3 (upd H2 D (.lst [])) fp) rfl rfl rfl hc i [] s4 _ H4 (fun _ _=>False) I4 (eV jj) ji go) (fun r s5 ⟨u,hr,h5⟩=>?_) fun _ _ z=>z.elim
   subst hr
   refine cf h5 (fun _ s5 ⟨y0,H5,I5,r5,y5,eW,kN⟩=>?_) fun _ _ z=>z.elim
   obtain ⟨Tt,x1,x2,e0,BG,oO⟩:=step y0 _ y5
   subst e0
   have kO:=I5.pinned (eV kN) (T.obj _ _ eW)
   have pg:PG (X.aY N scope cl s3 (upd H2 D (.lst [])) fp) (.Tuple [.Name x px,.Name y py] jo tp) (AL X.K 2 (vf (b5 0) (vf (b5 1) AK))):=
    xG (X:=X.aY N scope cl s3 (upd H2 D (.lst [])) fp) hc (me (d6 (i:=0) B.nd B.n0 (.inl (ix B.hx)) (.inr (ix B.hx))) (me (d6 (i:=1) B.nd B.n1 (.inl (ix B.hy)) (.inr (ix B.hy))) xF))
   have again:∀{σ7:St} {H7:Hp} {s7:Shared},Inv (X.aY N scope cl s3 (upd H2 D (.lst [])) fp) ([]++iG fp s5.heap) σ7 H7 s7→Inv (X.aY N scope cl s3 (upd H2 D (.lst [])) fp) [] σ7 H7 s7∧tn (i+1) s7.heap∧∀b∈fp,H7 b=none:=fun{σ7 H7 s7} I7=>by
    refine ⟨I7.ox,T.keep _ _ _ eW fun b hb o e=>(I7.pin (b,o) (dI _ (dI _ (jQ hb e)))).1,fun b hb=>?_⟩
    obtain ⟨o,e,d⟩:=T.obj _ _ eW b hb
    exact (I7.pin (b,o) (dI _ (dI _ (jQ hb e)))).2.1
   refine cf (pg _ s5 _ H5 (.ref Tt) u (fun σ2 H6=>σ2=some x1::some x2::ρ σ∧H6=H5) kO r5 ⟨Tt,_,rfl,BG,rfl,_,_,rfl,_,_,rfl,rfl,rfl,rfl⟩) (fun _ s6 ⟨σ6,H6,I6,q6⟩=>?_) fun _ _ z=>z.elim
   obtain ⟨rfl,rfl⟩:=q6
   have tests:∀{gv:TT},jU (X.aY N scope cl s3 (upd H2 D (.lst [])) fp) ifs gv→∀{R:Bool→Hp→Prop},gv (some x1::some x2::ρ σ) H6 R→wpAny (model X.prog X.w) X.A
     (forIn ifs true fun c r=>if r=true then do let ok ←isTrue c (compEnvC scope cl s3.heap.objs.size X.env) (eval c (compEnvC scope cl s3.heap.objs.size X.env));pure (ForInStep.yield ok) else pure (ForInStep.yield r))
     (fun ok s7=>∃H7,Inv (X.aY N scope cl s3 (upd H2 D (.lst [])) fp) ([]++iG fp s5.heap) (some x1::some x2::ρ σ) H7 s7∧R ok H7) (fun _ _=>False) s6:=fun{gv} p {R} hR=>by
    cases p with
    | nil=>exact xj ⟨_,I6,hR⟩
    | one p=>exact xk (p _ s6 _ _ _ I6 hR)
   refine cf (tests (ht s3 _ fp) oO) (fun ok s7 ⟨H7,I7,q7⟩=>?_) fun _ _ z=>z.elim
   cases ok with
   | false=>
    obtain ⟨m',gx,w7⟩:=q7
    obtain ⟨a1,a2,a3⟩:=again I7
    exact ⟨m',gx,i+1,ys,_,_,H7,a1,a2,a3,w7⟩
   | true=>
    refine cf (he s3 _ fp _ s7 _ H7 _ I7 q7) (fun ev s8 ⟨z,H8,I8,r8,oP,hz,m',gx,w8⟩=>?_) fun _ _ z=>z.elim
    refine cf (rp (X:=X.aY N scope cl s3 (upd H2 D (.lst [])) fp) _ s8 _ H8 (.ref D) [z] (.ref D) [ev] (fun _ H9=>H9=upd H8 D (.lst (ys++[z]))) I8 rfl (.cons r8 .nil) ⟨D,ys,z,rfl,rfl,oP,hz,rfl⟩) (fun _ s9 ⟨_,H9,I9,_,q9⟩=>?_) fun _ _ z=>z.elim
    subst q9
    obtain ⟨a1,a2,a3⟩:=again I9
    exact ⟨m',gx,i+1,ys++[z],_,_,_,a1,a2,a3,w8⟩
 have start:=loop (s3.toks+([]:List (Str×Value)).length)
 have es:({s3 with heap:=h₁,toks:=s3.toks+([]:List (Str×Value)).length}:Shared)={s2 with heap:=h₁,toks:=s2.toks+([]:List (Str×Value)).length}:=by rw [←eI]
 rw [es] at start
 exact xl start (T.self _ 0 _ _ _ (T.keep _ _ _ fG fun b hb o e=>dm _ _ (e_ _ _ e)) start)
end
end L2
namespace My
open PySem L2 Srs
def iQ(H:Hp)(p:Addr)(r u v:List Int):Prop:=∃l0 l1 l2:Addr,H p=some (.lst [.ref l0,.ref l1,.ref l2])∧H l0=some (.lst (r.map V.int))∧H l1=some (.lst (u.map V.int))∧H l2=some (.lst (v.map V.int))
variable {H:Hp}
theorem iQ.mono{H':Hp}{p:Addr}{r u v:List Int}(h:iQ H p r u v)(s:ah H H'):iQ H' p r u v:=let ⟨a,b,c,e0,e1,e2,e3⟩:=h;⟨a,b,c,s _ _ e0,s _ _ e1,s _ _ e2,s _ _ e3⟩
variable {σ:St} {i:Nat} {Hx:Hp} {xs:List Int} {R:VK}
theorem Ip{x:Addr}(hσ:σ[i]?=some (some (.ref x)))(e:Hx x=some (.lst (xs.map V.int)))(kk:∀p H',ah Hx H'→iQ H' p xs [1] []→R (.ref p) H'):oC (fJ (xy i) (fJ (oC (fJ (tC (.int 1)) ja)) (fJ (oC ja) ja))) σ Hx R:=by
 refine ⟨_,hσ,by show 1≤sizeLine;decide,fun l1 n1=>⟨bO _,fun l2 n2=>⟨by show 3≤sizeLine;decide,fun p np=>?_⟩⟩⟩
 have s1:=aC (o:=.lst [.int 1]) n1;have s2:=aC (o:=.lst []) n2;have s3:=aC (o:=.lst [.ref x,.ref l1,.ref l2]) np;exact kk p _ (s1.trans (s2.trans s3)) ⟨x,l1,l2,aq,s3 _ _ (s2 _ _ (s1 _ _ e)),s3 _ _ (s2 _ _ aq),s3 _ _ aq⟩
theorem Iq{x:Addr}(hσ:σ[i]?=some (some (.ref x)))(e:Hx x=some (.lst (xs.map V.int)))(kk:∀p H',ah Hx H'→iQ H' p xs [] [1]→R (.ref p) H'):oC (fJ (xy i) (fJ (oC ja) (fJ (oC (fJ (tC (.int 1)) ja)) ja))) σ Hx R:=by
 refine ⟨_,hσ,bO _,fun l1 n1=>⟨by show 1≤sizeLine;decide,fun l2 n2=>⟨by show 3≤sizeLine;decide,fun p np=>?_⟩⟩⟩
 have s1:=aC (o:=.lst []) n1;have s2:=aC (o:=.lst [.int 1]) n2;have s3:=aC (o:=.lst [.ref x,.ref l1,.ref l2]) np;exact kk p _ (s1.trans (s2.trans s3)) ⟨x,l1,l2,aq,s3 _ _ (s2 _ _ (s1 _ _ e)),s3 _ _ (s2 _ _ aq),s3 _ _ aq⟩
variable {q:Int}
theorem yE{W:Nat}(hq:aD q)(w:1000≤W)(q0:q≠0)(h:Rm q xs):∀x∈xs,x.natAbs≤W:=fun x hx=>by
 have:=h q0 x hx;rcases hq with z | ⟨_,z,_⟩;·exact absurd z q0
 ·lia
variable {B:Nat}
theorem Cf(h:∀i,(ae xs i).natAbs≤B):∀x∈xs,x.natAbs≤B:=fun x hx=>by
 obtain ⟨i,hi,rfl⟩:=lW hx;have:=h i
 rwa [show ae xs i=xs[i] from getD_at hi] at this
section
variable {q:Int} {ts us:List Int} {f g:Row} {n0 m0 W N:Nat} {r u v r' u' v':List Int} {ld ht:Int} {B:Nat}
theorem Ci(h:∀i,(aJ r u v i).natAbs≤B):(∀x∈r,x.natAbs≤B)∧(∀x∈u,x.natAbs≤B)∧∀x∈v,x.natAbs≤B:=
 ⟨Cf fun i=>by have:=h (3*(i+1));rw [mK] at this;exact this,Cf fun i=>by have:=h (3*i+1);rwa [o8] at this,Cf fun i=>by have:=h (3*i+2);rwa [o9] at this⟩
theorem CI.lim(I:CI q ts us f g n0 m0 W r u v r' u' v' ld ht)(G:CG f g n0 m0 W)(L:rV W N)(nN:n0≤N)(ne:r'≠[]):100*(Bz W (n0+m0-2*r.length)*(2*Bz W (n0+m0+2-2*r.length)) ^ (r.length-r'.length+1))≤10 ^ 580:=
 L n0 m0 r.length r'.length nN G.mn I.rn I.le (gJ.mpr ne)
end
theorem QX{bs ys:List Int}(h:∀x∈bs,∀y∈ys,(x*y).natAbs≤B)(t:Nat):(cv (ae bs) (ae ys) t).natAbs≤bs.length*B:=by
 rw [←vU (n:=bs.length) (m:=ys.length) (fun i hi=>dn hi) (fun i hi=>dn hi)];unfold bL;refine HA _ _ fun i hi=>?_;rw [iO]
 split
 ·rename_i h2
  show (ae bs i*ae ys (t-i)).natAbs≤B;rw [show ae bs i=bs[i] from getD_at hi,show ae ys (t-i)=ys[t-i]'(by lia) from getD_at (by lia)]
  exact h _ (gI _) _ (gI _)
 ·exact bO _
variable {r2 r' u':Nat}
theorem Ir{u2 u bs:Nat}(h:u2≤max u (bs+u'))(b:bs≤5)(l:r2<r')(h1:u+6*r'≤37)(h2:u'+6*r'≤37):u2+6*r2≤37:=by lia
theorem Iu(l:r2<r')(h2:u'+6*r'≤37):u'+6*r2≤37:=by lia
theorem kg:10 ^ 580≤10 ^ 600:=gi (by decide) (by decide)
structure dP (T U d:Nat):Prop where
 t:1000≤T
 tu:T≤U
 l:100*(T*(2*U) ^ (d+1))≤10 ^ 580
section
variable {T U d:Nat}
theorem dP.a(S:dP T U d):T*(2*U) ^ (d+1)≤10 ^ 580:=ai (lY _ (by decide)) S.l
theorem dP.pw(S:dP T U d)(h:i≤d+1):(2*U) ^ i≤(2*U) ^ (d+1):=gi (by have:=S.t;have:=S.tu;lia) h
theorem dP.p(S:dP T U d):(2*U) ^ (d+1)≤10 ^ 580:=ai (lY _ (by have:=S.t;lia)) S.a
theorem dP.u(S:dP T U d):U≤10 ^ 580:=ai (by lia) (ai (ai (i5 (Nat.pow_one (2*U)).symm) (S.pw (i:=1) (by lia))) S.p)
theorem dP.to(S:dP T U d):T≤10 ^ 580:=ai S.tu S.u
variable {x:Int}
theorem dP.pow(S:dP T U d)(h:x.natAbs≤U)(hi:i≤d+1):(x ^ i).natAbs≤10 ^ 580:=by rw [gq];exact ai (Nat.pow_le_pow_left (ai h (by lia)) i) (ai (S.pw hi) S.p)
theorem dP.lead(S:dP T U d){y:Int}(h:x.natAbs≤T)(hy:y.natAbs≤U):(x*y ^ d).natAbs≤10 ^ 580:=by rw [bq,gq];exact ai (cI h (ai (Nat.pow_le_pow_left (ai hy (show U≤2*U by lia)) d) (S.pw (by lia)))) S.a
variable {m:Int}
theorem dP.aA(S:dP T U d)(h:m.natAbs≤1000*(2*U) ^ (d+1)):m.natAbs≤10 ^ 600:=ai h (ai (gj 1000 S.p) (by decide +kernel))
theorem dP.mx(S:dP T U d)(h:m.natAbs≤1000*(2*U) ^ (d+1))(hx:x.natAbs≤T):(m*x).natAbs≤10 ^ 599:=by rw [bq];refine ai (cI h hx) ?_;rw [lV,jB _ T];exact ai (gj 1000 S.a) (by decide +kernel)
theorem dP.cv(S:dP T U d){bs ys:List Int}(l:bs.length≤50)(hb:∀x∈bs,x.natAbs*(2*U)≤T*(2*U) ^ (d+1))(hy:∀y∈ys,y.natAbs≤U)(t:Nat):(cv (ae bs) (ae ys) t).natAbs≤10 ^ 599:=by
 refine ai (QX (B:=10 ^ 580) (fun x hx y h=>?_) t) (ai (iz _ l) (by decide +kernel))
 rw [bq];exact ai (gj _ (ai (hy y h) (show U≤2*U by lia))) (ai (hb x hx) S.a)
theorem dP.bs(S:dP T U d)(h:x.natAbs*(2*U)≤T*(2*U) ^ (d+1)):x.natAbs≤10 ^ 600:=ai (iC _ (by have:=S.t;have:=S.tu;lia)) (ai h (ai S.a (gi (by decide) (by decide))))
end
section
variable {q:Int} {ts us:List Int} {f g:Row} {n0 m0 W N:Nat} {r u v r' u' v':List Int} {ld ht:Int}
theorem CI.QY(I:CI q ts us f g n0 m0 W r u v r' u' v' ld ht)(G:CG f g n0 m0 W)(L:rV W N)(nN:n0≤N)(ne:r'≠[]):dP (Bz W (n0+m0-2*r.length)) (Bz W (n0+m0+2-2*r.length)) (r.length-r'.length):=
 ⟨ai G.w1 (ka (by have:=G.w1;lia)),vV (by lia) (by have:=G.w1;lia),I.lim G L nN ne⟩
theorem CI.hU(I:CI q ts us f g n0 m0 W r u v r' u' v' ld ht)(G:CG f g n0 m0 W):ht.natAbs≤Bz W (n0+m0+2-2*r.length):=ai I.bh (vV (by lia) (by have:=G.w1;lia))
theorem QZ{r2 u2 v2:List Int}{C:Row}(hq:aD q){least:Int}(nl:¬q∣least)(h0:Cg q 0 (least*C 0))(e0:∀t,Cg q (ae r2 t) (C (3*(t+1))))(e1:∀t,Cg q (ae u2 t) (C (3*t+1)))(e2:∀t,Cg q (ae v2 t) (C (3*t+2))):∀i,Cg q (aJ r2 u2 v2 i) (C i):=
 Ie (fun t=>by
  rw [mK];unfold up1;by_cases z:t=0
  ·rw [au z,z]
   exact yA hq nl ((Cg.of_eq (dQ _)).trans h0)
  ·rw [ar z]
   have:=e0 (t-1)
   rwa [show t-1+1=t by lia] at this) (fun t=>by rw [o8];exact e1 t) (fun t=>by rw [o9];exact e2 t)
variable {t:Nat}
theorem Q0{aA:Int}{bs:List Int}:Lf aA (aJ r u v) (ae bs) (aJ r' u' v') (3*t+1)=aA*ae u t-cv (ae bs) (ae u') t:=by unfold Lf;rw [o8,Ig]
theorem Q1{aA:Int}{bs:List Int}:Lf aA (aJ r u v) (ae bs) (aJ r' u' v') (3*t+2)=aA*ae v t-cv (ae bs) (ae v') t:=by unfold Lf;rw [o9,Ih]
theorem Q2{aA:Int}{bs:List Int}:Lf aA (aJ r u v) (ae bs) (aJ r' u' v') 0=0:=yB (t:=0)
theorem j_.fin{T U k:Nat}{bs ls:List Int}{aA:Int}(I:j_ q r r' T U k k bs ls aA)(t:Nat):Cg q (aA*ae r t) (cv (ae bs) (ae r') t+ae ls t):=by
 have e:=I.eq t;rw [jE,Qf] at e;have lb:=I.lb;rw [←lb] at e
 rwa [show bL bs.length r'.length (fun j=>bs.getD j 0) (fun j=>r'.getD j 0) t=cv (ae bs) (ae r') t from vU (n:=bs.length) (m:=r'.length) (fun i hi=>dn hi) (fun i hi=>dn hi) t] at e
end
structure Cj (q:Int) (ps rs:aF) (D1 D2:Int) (f g:Nat→Int) (W N:Nat):Prop where
 lp:ps.length≤50
 lr:rs.length≤50
 Ck:bH q D1
 k9:bH q D2
 Q3:∀p∈ps,p.2∣D1
 Q4:∀p∈rs,p.2∣D2
 w1:∀i,aE q (ps.getD i o1) (f i,D1)
 w2:∀i,aE q (rs.getD i o1) (g i,D2)
 t1:∀i,(f i).natAbs≤W
 u2:∀i,(g i).natAbs≤W
 hW:1000≤W
 d1:D1.natAbs≤W
 d2:D2.natAbs≤W
 kh:W≤10 ^ 150
 c1:(aM ps).length≤N
 c2:(aM rs).length≤N
 n5:N≤5
 lim:rV W N
 big:Bz W (2*N-2)*W≤10 ^ 290
structure Q5 (q:Int) (ps rs gs us vs:aF) (ts ws r u v:List Int) (b1 b2 ld:Int):Prop where
 k1:bH q b1
 k2:bH q b2
 p1:∀k,aE q (ps.getD k o1) (ae ts k,b1)
 p2:∀k,aE q (rs.getD k o1) (ae ws k,b2)
 nl:¬q∣ld
 hg:∀k,k<gs.length→aE q (gs.getD k My.o1) (ae r k*1,ld)
 hu:∀k,k<us.length→aE q (us.getD k My.o1) (ae u k*b1,ld)
 hv:∀k,k<vs.length→aE q (vs.getD k My.o1) (ae v k*b2,ld)
 lg:gs.length=r.length
 lu:us.length=u.length
 lv:vs.length=v.length
 bz:∀t,Cg q (cv (ae u) (ae ts) t+cv (ae v) (ae ws) t) (ae r t)
 d1:cY q (ae r) (ae ts)
 d2:cY q (ae r) (ae ws)
 nil:gs=[]→aM ps=[]∧aM rs=[]∧us=[]∧vs=[]
 lead:r≠[]→ld=ae r (r.length-1)
 tr:cV q r
def Q6(C:Addr):Sp:=fun vs H Q _=>∃(z a b:Addr) (q:Int) (ps rs:aF) (D1 D2:Int) (f g:Nat→Int) (W N:Nat),vs=[.ref z,.ref a,.ref b]∧dE C H z q∧aD q∧aN (10 ^ 150) H q a ps∧aN (10 ^ 150) H q b rs∧Cj q ps rs D1 D2 f g W N ∧
 ∀(p l0 l1 l2:Addr) (gs us vs:aF) (ts ws r u v:List Int) (b1 b2 ld:Int) (H':Hp),ah H H'→H' p=some (.tup [.ref l0,.ref l1,.ref l2])→H l0=none→H l1=none→H l2=none→l0≠l1→l0≠l2→l1≠l2→aN B2 H' q l0 gs→aN B2 H' q l1 us→aN B2 H' q l2 vs→aM gs=gs→aM us=us→aM vs=vs→gs.length≤50→us.length≤50→vs.length≤50→
  (∀x∈r,x.natAbs≤Bz W (2*N-2*r.length))→(∀x∈u,x.natAbs≤Bz W (2*N-2))→(∀x∈v,x.natAbs≤Bz W (2*N-2))→(∀x∈ts,x.natAbs≤W)→(∀x∈ws,x.natAbs≤W)→b1.natAbs≤W→b2.natAbs≤W→ld.natAbs≤Bz W (2*N-2)→Q5 q ps rs gs us vs ts ws r u v b1 b2 ld→Q (.ref p) H'
theorem Cm{a:Addr}(e:H a=some (.lst [])):aN B H q a []:=⟨[],e,rfl,fun i v p h=>by simp at h⟩
section
variable {q:Int}
theorem Cn:∀(n:Nat) (F:Nat→Int),(∀j,j<n→q∣F j)→q∣aK n F
 | 0,_,_=>fM q
 | n+1,F,h=>by rw [fZ];exact Int.dvd_add (Cn n F fun j hj=>h j (by lia)) (h n (by lia))
theorem Iv:∀(k n:Nat) (F:Nat→Int),n<k→(∀j,j<k→j≠n→q∣F j)→Cg q (aK k F) (F n)
 | 0,_,_,h,_=>absurd h (nR _)
 | k+1,n,F,h,z=>by
  rw [fZ];by_cases e:n=k
  ·subst e
   have:=Cn (q:=q) n F fun j hj=>z j (by lia) (by lia)
   obtain ⟨c,hc⟩:=this;exact ⟨c,by lia⟩
  ·have a:=Iv k n F (by lia) fun j hj=>z j (by lia)
   obtain ⟨c,hc⟩:=z k (by lia) (by lia)
   obtain ⟨d,hd⟩:=a;exact ⟨d+c,by rw [jD];lia⟩
theorem Q7{r:List Int}{X:Nat→Int}(hq:aD q)(ne:r≠[])(tr:cV q r)(hX:cY q (ae r) X)(sh:∀t,r.length-1≤t→q∣X t)(t:Nat):q∣X t:=by
 obtain ⟨c,w,N,nc,hw,e⟩:=hX;have l1:=gJ.mpr ne;have all:∀n,(∀i,n≤i→q∣w i)→∀i,q∣w i:=fun n=>by
  induction n with
  | zero=>exact fun h i=>h i (bO _)
  | succ n ih=>
   refine fun h=>ih fun i hi=>?_;by_cases z:i=n
   ·subst z
    have e1:=e (i+(r.length-1));have x0:q∣c*X (i+(r.length-1)):=kz (sh _ (by lia)) (Int.dvd_mul_left _ _)
    have s1:Cg q (cv w (ae r) (i+(r.length-1))) (w i*ae r (r.length-1)):=by
     unfold cv;refine (Iv (q:=q) _ i _ (by lia) fun j hj hn=>?_).trans (Cg.of_eq ?_)
     ·by_cases g:i<j
      ·exact kz (h j g) (uW _ _)
      ·rw [dn (by lia),dQ]
       exact fM q
     ·rw [show i+(r.length-1)-i=r.length-1 by lia]
    obtain ⟨d,hd⟩:=e1.trans s1;obtain ⟨k,hk⟩:=x0;refine lX fun nw=>dN hq nw (tr ne) ⟨k-d,?_⟩;rw [Int.mul_sub];lia
   ·exact h i (by lia)
 have w0:=all N fun i hi=>by rw [hw i hi];exact fM q
 have c0:q∣cv w (ae r) t:=Cn _ _ fun j _=>kz (w0 j) (uW _ _);obtain ⟨d,hd⟩:=e t;obtain ⟨k,hk⟩:=c0;refine lX fun nx=>dN hq nc nx ⟨d+k,?_⟩;rw [jD];lia
end
variable {x D:Int}
theorem Q8{p:Int×Int}(h:aE q p (x,D)):aE q p (-x,-D):=by obtain ⟨k,e⟩:=h;dsimp only at e;refine ⟨-k,?_⟩;dsimp only;grind
variable {y:Int}
theorem Q9{a c:Int×Int}(h1:aE q a (x,D))(h2:aE q c (y,D)):aE q (a.1*c.2+c.1*a.2,a.2*c.2) (x+y,D):=by obtain ⟨k,e⟩:=h1;obtain ⟨l,f⟩:=h2;dsimp only at e f;refine ⟨k*c.2+l*a.2,?_⟩;dsimp only;grind
theorem Co{L M:Int}{p:Int×Int}(hq:aD q)(hc:Canon q p)(w:aE q p (L,M))(nM:¬q∣M)(b1:1000≤B)(bl:q=0→L.natAbs≤B)(bm:q=0→M.natAbs≤B):p.1.natAbs≤B∧p.2.natAbs≤B:=by
 by_cases z:q=0
 ·subst z
  have hM:M≠0:=fun e=>nM (e▸nU 0);have fin:∀L M:Int,1≤M→aE 0 p (L,M)→L.natAbs≤B→M.natAbs≤B→p.1.natAbs≤B∧p.2.natAbs≤B:=fun L M h w bl bm=>by have ok:bH 0 M:=⟨fun _=>h,fun z=>absurd rfl z⟩;rw [o4 hq hc (j9 (T:=L) hq ok) (w.trans (j8 ok).symm ok)];exact yu hq ok b1 bl bm
  by_cases h:0<M;·exact fin L M h w (bl rfl) (bm rfl)
  ·exact fin (-L) (-M) (by lia) (Q8 w) (by rw [kB];exact bl rfl) (by rw [kB];exact bm rfl)
 ·have e:=hc.2 z
  have q3:q≤997:=by rcases hq with h | h <;> lia
  lia
def fA(q:Int)(ls gs:aF)(nb:Int×Int)(st i k:Nat):Int×Int:=if st≤k∧k<st+i then dF q (ls.getD k o1) (mulQ q nb (gs.getD (k-st) o1)) else ls.getD k o1
def iR(L r:Nat→Int)(ld:Int)(st n:Nat)(k:Nat):Int:=L k*ld+(if st≤k then -(L (n-1))*r (k-st) else 0)
variable {r:Int×Int}
theorem Iw{a b D1 D2:Int}{p:Int×Int}(hq:aD q)(cp:Canon q p)(cr:Canon q r)(h1:aE q p (a,D1))(h2:aE q r (b,D2)):aE q (mulQ q p r) (a*b,D1*D2):=
 ((yv hq cp cr).2).trans (B9 h1 h2) (cp.bot.mul cr.bot)
theorem Q_{p:Int×Int}(hq:aD q)(cp:Canon q p)(cr:Canon q r)(h1:aE q p (x,D))(h2:aE q r (y,D)):aE q (dF q p r) (x+y,D):=
 ((BQ hq cp cr).2).trans (Q9 h1 h2) (cp.bot.mul cr.bot)
theorem Ra(hq:aD q):Canon q (cm q (-1))∧aE q (cm q (-1)) (-1,1):=by
 unfold cm;by_cases z:q=0
 ·subst z
  exact ⟨⟨fun _=>⟨by decide,by decide⟩,fun z=>absurd rfl z⟩,aE.refl _⟩
 ·rw [ar z]
  have q2:0<q:=by rcases hq with h | h <;> lia
  refine ⟨⟨fun y=>absurd y z,fun _=>⟨rfl,dk _ z,du _ q2⟩⟩,?_⟩;obtain ⟨w,ew⟩:=vA (-1) q;exact ⟨-w,by dsimp only;rw [gk];lia⟩
structure eO (q:Int) (r:Nat→Int) (ls:aF) (L:Nat→Int) (M:Int) (B:Nat):Prop where
 ki:∀p∈ls,Canon q p
 w:∀k,aE q (ls.getD k o1) (L k,M)
 nM:¬q∣M
 d:cY q r L
 bl:q=0→∀k,(L k).natAbs≤B
 bm:q=0→M.natAbs≤B
structure gS (q:Int) (gs:aF) (r:List Int) (ld:Int) (R:Nat):Prop where
 ki:∀p∈gs,Canon q p
 w:∀k,aE q (gs.getD k o1) (ae r k,ld)
 nl:¬q∣ld
 len:gs.length=r.length
 ne:r≠[]
 lead:ld=ae r (r.length-1)
 tr:cV q r
 br:q=0→∀k,(ae r k).natAbs≤R
 bd:q=0→ld.natAbs≤R
section
variable {q ld M:Int} {r:List Int} {ls gs:aF} {L:Nat→Int} {B R n:Nat}
theorem eO.minus(hq:aD q)(I:eO q (ae r) ls L M B)(k:Nat):Canon q (mulQ q (ls.getD k o1) (cm q (-1)))∧aE q (mulQ q (ls.getD k o1) (cm q (-1))) (-(L k),M):=by have c:=dY hq I.ki k;have m:=Ra hq;refine ⟨(yv hq c m.1).1,?_⟩;have:=Iw hq c m.1 (I.w k) m.2;rw [eQ,gk,eQ] at this;exact this
theorem eO.part(hq:aD q)(I:eO q (ae r) ls L M B)(G:gS q gs r ld R)(k j:Nat):Canon q (mulQ q (mulQ q (ls.getD k o1) (cm q (-1))) (gs.getD j o1))∧aE q (mulQ q (mulQ q (ls.getD k o1) (cm q (-1))) (gs.getD j o1)) (-(L k)*ae r j,M*ld):=by have c:=I.minus hq k;have g:=dY hq G.ki j;exact ⟨(yv hq c.1 g).1,Iw hq c.1 g c.2 (G.w j)⟩
theorem Iy{c:Int}{p:Int×Int}(h:aE q p (x,D)):aE q p (x*c,D*c):=by obtain ⟨k,e⟩:=h;dsimp only at e;refine ⟨k*c,?_⟩;dsimp only;grind
theorem eO.val(hq:aD q)(I:eO q (ae r) ls L M B)(G:gS q gs r ld R)(st i n k:Nat):Canon q (fA q ls gs (mulQ q (ls.getD (n-1) o1) (cm q (-1))) st i k)∧aE q (fA q ls gs (mulQ q (ls.getD (n-1) o1) (cm q (-1))) st i k) (if st≤k∧k<st+i then iR L (ae r) ld st n k else L k*ld,M*ld):=by
 have c:=dY hq I.ki k;have u:=Iy (c:=ld) (I.w k);unfold fA;by_cases h:st≤k∧k<st+i
 ·rw [au h,au h]
  have p:=I.part hq G (n-1) (k-st);refine ⟨(BQ hq c p.1).1,?_⟩;unfold iR;rw [au h.1];exact Q_ hq c p.1 u p.2
 ·rw [ar h,ar h]
  exact ⟨c,u⟩
theorem Iz(c:Int)(st:Nat)(g:Nat→Int)(t:Nat):cv (fun i=>if i=st then c else 0) g t=if st≤t then c*g (t-st) else 0:=by
 unfold cv;rw [di (g:=fun i=>if i=st then c*g (t-st) else 0) fun i _=>by
  dsimp only;by_cases e:i=st;·rw [au e,au e,e]
  ·rw [ar e,ar e,fE]]
 by_cases h:st≤t
 ·rw [au h]
  exact GR (t+1) st (fun _=>c*g (t-st)) (by lia)
 ·rw [ar h,di (g:=fun _=>0) fun i hi=>ar (by lia),iN]
theorem eO.bound(I:eO q (ae r) ls L M B)(G:gS q gs r ld R)(z:q=0)(st n k:Nat):(iR L (ae r) ld st n k).natAbs≤B*(2*R):=by
 unfold iR;have e1:(L k*ld).natAbs≤B*R:=by rw [bq];exact cI (I.bl z k) (G.bd z)
 refine ai (u4 ..) ?_;have e2:(if st≤k then -(L (n-1))*ae r (k-st) else 0).natAbs≤B*R:=by
  split
  ·rw [bq,kB]
   exact cI (I.bl z _) (G.br z _)
  ·exact bO _
 rw [show B*(2*R)=B*R+B*R by rw [Nat.two_mul,Nat.mul_add]]
 exact n_ e1 e2
theorem eO.IA(I:eO q (ae r) ls L M B)(G:gS q gs r ld R)(z:q=0):(M*ld).natAbs≤B*(2*R):=by rw [bq];exact ai (cI (I.bm z) (G.bd z)) (gj _ (by lia))
def f_(q:Int)(ls gs:aF)(st:Nat):List (Int×Int):=(List.range ls.length).map fun k=>fA q ls gs (mulQ q (ls.getD (ls.length-1) o1) (cm q (-1))) st gs.length k
theorem eO.next(hq:aD q)(I:eO q (ae r) ls L M B)(G:gS q gs r ld R)(st:Nat)(qP:st+gs.length=ls.length):eO q (ae r) (aM (f_ q ls gs st)) (iR L (ae r) ld st ls.length) (M*ld) (B*(2*R))∧(aM (f_ q ls gs st)).length+1≤ls.length:=by
 have lr:1≤r.length:=gJ.mpr G.ne;have ll:=G.len;have ki:∀p∈f_ q ls gs st,Canon q p:=fun p hp=>by unfold f_ at hp;obtain ⟨k,_,rfl⟩:=fD.mp hp;exact (I.val hq G st gs.length ls.length k).1
 have lN:(f_ q ls gs st).length=ls.length:=by simp [f_]
 have w:∀k,aE q ((f_ q ls gs st).getD k o1) (iR L (ae r) ld st ls.length k,M*ld):=fun k=>by
  by_cases hk:k<ls.length
  ·have e:(f_ q ls gs st).getD k o1=fA q ls gs (mulQ q (ls.getD (ls.length-1) o1) (cm q (-1))) st gs.length k:=by unfold f_;rw [getD_at (by simpa using hk),iB,List.getElem_range]
   rw [e];have v:=(I.val hq G st gs.length ls.length k).2;by_cases h:st≤k∧k<st+gs.length
   ·rw [au h] at v
    exact v
   ·rw [ar h] at v
    unfold iR;rw [ar (by lia),jI]
    exact v
  ·rw [cX (by lia)]
   have v:=I.w k;rw [cX (by lia)] at v
   unfold iR;rw [au (by lia),dn (show r.length≤k-st by lia),dQ,jI]
   exact Iy v
 have nM:¬q∣M*ld:=dN hq I.nM G.nl;refine ⟨⟨fun p hp=>ki p (o5 hp),fun k=>by rw [vS hq ki];exact w k,nM,?_,fun z k=>I.bound G z _ _ _,fun z=>I.IA G z⟩,?_⟩
 ·refine cY.made (n:=st+1) (b:=fun i=>if i=st then -(L (ls.length-1)) else 0) (aA:=1) (least:=ld) hq (cY.self hq _) I.d (fun i hi=>ar (by lia)) (iP hq) fun t=>Cg.of_eq ?_
  rw [Iz];unfold iR
  split <;> grind
 ·have top:((f_ q ls gs st).getD (ls.length-1) o1).1=0:=lX fun nz=>by
   have v:=w (ls.length-1);have e0:iR L (ae r) ld st ls.length (ls.length-1)=0:=by
    unfold iR;rw [au (by lia),show ls.length-1-st=r.length-1 by lia,←G.lead]
    grind
   rw [e0] at v;obtain ⟨x,e⟩:=v;dsimp only at e;rw [fE,Int.sub_zero] at e;exact dN hq (yy (dY hq ki _) nz) nM ⟨x,e⟩
  have:=B8 (ps:=f_ q ls gs st) (L:=ls.length-1) fun i hi=>by
   by_cases e:i=ls.length-1;·rw [e];exact top
   ·rw [cX (by lia)];rfl
  lia
theorem eO.last(hq:aD q)(I:eO q (ae r) ls L M B)(G:gS q gs r ld R)(sh:ls.length<gs.length)(c:aM ls=ls):ls=[]:=by
 have ll:=G.len;have out:∀t,r.length-1≤t→q∣L t:=fun t ht=>by
  have v:=I.w t;rw [cX (by lia)] at v
  obtain ⟨x,e⟩:=v;have e:(0:Int)*M-L t*1=q*x:=e;exact ⟨-x,by rw [gk];lia⟩
 have all:=Q7 hq G.ne G.tr I.d out;refine lX fun ne=>?_;have l1:=gJ.mpr ne;have z:=vR (ps:=ls) (by rw [c];exact l1)
 rw [c] at z;refine z (lX fun nz=>?_);obtain ⟨x,e⟩:=I.w (ls.length-1);dsimp only at e;obtain ⟨y,ey⟩:=all (ls.length-1);refine dN hq (yy (dY hq I.ki _) nz) I.nM ⟨x+y*(ls.getD (ls.length-1) o1).2,?_⟩;rw [ey] at e;grind
end
def Rb:Sp:=fun vs H Q _=>∃(td a c:Addr) (q:Int) (ps gs:aF) (r:List Int) (L:Nat→Int) (M ld:Int) (W R N J:Nat),vs=[.ref td,.ref a,.ref c]∧dA H td q∧aD q∧aN (10 ^ 150) H q a ps∧aN B2 H q c gs∧ps.length≤200∧gs.length≤60∧eO q (ae r) ps L M W∧gS q gs r ld R∧1000≤W∧(aM ps).length≤N∧N≤60∧N≤J+gs.length∧W*(2*R) ^ (J+1)≤10 ^ 300∧1≤R ∧
 ∀(d:Addr) (H':Hp),ah H H'→H d=none→H' d=some (.lst [])→Q (.ref d) H'
end My
namespace L2
open PySem PySem.Spec PyProof.Rows
def Rc(K:ax):R2:=fun x y H Q=>∃a b xs,x=.ref a∧y=.ref b∧aX K H a xs∧H b=some (.lst [])∧Q (.bl (!xs.isEmpty)) H
theorem pb{X:Cx}(hu:X.A.units+64<cLine):cC X (compareOp .NotEq) (Rc X.K):=by
 intro pins s σ H x y v u Q I rx ry h;obtain ⟨a,b,xs,rfl,rfl,h1,h2,q⟩:=h;cases rx;cases ry;obtain ⟨us,r1,t1,_⟩:=I.list h1;obtain ⟨vs,r2,t2,_⟩:=I.list (aX.of h2);have l1:=r1.length;have l2:=r2.length;cases xs with
 | nil=>
  refine SeqAt.RcNeAt.lists (e:=fun _=>true) t1.isList t2.isList (by simp at l1 l2 ⊢;lia) (by lia) (fun j z1 z2=>?_) _ _ _ _ ?_
  ·simp at l1
   have:us=[]:=gZ.mp l1.symm;subst this;simp at z1
  ·rw [all_range]
   exact ⟨.bl false,H,I,rfl,q⟩
 | cons w ws=>
  refine SeqAt.RcNeAt.lists_lengths t1.isList t2.isList ?_ (by lia) _ _ _ _ ⟨.bl true,H,I,rfl,q⟩
  simp at l1 l2 ⊢;lia
variable {σ:St} {H:Hp}
theorem rY{c:TT}{t u:TS}{D:Ends}(S:Hp→Prop)(hc:∀Q:Bool→Hp→Prop,(∀H',S H'→Q false H')→c σ H Q)(k:∀H',S H'→u D σ H'):vb c t u D σ H:=hc _ fun H' s=>by rw [ar cZ];exact k H' s
variable {Q:Bool→Hp→Prop}
theorem Rf{r:R2}{ta tb:TE}(h:ta σ H fun x H1=>tb σ H1 fun y H2=>r x y H2 fun x H'=>∃k,x=.bl k∧Q k H'):AV (kP r ta tb) σ H Q:=h
theorem Rg{t u:TT}(h:t σ H fun c H1=>if c=true then Q true H1 else u σ H1 Q):E3 t u σ H Q:=h
end L2
namespace My
open PySem L2 Srs
variable {q:Int}
theorem Rh(hq:aD q):Canon q (cm q 1)∧aE q (cm q 1) (1,1):=by
 unfold cm;by_cases z:q=0
 ·subst z
  exact ⟨⟨fun _=>⟨by decide,by decide⟩,fun z=>absurd rfl z⟩,aE.refl _⟩
 ·rw [ar z]
  have q2:0<q:=by rcases hq with h | h <;> lia
  refine ⟨⟨fun y=>absurd y z,fun _=>⟨rfl,dk _ z,du _ q2⟩⟩,?_⟩;obtain ⟨w,ew⟩:=vA 1 q;exact ⟨-w,by dsimp only;rw [gk];lia⟩
variable {K:ax} {x:Int}
theorem Ri{B B':Nat}{H:Hp}{v u:V}{m:Int}{R:VK}(hv:aQ B H q v x m)(hu:aQ B' H q u x m)(k:R (.bl false) H):Gj K v u H R:=by
 cases hv with
 | bJ e l bx bm=>
  cases hu with
  | bJ e' l' _ _=>refine .inl ⟨_,_,_,_,rfl,rfl,.of e,.of e',rfl,rfl,?_⟩;rw [Gr];exact k
  | rem h0 h1 _=>lia
 | rem h0 h1 h2=>
  cases hu with
  | bJ _ _ _ _=>lia
  | rem _ _ _=>refine .inr ⟨rfl,?_⟩;simpa using k
theorem IC{a:Addr}{xs:List V}{H1:Hp}(h:H1 a=some (.tup xs)):kW (qW K a) xs H1 where
 go:=fun i Hc s hi=>⟨xs,xs[i],.of (s _ _ h),by simp [hi]⟩
 dW:=fun i Hc x H' s y=>⟨y.1,fun _=>y.2 xs (.of (s _ _ h))⟩
 stop:=fun i Hc s hi=>⟨xs,.of (s _ _ h),hi⟩
structure Cp (q:Int) (xs ys:aF) (D ld:Int) (F G c:Nat→Int):Prop where
 bd:∀i j,(F i*G j).natAbs≤10 ^ 270
 w:∀i j,i<xs.length→j<ys.length→aE q ((xs.getD i o1).1*(ys.getD j o1).1,(xs.getD i o1).2*(ys.getD j o1).2) (F i*G j,D)
 sum:∀k,Cg q (ld*bL xs.length ys.length F G k) (D*c k)
variable {D:Int}
theorem Rj(h:aE q o1 (x,D)):q∣x:=by obtain ⟨k,e⟩:=h;have e:(0:Int)*D-x*1=q*k:=e;exact ⟨-k,by rw [gk];lia⟩
variable {ld:Int} {us ps:aF}
theorem ID{b s:Int}(hq:aD q){u ts:List Int}(cu:∀p∈us,Canon q p)(cp:∀p∈ps,Canon q p)(k1:bH q b)(p1:∀k,aE q (ps.getD k o1) (ae ts k,b))(hu:∀k,k<us.length→aE q (us.getD k o1) (ae u k*b,ld))(lu:us.length=u.length)(hs:q=0→(s=1∨s=-1)∧D=s*ld)(hD:q≠0→D=1)(bu:q=0→∀i j,(ae u i*ae ts j).natAbs≤10 ^ 270):∃F G:Nat→Int,Cp q us ps D ld F G (cv (ae u) (ae ts)):=by
 by_cases z:q=0
 ·subst z
  obtain ⟨h1,h2⟩:=hs rfl
  refine ⟨fun i=>s*ae u i,ae ts,fun i j=>?_,fun i j hi hj=>?_,fun k=>Cg.of_eq ?_⟩
  ·rw [kA,bq,show s.natAbs=1 by rcases h1 with rfl | rfl <;> rfl,Nat.one_mul]
   exact bu rfl i j
  ·obtain ⟨x,e1⟩:=hu i hi
   obtain ⟨y,e2⟩:=p1 j
   dsimp only at e1 e2 ⊢
   refine ⟨0,?_⟩
   dsimp only
   rw [h2]
   rw [fE] at e1 e2
   generalize us.getD i o1=A at e1 ⊢
   generalize ps.getD j o1=C at e2 ⊢
   generalize ae u i=U at e1 ⊢
   generalize ae ts j=T at e2 ⊢
   have e1:A.1*ld=U*b*A.2:=oa.mp e1
   have e2:C.1*b=T*C.2:=oa.mp e2
   have e3:A.1*C.1*(s*ld)=s*U*T*(A.2*C.2):=by
    calc A.1*C.1*(s*ld)=s*C.1*(A.1*ld):=by grind
     _=s*U*A.2*(C.1*b):=by rw [e1];grind
     _=s*U*T*(A.2*C.2):=by rw [e2];grind
   rw [e3,fE,Int.sub_self]
  ·rw [vU (fun i hi=>by rw [dn (by lia),dQ]) (fun j hj=>?_),mI,h2]
   ·grind
   ·have:=p1 j
    rw [cX hj] at this
    exact fN.mp (Rj this)
 ·have b1:=k1.2 z
  have q3:q≤997:=by rcases hq with h | h <;> lia
  have Cq:=fun i=>(dY hq cu i).2 z
  have Cr:=fun i=>(dY hq cp i).2 z
  refine ⟨fun i=>(us.getD i o1).1,fun j=>(ps.getD j o1).1,fun i j=>?_,fun i j _ _=>?_,fun k=>?_⟩
  ·have h1:=Cq i
   have h2:=Cr j
   rw [bq]
   exact ai (cI (show _≤997 by lia) (show _≤997 by lia)) (by decide +kernel)
  ·rw [(Cq i).1,(Cr j).1,hD z]
   exact ⟨0,by dsimp only;lia⟩
  ·have o0:(o1:Int×Int).1=0:=rfl
   rw [vU (fun i hi=>by rw [cX hi];rfl) (fun i hi=>by rw [cX hi];rfl),←mI,hD z,qG]
   refine vT (fun i=>?_) fun j=>?_
   ·by_cases hi:i<us.length
    ·obtain ⟨x,e⟩:=hu i hi
     dsimp only at e
     rw [b1,(Cq i).1,eQ,eQ] at e
     exact ⟨x,by rw [←e,iy]⟩
    ·rw [cX (by lia),dn (by lia),o0]
     exact Cg.of_eq (by simp)
   ·obtain ⟨x,e⟩:=p1 j
    dsimp only at e
    rw [b1,(Cr j).1,eQ,eQ] at e
    exact ⟨x,e⟩
variable {rs:aF}
theorem Rk(hq:aD q){vs gs:aF}{F1 G1 c1 F2 G2 c2:Nat→Int}{r:List Int}(A:Cp q us ps D ld F1 G1 c1)(C:Cp q vs rs D ld F2 G2 c2)(ok:bH q D)(bz:∀t,Cg q (c1 t+c2 t) (ae r t))(cg:∀p∈gs,Canon q p)(hg:∀k,aE q (gs.getD k o1) (ae r k,ld))(nl:¬q∣ld) :
  aM (gP q (aM (cU q us.length ps.length F1 G1 D (us.length+ps.length-1))) (aM (cU q vs.length rs.length F2 G2 D (vs.length+rs.length-1))))=aM gs:=by
 refine Qp fun k=>?_;have cP:=B5 (n:=us.length) (m:=ps.length) (N:=us.length+ps.length-1) (f:=F1) (g:=G1) hq ok;have cR:=B5 (n:=vs.length) (m:=rs.length) (N:=vs.length+rs.length-1) (f:=F2) (g:=G2) hq ok;rw [Qt hq ok (fun p hp=>cP p (o5 hp)) (fun p hp=>cR p (o5 hp)) (fun k=>by rw [vS hq cP];exact B6 ok k) (fun k=>by rw [vS hq cR];exact B6 ok k) k]
 refine o4 hq (j9 hq ok) (dY hq cg k) ((j8 ok).trans (aE.symm ?_) ok);refine BZ hq nl ?_;obtain ⟨m,e⟩:=hg k;obtain ⟨t,et⟩:=((A.sum k).add (C.sum k)).trans ((Cg.of_eq (jD D (c1 k) (c2 k)).symm).trans ((bz k).mulL D));dsimp only at e ⊢;refine ⟨D*m-t*(gs.getD k o1).2,?_⟩;grind
structure yF (W N:Nat):Prop where
 n2:2≤N
 one:W*2 ^ (N+1)≤10 ^ 300
 more:∀m,2≤m→m≤N→W*(2*Bz W (2*N-2*m)) ^ (N-m+1)≤10 ^ 300
 prod:Bz W (2*N-2)*W≤10 ^ 270
section
variable {q ld b:Int} {ps gs:aF} {r ts:List Int} {W R N:Nat}
theorem Rl(hg:∀k,aE q (gs.getD k o1) (ae r k,ld))(cg:∀p∈gs,Canon q p)(lg:gs.length=r.length)(nl:¬q∣ld)(ne:r≠[])(lead:ld=ae r (r.length-1))(tr:cV q r)(br:∀x∈r,x.natAbs≤R):gS q gs r ld R:=
 ⟨cg,hg,nl,lg,ne,lead,tr,fun _ k=>kf br k,fun _=>by rw [lead];exact kf br _⟩
theorem gS.one(hq:aD q)(G:gS q gs r ld R)(e:r.length=1):gS q gs [1] 1 1:=by
 have l:=G.lead;have lg:=G.len;rw [e,jE] at l;refine ⟨G.ki,fun k=>?_,iP hq,by rw [lg,e];rfl,by simp,rfl,fun _=>iP hq,fun _ k=>?_,fun _=>by decide⟩
 ·cases k with
  | zero=>refine BZ hq G.nl ?_;obtain ⟨x,ex⟩:=G.w 0;rw [←l] at ex;dsimp only at ex;show q∣ld*((gs.getD 0 o1).1*1-1*(gs.getD 0 o1).2);exact ⟨x,by rw [←ex];grind⟩
  | succ k=>
   rw [cX (by lia)]
   exact yz
 ·cases k with
  | zero=>decide
  | succ k=>exact bO _
theorem IE(k1:bH q b)(hq:aD q)(cp:∀p∈ps,Canon q p)(p1:∀k,aE q (ps.getD k o1) (ae ts k,b))(d:cY q (ae r) (ae ts))(bt:∀x∈ts,x.natAbs≤W)(bb:b.natAbs≤W):eO q (ae r) ps (ae ts) b W:=
 ⟨cp,p1,k1.nz hq,d,fun _ k=>kf bt k,fun _=>bb⟩
theorem Rn(hq:aD q)(ts:List Int):cY q (ae [1]) (ae ts):=⟨1,ae ts,ts.length,iP hq,fun i hi=>dn hi,fun t=>Cg.of_eq (by rw [QE,show ae [1]=(fun i=>if i=0 then (1:Int) else 0) from funext fun i=>by cases i <;> rfl,Iz,au (bO t),u3])⟩
theorem IF(hq:aD q)(k1:bH q b)(cp:∀p∈ps,Canon q p)(p1:∀k,aE q (ps.getD k o1) (ae ts k,b))(d:cY q (ae r) (ae ts))(bt:∀x∈ts,x.natAbs≤W)(bb:b.natAbs≤W)(G:gS q gs r ld (Bz W (2*N-2*r.length)))(Lm:yF W N)(w1:1≤W) :
  ∃(r':List Int) (vZ:Int) (R' J':Nat),eO q (ae r') ps (ae ts) b W∧gS q gs r' vZ R'∧N≤J'+gs.length∧W*(2*R') ^ (J'+1)≤10 ^ 300∧1≤R':=by
 have lr:=gJ.mpr G.ne;have lg:=G.len;by_cases e:r.length=1;·exact ⟨[1],1,1,N,IE k1 hq cp p1 (Rn hq ts) bt bb,G.one hq e,by lia,Lm.one,aO _⟩
 ·refine ⟨r,ld,Bz W (2*N-2*r.length),N-r.length,IE k1 hq cp p1 d bt bb,G,by lia,?_,ai w1 (ka w1)⟩
  by_cases h:r.length≤N;·exact Lm.more r.length (by lia) h
  ·have:=Lm.more N Lm.n2 (aO N)
   rw [show 2*N-2*r.length=2*N-2*N by lia,show N-r.length=N-N by lia]
   exact this
end
def Ro(C:Addr):Sp:=fun vs H Q _=>∃(td z a b:Addr) (q:Int) (ps rs:aF) (D1 D2:Int) (f g:Nat→Int) (W N:Nat),vs=[.ref td,.ref z,.ref a,.ref b]∧dA H td q∧dE C H z q∧aD q∧aN (10 ^ 150) H q a ps∧aN (10 ^ 150) H q b rs∧Cj q ps rs D1 D2 f g W N∧yF W N∧∀H',ah H H'→Q (.bl true) H'
variable {L m:Nat} {f g:Nat→Int}
theorem Rp{M:Nat}{n:Nat}(hf:∀i,L≤i→f i=0)(h:∀i j,(f i*g j).natAbs≤M)(k:Nat):(bL n m f g k).natAbs≤L*M:=by
 have row:∀i,(cn m (f i) g i k).natAbs≤M:=fun i=>by
  rw [iO]
  split
  ·exact h _ _
  ·exact bO _
 have nil:∀i,L≤i→cn m (f i) g i k=0:=fun i hi=>by
  rw [iO,hf i hi]
  split
  ·exact fE _
  ·rfl
 unfold bL;by_cases hn:n≤L;·exact ai (rQ n _ fun i _=>row i) (iz _ hn)
 ·have e:∀d,aK (L+d) (fun i=>cn m (f i) g i k)=aK L fun i=>cn m (f i) g i k:=fun d=>by
   induction d with
   | zero=>rfl
   | succ d ih=>rw [show L+(d+1)=L+d+1 by lia,fZ,ih,nil _ (by lia),jI]
  rw [show n=L+(n-L) by lia,e]
  exact rQ L _ fun i _=>row i
structure iS (X Y L W N:Nat):Prop where
 x:1000≤X
 y:Y≤X
 l1:1≤L
 n:2*L-1≤N
 w:L*(X*X)≤W
 wy:Y*Y≤W
 kh:W≤10 ^ 150
 n5:N≤5
 lim:rV W N
 big:Bz W (2*N-2)*W≤10 ^ 290
 IG:yF W N
variable {W N:Nat}
theorem IH(h:(decide (2≤N) && decide (W*2 ^ (N+1)≤10 ^ 300) && (List.range (N+1)).all fun m=>decide (m<2) || decide (W*(2*Bz W (2*N-2*m)) ^ (N-m+1)≤10 ^ 300))=true)(h2:Bz W (2*N-2)*W≤10 ^ 270):yF W N:=by
 rw [uT,uT,lQ,lQ] at h;refine ⟨h.1.1,h.1.2,fun m a b=>?_,h2⟩;have:=lO.mp h.2 m (ku.mpr (by lia))
 rw [Bool.or_eq_true,lQ,lQ] at this;rcases this with z | z;·lia
 ·exact z
theorem Rq:iS ((10 ^ 10+1000)*10 ^ 10) (10 ^ 20) 2 (21*10 ^ 39) 3:=
 ⟨by decide +kernel,by decide +kernel,by decide,by decide,by decide +kernel,by decide +kernel,by decide +kernel,by decide,Io (by decide +kernel),by decide +kernel,IH (by decide +kernel) (by decide +kernel)⟩
theorem Rr:iS ((4+1000)*4 ^ 2) (4 ^ 3) 3 (10 ^ 9) 5:=
 ⟨by decide +kernel,by decide +kernel,by decide,by decide,by decide +kernel,by decide +kernel,by decide +kernel,by decide,Io (by decide +kernel),by decide +kernel,IH (by decide +kernel) (by decide +kernel)⟩
variable {X Y:Nat}
theorem iS.xw(s:iS X Y L W N):X≤W:=
 ai (ai (iC X (dB (by decide) s.x)) (lY _ s.l1)) s.w
def RowC(q:Int)(ps:aF)(W N:Nat):Prop:=ps.length≤50∧∃(D:Int) (f:Nat→Int),RowW q ps D f W W N
theorem II(hq:aD q)(s:iS X Y L W N)(h1:RowC q ps W N)(h2:RowC q rs W N)(c1:∀p∈ps,Canon q p)(c2:∀p∈rs,Canon q p):∃(D1 D2:Int) (f g:Nat→Int),Cj q ps rs D1 D2 f g W N:=by obtain ⟨l1,D1,f,r1⟩:=h1;obtain ⟨l2,D2,g,r2⟩:=h2;exact ⟨D1,D2,f,g,l1,l2,r1.ok,r2.ok,r1.dvd,r2.dvd,r1.w,r2.w,r1.bf,r2.bf,ai s.x s.xw,r1.bD,r2.bD,s.kh,B8 fun i hi=>r1.top hq c1 hi,B8 fun i hi=>r2.top hq c2 hi,s.n5,s.lim,s.big⟩
theorem iS.row(s:iS X Y L W N)(h:RowW q ps D f X Y L)(l:ps.length≤50):RowC q ps W N:=
 ⟨l,D,f,h.weak s.xw (ai s.y s.xw) (by have:=s.n;have:=s.l1;lia)⟩
theorem iS.prod(hq:aD q)(s:iS X Y L W N){D1 D2:Int}(h1:RowW q ps D1 f X Y L)(h2:RowW q rs D2 g X Y L)(l1:ps.length≤20)(l2:rs.length≤20) :
  RowC q (aM (cU q ps.length rs.length f g (D1*D2) (ps.length+rs.length-1))) W N∧(∀p∈aM (cU q ps.length rs.length f g (D1*D2) (ps.length+rs.length-1)),p.1.natAbs≤10 ^ 150∧p.2.natAbs≤10 ^ 150)∧(aM (cU q ps.length rs.length f g (D1*D2) (ps.length+rs.length-1))).length≤40:=by
 have ok:=h1.ok.mul h2.ok;have cP:=B5 (n:=ps.length) (m:=rs.length) (N:=ps.length+rs.length-1) (f:=f) (g:=g) hq ok;have bS:∀k,(bL ps.length rs.length f g k).natAbs≤W:=fun k=>ai (Rp h1.out (M:=X*X) (fun i j=>by rw [bq];exact cI (h1.bf i) (h2.bf j)) k) s.w
 have bD:(D1*D2).natAbs≤W:=by rw [bq];exact ai (cI h1.bD h2.bD) s.wy
 have mem:∀p∈aM (cU q ps.length rs.length f g (D1*D2) (ps.length+rs.length-1)),∃k,p=dj q (bL ps.length rs.length f g k) (D1*D2):=fun p hp=>by have hp:=o5 hp;unfold cU at hp;obtain ⟨k,_,rfl⟩:=fD.mp hp;exact ⟨k,rfl⟩
 have lP:(cU q ps.length rs.length f g (D1*D2) (ps.length+rs.length-1)).length=ps.length+rs.length-1:=by simp [cU]
 have lC:=vI (cU q ps.length rs.length f g (D1*D2) (ps.length+rs.length-1));refine ⟨⟨by lia,D1*D2,bL ps.length rs.length f g,ok,fun p hp=>?_,fun k=>?_,bS,bD,fun k hk=>Qx h1.out h2.out (ai s.n hk)⟩,fun p hp=>?_,by lia⟩
 ·obtain ⟨k,rfl⟩:=mem p hp
  exact P1 ok
 ·rw [vS hq cP]
  exact B6 ok k
 ·obtain ⟨k,rfl⟩:=mem p hp
  exact yu hq ok (by decide +kernel) (ai (bS k) s.kh) (ai bD s.kh)
theorem RowC.more(h:RowC q ps W N)(l:ps.length+m≤50):RowC q (ps++List.replicate m o1) W N:=by
 obtain ⟨_,D,f,r⟩:=h;refine ⟨by simp;lia,D,f,r.ok,fun p hp=>?_,fun i=>?_,r.bf,r.bD,r.out⟩
 ·rcases gG.mp hp with h | h
  ·exact r.dvd p h
  ·rw [(qI.mp h).2];exact nY D
 ·have e:(ps++List.replicate m o1).getD i o1=ps.getD i o1:=by
   by_cases h:i<ps.length;·rw [d3,ir h,d3]
   ·rw [cX (xs:=ps) (by lia),d3,gY (by lia),kv]
    split <;> rfl
  rw [e];exact r.w i
theorem iS.none(s:iS X Y L W N)(l:m≤50):RowC q (List.replicate m o1) W N:=
 ⟨by simpa using l,1,_,(Qy (q:=q) (n:=m) (X:=1) (by decide) 0).weak (ai (by decide) (ai s.x s.xw)) (ai (by decide) (ai s.x s.xw)) (bO _)⟩
end My
set_option maxRecDepth 100000
set_option maxHeartbeats 4000000
namespace My
open PySem L2
def top(i:Nat):Stmt:=PySem.Challenge.pw_bandwright_k54_what_two_rows_have_in_com.main.body.getD i (.Pass ⟨0,0,0,0⟩)
abbrev yG:Stmt:=top 6
abbrev yH:Stmt:=top 7
abbrev yI:Stmt:=top 8
abbrev yJ:Stmt:=top 9
abbrev yK:Stmt:=top 10
abbrev yL:Stmt:=top 11
abbrev yM:Stmt:=top 12
abbrev yN:Stmt:=top 14
abbrev yO:Stmt:=top 15
abbrev yP:Stmt:=top 16
abbrev yQ:Stmt:=top 20
abbrev yR:Stmt:=top 22
abbrev yS:Stmt:=top 23
abbrev yT:Stmt:=top 25
abbrev yU:Stmt:=top 28
abbrev yV:Stmt:=top 30
abbrev yW:Stmt:=top 31
abbrev yX:Stmt:=top 34
abbrev yY:Stmt:=top 35
abbrev yZ:Stmt:=top 38
abbrev y3:Stmt:=top 39
abbrev y4:Stmt:=top 40
abbrev y6:Stmt:=top 41
abbrev y7:Stmt:=top 42
abbrev y8:Stmt:=top 43
abbrev y_:Stmt:=top 44
abbrev za:Stmt:=top 45
abbrev zb:Stmt:=top 46
abbrev zc:Stmt:=top 47
abbrev zd:Stmt:=top 48
abbrev ze:Stmt:=top 49
abbrev zf:Stmt:=top 50
abbrev zg:Stmt:=top 51
abbrev zh:Stmt:=top 52
abbrev zi:Stmt:=top 53
abbrev zj:Stmt:=top 54
abbrev zk:Stmt:=inClass (top 36) 0
abbrev iT:Stmt:=inClass (top 36) 3
abbrev zm:Stmt:=inClass (top 36) 8
abbrev zo:Stmt:=inClass (top 36) 9
set_option genInjectivity false in
set_option genSizeOf false in
structure Cs where
 pd:Addr
 rZ:FuncData
 pe:Addr
 r6:FuncData
 ph:Addr
 r9:FuncData
 pj:Addr
 r_:FuncData
 pk:Addr
 si:FuncData
 pz:Addr
 sq:FuncData
 pA:Addr
 su:FuncData
 pB:Addr
 sC:FuncData
 pC:Addr
 sD:FuncData
 pD:Addr
 sE:FuncData
 pE:Addr
 sG:FuncData
 pF:Addr
 sI:FuncData
 pG:Addr
 sJ:FuncData
 pH:Addr
 sL:FuncData
 pI:Addr
 sM:FuncData
 pJ:Addr
 sN:FuncData
 pK:Addr
 sO:FuncData
 pL:Addr
 sP:FuncData
 pM:Addr
 sQ:FuncData
 pN:Addr
 sR:FuncData
 pO:Addr
 sS:FuncData
 pP:Addr
 sU:FuncData
 pQ:Addr
 sV:FuncData
 pR:Addr
 sW:FuncData
 pS:Addr
 sY:FuncData
 pV:Addr
 sZ:FuncData
 pW:Addr
 s_:FuncData
 pX:Addr
 tf:FuncData
 pY:Addr
 tj:FuncData
 pZ:Addr
 tq:FuncData
 p_:Addr
 tx:FuncData
 qa:Addr
 tD:FuncData
 qb:Addr
 tE:FuncData
 qc:Addr
 tF:FuncData
 qd:Addr
 tG:FuncData
 mM:Addr
 qe:FuncData
 qf:Addr
 tH:FuncData
 k_:Addr
 v_:FuncData
 qg:Addr
 tI:FuncData
 qh:Addr
 tJ:FuncData
 bo:Addr
 lq:Addr
 cF:Addr
 mO:Addr
abbrev b_ (mg:dh) (x:Str) (f:Addr):Prop:=mg x=some (.ref f)
abbrev Ct (K:ax) (a:Addr):Prop:=PySem.W.excIn K a [.type "ValueError",.type "Exception",.type "BaseException",.type "object"] "ValueError.__new__"=true
structure Txt (K:ax) (mg:dh) (t:Cs):Prop where
 qi:aP K "whole_trimmed" yG t.pd t.rZ
 Cu:Binds K t.rZ ["row"] []
 Cv:b_ mg "whole_trimmed" t.pd
 tK:aP K "whole_times" yH t.pe t.r6
 IJ:Binds K t.r6 ["one","other"] []
 IK:b_ mg "whole_times" t.pe
 tL:aP K "whole_less" yI t.ph t.r9
 IL:Binds K t.r9 ["one","other"] []
 IM:b_ mg "whole_less" t.ph
 tM:aP K "whole_parted" yJ t.pj t.r_
 IP:Binds K t.r_ ["world","one","other"] []
 IQ:b_ mg "whole_parted" t.pj
 mP:aP K "power" yK t.pk t.si
 zp:Binds K t.si ["number","times"] []
 zr:b_ mg "power" t.pk
 tO:aP K "next_part" yL t.pz t.sq
 IS:Binds K t.sq ["world","last","now","by","much","least"] []
 IT:b_ mg "next_part" t.pz
 tP:aP K "whole_common" yM t.pA t.su
 IU:Binds K t.su ["world","one","other"] []
 IV:b_ mg "whole_common" t.pA
 qj:aP K "trimmed" yN t.pB t.sC
 Cw:Binds K t.sC ["world","row"] []
 Cy:b_ mg "trimmed" t.pB
 mQ:aP K "numbers_of" yO t.pC t.sD
 zt:Binds K t.sD ["world","wholes","times","bottom"] []
 zu:b_ mg "numbers_of" t.pC
 tQ:aP K "common" yP t.pD t.sE
 IW:Binds K t.sE ["world","one","other"] []
 IY:b_ mg "common" t.pD
 tR:aP K "is_whole" yQ t.pE t.sG
 IZ:Binds K t.sG ["thing"] []
 I_:b_ mg "is_whole" t.pE
 qk:aP K "common_divisor" yR t.pF t.sI
 Cz:Binds K t.sI ["one","other"] []
 CA:b_ mg "common_divisor" t.pF
 tS:aP K "is_prime" yS t.pG t.sJ
 Ja:Binds K t.sJ ["number"] []
 Jb:b_ mg "is_prime" t.pG
 tV:aP K "ratio" yT t.pH t.sL
 Jc:Binds K t.sL ["top","bottom"] []
 Jd:b_ mg "ratio" t.pH
 tW:aP K "one_bottom" yU t.pI t.sM
 Je:Binds K t.sM ["row"] []
 Jf:b_ mg "one_bottom" t.pI
 tX:aP K "remainder_back" yV t.pJ t.sN
 Jg:Binds K t.sN ["prime","number"] []
 Jh:b_ mg "remainder_back" t.pJ
 tY:aP K "remainder_over" yW t.pK t.sO
 Ji:Binds K t.sO ["prime","a","b"] []
 Jj:b_ mg "remainder_over" t.pK
 tZ:aP K "is_fractions" yX t.pL t.sP
 Jk:Binds K t.sP ["told"] []
 Jl:b_ mg "is_fractions" t.pL
 t5:aP K "is_wheel" yY t.pM t.sQ
 Jm:Binds K t.sQ ["told"] []
 Jn:b_ mg "is_wheel" t.pM
 t6:aP K "_law_e_fill" yZ t.pN t.sR
 Jo:Binds K t.sR ["cell","at"] []
 Jp:b_ mg "_law_e_fill" t.pN
 fg:aP K "_law_e_next" y3 t.pO t.sS
 gz:Binds K t.sS ["pen","many"] []
 gA:b_ mg "_law_e_next" t.pO
 kj:aP K "_law_e_low" y4 t.pP t.sU
 t7:Binds K t.sU ["top","bottom"] []
 t8:b_ mg "_law_e_low" t.pP
 iU:aP K "_law_e_of" y6 t.pQ t.sV
 mR:Binds K t.sV ["told","number"] []
 mS:b_ mg "_law_e_of" t.pQ
 mT:aP K "_law_e_plus" y7 t.pR t.sW
 zy:Binds K t.sW ["told","a","b"] []
 zA:b_ mg "_law_e_plus" t.pR
 mU:aP K "_law_e_times" y8 t.pS t.sY
 zC:Binds K t.sY ["told","a","b"] []
 zD:b_ mg "_law_e_times" t.pS
 t9:aP K "_law_e_is_number" y_ t.pV t.sZ
 Jq:Binds K t.sZ ["told","a"] []
 Jr:b_ mg "_law_e_is_number" t.pV
 t_:aP K "_law_e_is_row" za t.pW t.s_
 Js:Binds K t.s_ ["told","found"] []
 Jt:b_ mg "_law_e_is_row" t.pW
 uc:aP K "_law_e_world" zb t.pX t.tf
 Ju:Binds K t.tf ["pen"] []
 Jv:b_ mg "_law_e_world" t.pX
 ud:aP K "_law_e_number" zc t.pY t.tj
 Jw:Binds K t.tj ["pen","told","far"] []
 Jx:b_ mg "_law_e_number" t.pY
 ue:aP K "_law_e_row" zd t.pZ t.tq
 Jy:Binds K t.tq ["pen","told","most","far"] []
 Jz:b_ mg "_law_e_row" t.pZ
 iV:aP K "_law_e_cut" ze t.p_ t.tx
 mV:Binds K t.tx ["told","row"] []
 mX:b_ mg "_law_e_cut" t.p_
 uf:aP K "_law_e_sum" zf t.qa t.tD
 JA:Binds K t.tD ["told","one","other"] []
 JB:b_ mg "_law_e_sum" t.qa
 lB:aP K "_law_e_product" zg t.qb t.tE
 wa:Binds K t.tE ["told","one","other"] []
 wb:b_ mg "_law_e_product" t.qb
 ql:aP K "_law_e_left" zh t.qc t.tF
 CB:Binds K t.tF ["told","one","under"] []
 CF:b_ mg "_law_e_left" t.qc
 qm:aP K "_law_e_common_right" zi t.qd t.tG
 CH:Binds K t.tG ["told","world","one","other"] []
 CJ:b_ mg "_law_e_common_right" t.qd
 ug:aP K "law" zj t.mM t.qe
 Rt:Binds K t.qe ["script"] []
 JD:b_ mg "law" t.mM
 wc:eG K "__init__" "World.__init__" zk t.qf t.tH
 JE:Binds K t.tH ["self","told"] []
 zE:Mk K t.bo t.qf
 JF:ip K "of" "World.of" iT 1 t.k_ t.v_
 CK:Binds K t.v_ ["self","top","bottom"] []
 JG:∃v,Vals [V.int 1] [v]∧Binds K t.v_ ["self","top","bottom"] [v]
 Ru:∀(s:Shared) (us ws:List Value),K.In s.heap→ws.length=1→us.length+1=(["self","top","bottom"]:List Str).length→BindsTo s t.v_ ⟨us,[("bottom":Str)].zip ws⟩ ((["self","top","bottom"]:List Str).zip (us++ws))
 zF:Meth K t.bo "of" t.k_
 we:eG K "as_wholes" "World.as_wholes" zm t.qg t.tI
 CL:Binds K t.tI ["self","row"] []
 wg:Meth K t.bo "as_wholes" t.qg
 wj:eG K "evenly" "World.evenly" zo t.qh t.tJ
 qo:Binds K t.tJ ["self","row","by"] []
 lE:Meth K t.bo "evenly" t.qh
 d8:i_ K t.bo
 JH:b_ mg "World" t.bo
 kl:oA K t.bo "prime"
 JI:b_ mg "NoWorld" t.lq
 CM:b_ mg "NoOver" t.cF
 Rv:b_ mg "WrightError" t.mO
 Rw:mg "ValueError"=none
 wk:mg "abs"=none
 JJ:mg "all"=none
 zG:mg "bool"=none
 CN:mg "enumerate"=none
 zH:mg "int"=none
 iW:mg "isinstance"=none
 cq:mg "len"=none
 mY:mg "list"=none
 CO:mg "max"=none
 JK:mg "min"=none
 gB:mg "range"=none
 wm:mg "tuple"=none
 zI:mg "zip"=none
 JL:∃u,mg "GREATEST_PRIME"=some u∧RelV (.int 997) u
 JM:∃u,mg "LONG"=some u∧RelV (.int 2048) u
 JN:Ct K t.lq
 CP:Ct K t.cF
 Rx:Ct K t.mO
 Ry:PySem.W.mroIn K t.cF (.ref t.cF)=some true
 Rz:PySem.W.mroIn K t.cF (.ref t.mO)=some true
 RA:PySem.W.kitOne K (.ref t.cF) (.type "ValueError")=some true
 RB:PySem.W.kitOne K (.ref t.cF) (.ref t.cF)=some true
 RC:PySem.W.kitOne K (.ref t.cF) (.ref t.lq)=some false
 RD:PySem.W.hasDictIn K t.cF=true
 RE:PySem.W.findIn K (.ref t.cF) "__getattribute__"=some (some (.builtin "BaseException.__getattribute__"))
 RF:PySem.W.findIn K (.ref t.cF) "__getattr__"=some none
 RG:PySem.W.findIn K (.ref t.cF) "__class__"=some (some (.builtin "object.__class__"))
 RH:PySem.W.mroIn K t.cF (.type "object")=some true
 RI:PySem.W.mroIn K t.cF (.type "BaseException")=some true
section
variable {P:Program} {w:World} {K:ax} {mg:dh} {base:Heap} {t:Cs}
theorem RJ:bI ["thing"] ["thing"] (aR yQ):=b9
theorem RK(T:Txt K mg t):a8 P w K mg base bW 1 t.pE t.sG ["thing"] OC:=by
 have S:=RJ;refine T.tR.cH S (fun _ _ _ _ H _ Q _ hr h=>?_);obtain ⟨v,rfl,ha,k⟩:=h;refine ⟨_,(aw (aV (kJ (a9 (je (K:=K)) rfl T.iW boot_isinstance (aa (pv 0) (aa (i7 (v:=.ty "int") rfl T.zH boot_int rfl) af))) (qN (E4 (a9 (je (K:=K)) rfl T.iW boot_isinstance (aa (pv 0) (aa (i7 (v:=.ty "bool") rfl T.zG boot_bool rfl) af)))))))),?_⟩;obtain ⟨Ty,ty,k1,k2,_⟩:=ha.Bj (K:=K);refine ⟨_,rfl,_,_,_,_,rfl,rfl,ty,k1,_,rfl,bQ (fun h1=>?_) (fun h1=>?_)⟩
 ·refine ⟨_,rfl,_,_,_,_,rfl,rfl,ty,k2,_,rfl,?_⟩
  have e:(!rD v)=rC v:=by
   cases h2:rD v with
   | true=>rw [OA h2];rfl
   | false=>rw [h2,Bool.or_false] at h1;rw [h1];rfl
  show Q (.bl (!rD v)) H;rw [e];exact k
 ·have e:rC v=false:=by
   cases h2:rC v with
   | true=>rw [h2] at h1;exact absurd rfl h1
   | false=>rfl
  rw [e] at k;exact k
theorem RL:bI ["one","other","left","shorter"] ["one","other"] (aR yR):=b9
theorem JO(T:Txt K mg t):a8 P w K mg base bW 1 t.pF t.sI ["one","other"] OD:=by
 have S:=RL;obtain ⟨uL,hL,rL⟩:=T.JM;refine T.qk.cH S (fun _ _ _ _ H _ _ _ hr h=>?_);obtain ⟨a,b,rfl,mb,k⟩:=h
 refine ⟨_,(ak (putL 0 S.nd (a9 xS rfl T.wk boot_abs (aa (pv 0) af)))
  (ak (putL 1 S.nd (a9 xS rfl T.wk boot_abs (aa (pv 1) af)))
  (ak (kK dR (a7 kR (pv 1) ag) (ak (putL 2 S.nd (av fj (pv 0) (pv 1)))
  (ak (putL 0 S.nd (pv 1))
  (ak (putL 1 S.nd (pv 2))
  (aw (bN (a7 kR (NB PySem.F.plainAttrs_int PySem.F.slot_int_bit_length PySem.F.type_int_bit_length Ox (pv 0)) (EZ (v:=.int 2048) rfl hL rL)) Mq bZ))))))
  (aw (aV (pv 0)))))),?_⟩
 refine ⟨_,rfl,a,rfl,_,rfl,b,rfl,fun m σ H'=>H'=H∧∃(x y:Nat) (v u:Option V),σ=[some (.int (x:Int)),some (.int (y:Int)),v,u]∧m=y∧y≤b.natAbs∧Nat.gcd x y=Int.gcd a b,⟨b.natAbs,rfl,a.natAbs,b.natAbs,none,none,?_,rfl,aO _,rfl⟩,?_⟩
 ·show [some (V.int (if a<0 then -a else a)),some (V.int (if b<0 then -b else b)),none,none]=_
  rw [yd,yd]
 ·rintro m σ H' ⟨rfl,x,y,v,u,rfl,em,hb,hg⟩
  refine ⟨_,rfl,_,_,rfl,rfl,_,rfl,bQ (fun hy=>?_) (fun hy=>?_)⟩
  ·have hy:(0:Int)<y:=dC hy
   refine ⟨fun σ' H2=>H2=H'∧σ'=[some (.int (y:Int)),some (.int (((x % y:Nat)):Int)),some (.int (((x % y:Nat)):Int)),u],?_,?_⟩
   ·rintro σ' H2 ⟨rfl,rfl⟩
    exact ⟨x % y,by rw [em];exact Nat.mod_lt _ (by lia),rfl,y,x % y,_,_,rfl,rfl,ai (Nat.le_of_lt (Nat.mod_lt _ (by lia))) hb,by rw [Gb];exact hg⟩
   ·have hm:aU (y:Int):=i6 (by rw [Int.natAbs_natCast];exact hb) mb
    have ZL:=Oz hm;refine ⟨_,rfl,_,rfl,_,_,rfl,rfl,hy,_,rfl,_,rfl,_,rfl,rfl,_,rfl,rfl,_,_,rfl,rfl,_,rfl,bQ (fun hz=>?_) (fun _=>⟨rfl,rfl⟩)⟩;have hz:=dC hz;exact absurd hz (by lia)
  ·have hy:¬(0:Int)<y:=fun z=>hy (dM z)
   have y0:y=0:=by lia
   subst y0;rw [Nat.gcd_zero_right] at hg;rw [←hg] at k;exact ⟨_,rfl,k⟩
theorem RM:bI ["number","divisor"] ["number"] (aR yS):=b9
theorem RN(T:Txt K mg t):a8 P w K mg base bW 1 t.pG t.sJ ["number"] OE:=by
 have S:=RM;refine T.tS.cH S (fun _ _ _ _ H _ Q _ hr h=>?_);obtain ⟨n,rfl,RO,qZ,k⟩:=h
 refine ⟨_,(ak (putL 1 S.nd ag)
  (ak (kK dR (a7 xP (av fS (pv 1) (pv 1)) (pv 0)) (ak (bN (a7 fI (av fj (pv 0) (pv 1)) ag) (aw (aV fR)) bZ)
  (aw (xH (i:=1) S.nd rfl (Or.inl rfl) ag E_))))
  (aw (aV (vg xQ (pv 0) ag))))),?_⟩
 refine ⟨fun m σ H'=>H'=H∧∃d:Int,σ=[some (.int n),some (.int d)]∧2≤d∧d≤32∧m=(33-d).toNat∧∀e:Int,2≤e→e<d→n % e≠0,⟨_,rfl,2,rfl,by lia,by lia,rfl,fun e a b=>by lia⟩,?_⟩
 rintro m σ H' ⟨rfl,d,rfl,h1,h2,rfl,h3⟩;refine ⟨_,rfl,_,rfl,_,_,rfl,rfl,.inl ⟨by lia,by lia⟩,_,rfl,_,_,rfl,rfl,_,rfl,bQ (fun hq=>?_) (fun hq=>?_)⟩
 ·have hq:=dC hq
  have hd:d<32:=by
   by_cases z:d<32;·exact z
   ·have:d=32:=by lia
    subst this;lia
  refine ⟨fun σ' H2=>H2=H'∧σ'=[some (.int n),some (.int (d+1))]∧n % d≠0,?_,?_⟩
  ·rintro σ' H2 ⟨rfl,rfl,hm⟩
   refine ⟨(33-(d+1)).toNat,by lia,rfl,d+1,rfl,by lia,by lia,rfl,fun e a b=>?_⟩
   by_cases z:e=d;·subst z;exact hm
   ·exact h3 e a (by lia)
  ·refine ⟨_,rfl,_,rfl,_,_,rfl,rfl,(show (0:Int)<d by lia),rfl,_,rfl,bQ (fun hm=>?_) (fun hm=>?_)⟩
   ·have hm:=V.int.inj (dC hm)
    rw [F9 qZ h1 hq hm] at k;exact k
   ·exact ⟨_,rfl,_,_,rfl,rfl,rfl,rfl,fun z=>hm (dM (fL V.int z))⟩
 ·have hq:¬d*d≤n:=fun z=>hq (dM z)
  refine ⟨_,rfl,_,_,rfl,rfl,?_⟩;rw [Oo (n:=n) (d:=d) (by lia) h1 h3] at k
  have e:decide ((2:Int)≤n)=true:=dM RO;show Q (.bl (decide ((2:Int)≤n))) H';rw [e];exact k
theorem RP:bI ["told"] ["told"] (aR yX):=b9
theorem RQ(T:Txt K mg t):a8 P w K mg base bW 1 t.pL t.sP ["told"] OF:=by
 have S:=RP;refine T.tZ.cH S (fun _ _ _ _ H _ _ _ hr h=>?_);obtain ⟨p,d,rfl,hp,k⟩:=h;refine ⟨_,(aw (aV (kJ (a9 (je (K:=K)) rfl T.iW boot_isinstance (aa (pv 0) (aa (i7 (v:=.ty "tuple") rfl T.wm boot_tuple rfl) af))) (kJ (vg fI (a9 cD rfl T.cq cz (aa (pv 0) af)) ag) (qN (vg fI (az b7 (pv 0) ag) hJ)))))),?_⟩;refine ⟨_,rfl,_,_,_,true,rfl,rfl,.of (.tup hp),vx,true,rfl,fo ?_⟩;cases d with
 | a x=>refine ⟨_,rfl,p,_,rfl,.inr (.of hp),rfl,true,rfl,fo ?_⟩;refine ⟨_,rfl,p,_,0,.str x,rfl,rfl,.of hp,rfl,rfl,?_⟩;rw [Br];exact k
 | b x n=>exact ⟨_,rfl,p,_,rfl,.inr (.of hp),rfl,false,rfl,dD k⟩
theorem RR:bI ["told"] ["told"] (aR yY):=b9
theorem RS(T:Txt K mg t):a8 P w K mg base bW 2 t.pM t.sQ ["told"] OG:=by
 have S:=RR;obtain ⟨uG,hG,rG⟩:=T.JL;refine T.t5.cH S (fun _ _ _ _ H _ _ _ hr h=>?_);obtain ⟨p,d,rfl,hp,k⟩:=h
 refine ⟨_,(ak (bN (PW.pt (pw_or (om (jN (a9 (je (K:=K)) rfl T.iW boot_isinstance (aa (pv 0) (aa (i7 (v:=.ty "tuple") rfl T.wm boot_tuple rfl) af))))) (pw_or (a7 qX (a9 cD rfl T.cq cz (aa (pv 0) af)) ag) (pw_or1 (a7 qX (az b7 (pv 0) ag) hJ))))) (aw (aV fR)) bZ)
  (aw (aV (kJ (aL (RK T) hr T.I_ T.tR.kp T.IZ aG (aa (az b7 (pv 0) ag) af)) (kJ (Fp xP xP ag (az b7 (pv 0) ag) (EZ (v:=.int 997) rfl hG rG)) (qN (aL (RN T) hr T.Jb T.tS.kp T.Ja aG (aa (az b7 (pv 0) ag) af)))))))),?_⟩
 refine ⟨_,rfl,_,_,_,true,rfl,rfl,.of (.tup hp),vx,true,rfl,dD ?_⟩;cases d with
 | a x=>exact ⟨_,rfl,p,_,rfl,.inr (.of hp),rfl,true,rfl,fo (fo k)⟩
 | b x n=>
  refine ⟨_,rfl,p,_,rfl,.inr (.of hp),rfl,false,rfl,dD ?_⟩;refine ⟨_,rfl,p,_,0,.str x,rfl,rfl,.of hp,rfl,rfl,_,rfl,bQ (fun hw=>?_) (fun hw=>?_)⟩
  ·have hw:¬x="wheel":=by rw [Br] at hw;simpa using hw
   have e:(Td.b x n).iL=false:=by simp [Td.iL,hw]
   rw [e] at k;exact k
  ·have hw:x="wheel":=by rw [Br] at hw;simpa using hw
   refine ⟨_,rfl,p,_,1,.int n,rfl,rfl,.of hp,rfl,.int n,rfl,.int n,true,rfl,fo ?_⟩;refine ⟨_,rfl,p,_,1,.int n,rfl,rfl,.of hp,rfl,_,_,rfl,rfl,_,rfl,?_⟩;refine bQ (fun h2=>?_) (fun h2=>?_)
   ·have h2:=dC h2
    refine ⟨_,_,rfl,rfl,_,rfl,bQ (fun h3=>?_) (fun h3=>?_)⟩
    ·have h3:=dC h3
     refine ⟨_,rfl,p,_,1,.int n,rfl,rfl,.of hp,rfl,n,rfl,h2,h3,?_⟩;have e:(Td.b x n).iL=jf n:=by simp [Td.iL,hw,h2,h3]
     rw [e] at k;exact k
    ·have h3:¬n≤997:=fun z=>h3 (dM z)
     have e:(Td.b x n).iL=false:=by simp [Td.iL,h3]
     rw [e] at k;exact k
   ·have h2:¬2≤n:=fun z=>h2 (dM z)
    have e:(Td.b x n).iL=false:=by simp [Td.iL,h2]
    rw [e] at k;exact ⟨false,rfl,dD k⟩
theorem RT:bI ["self","told"] ["self","told"] (aR zk):=b9
theorem RU(T:Txt K mg t):a8 P w K mg base (fq P w) 3 t.qf t.tH ["self","told"] (OH t.bo t.lq):=by
 have S:=RT;refine T.wc.fU S (fun _ _ _ _ H _ _ _ hr h L=>?_);obtain ⟨x,dx,p,d,rfl,hx,hp,k1,k2⟩:=h;refine ⟨_,(aw (bN (jN (aL (RQ T) hr T.Jl T.tZ.kp T.Jk aG (aa (pv 1) af))) (aw (Fx (pv 0) qM rfl)) (aw (bN (jN (aL (RS T) hr T.Jn T.t5.kp T.Jm aG (aa (pv 1) af))) (aw (Fx (pv 0) (az b7 (pv 1) ag) rfl)) (aw (Bh L rfl AA T.JN rfl T.JI (aa hJ af))))))),?_⟩;refine ⟨_,rfl,p,d,rfl,hp,_,rfl,bQ (fun hF=>?_) (fun hF=>?_)⟩
 ·refine ⟨_,rfl,x,t.bo,dx,[],rfl,hx,T.d8,T.kl,(by show 0<1000;decide),?_⟩
  have e:d.prime=.aH:=by
   cases d with
   | a x=>rfl
   | b x n=>cases hF
  have k:=k1 (by unfold Td.good;rw [hF];rfl)
  rw [e] at k;exact k
 ·have hF:d.vo=false:=by simpa using hF
  refine ⟨_,rfl,p,d,rfl,hp,_,rfl,bQ (fun hW=>?_) (fun hW=>?_)⟩
  ·have k:=k1 (by unfold Td.good;rw [hW,Bool.or_true])
   cases d with
   | a x=>cases hW
   | b y n=>exact ⟨_,rfl,p,_,1,.int n,rfl,rfl,.of hp,rfl,_,rfl,x,t.bo,dx,[],rfl,hx,T.d8,T.kl,(by show 0<1000;decide),k⟩
  ·have hW:d.iL=false:=by simpa using hW
   exact ⟨by show 1≤sizeLine;decide,k2 (by unfold Td.good;rw [hF,hW];rfl)⟩
theorem RV:bI ["top","bottom","shared"] ["top","bottom"] (aR yT):=b9
theorem RW(T:Txt K mg t):a8 P w K mg base (fq P w) 2 t.pH t.sL ["top","bottom"] (OS t.cF):=by
 have S:=RV;refine T.tV.fU S (fun _ _ _ _ H _ _ _ hr h L=>?_);obtain ⟨a,b,rfl,mb,kE,k⟩:=h
 refine ⟨_,(ak (bN (a7 fI (pv 1) ag) (aw (Bh L rfl AA T.CP rfl T.CM (aa hJ af))) bZ)
  (ej.oo (ak (putL 2 S.nd (aL (JO T) hr T.CA T.qk.kp T.Cz aG (aa (pv 0) (aa (pv 1) af))))
  (ak (bN (a7 i9 (pv 1) ag) (aw (putL 2 S.nd (iH iI (pv 2)))) bZ)
  (aw (aV (iJ (aa (av vv (pv 0) (pv 2)) (aa (av vv (pv 1) (pv 2)) af))))))))),?_⟩
 have n2:2≤sizeLine:=by decide
 refine ⟨_,rfl,rfl,_,rfl,bQ (fun hz=>?_) (fun hz=>?_)⟩
 ·have hz:b=0:=V.int.inj (dC hz)
  exact ⟨by show 1≤sizeLine;decide,kE hz⟩
 have hz:b≠0:=fun z=>hz (dM (by rw [z]))
 have ok:=Gd (a:=a) hz mb;have kk:=k hz;unfold fc fe at kk;refine ⟨_,rfl,_,rfl,a,b,rfl,mb,_,rfl,_,_,rfl,rfl,_,rfl,bQ (fun hn=>?_) (fun hn=>?_)⟩
 ·have hn:b<0:=dC hn
  have e:lowG a b=-(Int.gcd a b:Int):=by unfold lowG;rw [au hn,qE]
  rw [e] at ok kk;refine ⟨_,rfl,_,rfl,_,rfl,_,rfl,_,_,rfl,rfl,ok,_,rfl,_,rfl,_,_,rfl,rfl,ok,n2,fun r hr=>kk r _ (aC hr) aq⟩
 ·have hn:¬b<0:=fun z=>hn (dM z)
  have e:lowG a b=(Int.gcd a b:Int):=by unfold lowG;rw [ar hn]
  rw [e] at ok kk;refine ⟨_,rfl,_,rfl,_,_,rfl,rfl,ok,_,rfl,_,rfl,_,_,rfl,rfl,ok,n2,fun r hr=>kk r _ (aC hr) aq⟩
theorem RX:bI ["prime","number","last","last_times","now","now_times","fits","left","left_times"] ["prime","number"] (aR yV):=b9
theorem RY(T:Txt K mg t):a8 P w K mg base (fq P w) 1 t.pJ t.sN ["prime","number"] (OM t.cF):=by
 have S:=RX;refine T.tX.fU S (fun _ _ _ _ H _ _ _ hr h L=>?_);obtain ⟨q,b,rfl,q1,q2,q3,b0,b1,kE,k⟩:=h
 refine ⟨_,(ak (bN (a7 fI (pv 1) ag) (aw (Bh L rfl AA T.CP rfl T.CM (aa hJ af))) bZ)
  (ej.oo (ak (putL 2 S.nd (pv 0))
  (ak (putL 3 S.nd ag)
  (ak (putL 4 S.nd (pv 1))
  (ak (putL 5 S.nd ag)
  (ak (kK dR (a7 kR (pv 4) ag) (ak (putL 6 S.nd (av Fg (pv 2) (pv 4)))
  (ak (putL 7 S.nd (av fH (pv 2) (av fS (pv 6) (pv 4))))
  (ak (putL 8 S.nd (av fH (pv 3) (av fS (pv 6) (pv 5))))
  (ak (putL 2 S.nd (pv 4))
  (ak (putL 3 S.nd (pv 5))
  (ak (putL 4 S.nd (pv 7))
  (aw (putL 5 S.nd (pv 8))))))))))
  (aw (aV (av fj (pv 5) (pv 0))))))))))),?_⟩
 refine ⟨_,rfl,rfl,_,rfl,bQ (fun hz=>?_) (fun hz=>?_)⟩
 ·have hz:b=0:=V.int.inj (dC hz)
  exact ⟨by show 1≤sizeLine;decide,kE hz⟩
 have hz:b≠0:=fun z=>hz (dM (by rw [z]))
 refine ⟨_,rfl,_,rfl,fun m σ H'=>H'=H∧∃(l lt n nt:Int) (v1 v2 v3:Option V),σ=[some (.int q),some (.int b),some (.int l),some (.int lt),some (.int n),some (.int nt),v1,v2,v3]∧m=n.toNat∧kU q b l lt n nt∧l≤997,
  ⟨b.toNat,rfl,q,0,b,1,none,none,none,rfl,rfl,kU.start q1 q2 q3 (by lia) b1,q2⟩,?_⟩
 rintro m σ H' ⟨rfl,l,lt,n,nt,v1,v2,v3,rfl,em,hb,hl⟩;have p1:=hb.pos;have p2:=hb.less;refine ⟨_,rfl,_,_,rfl,rfl,_,rfl,bQ (fun hy=>?_) (fun hy=>?_)⟩
 ·have hy:1<n:=dC hy
  have hs:=hb.step hy;have f0:0≤l / n:=u7 (by lia) (by lia)
  have f1:l / n≤l:=Int.ediv_le_self _ (by lia)
  refine ⟨fun σ' H2=>H2=H'∧σ'=[some (.int q),some (.int b),some (.int n),some (.int nt),some (.int (l-l / n*n)),some (.int (lt-l / n*nt)),some (.int (l / n)),some (.int (l-l / n*n)),some (.int (lt-l / n*nt))],?_,?_⟩
  ·rintro σ' H2 ⟨rfl,rfl⟩
   exact ⟨(l-l / n*n).toNat,by rw [em];lia,rfl,_,_,_,_,_,_,_,rfl,rfl,hs.1,by lia⟩
  ·exact ⟨_,rfl,_,rfl,_,_,rfl,rfl,⟨by lia,by lia⟩,_,rfl,_,rfl,_,rfl,_,_,rfl,rfl,.inr ⟨by lia,by lia⟩,_,_,rfl,rfl,
    _,rfl,_,rfl,_,rfl,_,_,rfl,rfl,.inl ⟨by lia,by lia⟩,_,_,rfl,rfl,_,rfl,_,rfl,_,rfl,_,rfl,rfl,rfl⟩
 ·have hy:¬1<n:=fun z=>hy (dM z)
  have n1:n=1:=by lia
  subst n1;exact ⟨_,rfl,_,rfl,_,_,rfl,rfl,(show (0:Int)<q by lia),k hz _ (dk _ (by lia)) (du _ (by lia)) (hb.done q1)⟩
theorem RZ:bI ["prime","a","b"] ["prime","a","b"] (aR yW):=b9
theorem R0(T:Txt K mg t):a8 P w K mg base (fq P w) 2 t.pK t.sO ["prime","a","b"] (ON t.cF):=by
 have S:=RZ;refine T.tY.fU S (fun _ _ _ _ H _ _ _ hr h L=>?_);obtain ⟨q,i,j,rfl,q1,q2,q3,i0,i1,j0,j1,kE,k⟩:=h;refine ⟨_,(aw (aV (av fj (av fS (pv 1) (aL (RY T) hr T.Jh T.tX.kp T.Jg (Bg L) (aa (pv 0) (aa (pv 2) af)))) (pv 0)))),?_⟩
 exact ⟨_,rfl,_,rfl,_,rfl,q,j,rfl,q1,q2,q3,j0,j1,kE,fun hj r r0 r1 gC=>⟨_,_,rfl,rfl,.inl ⟨by lia,by lia⟩,_,rfl,_,_,rfl,rfl,(show (0:Int)<q by lia),
  k hj _ (dk _ (by lia)) (du _ (by lia)) (OO q1 i0 i1 gC)⟩⟩
theorem R1:bI ["self","top","bottom"] ["self","top","bottom"] (aR iT):=b9
theorem CQ(T:Txt K mg t):a8 P w K mg base (fq P w) 3 t.k_ t.v_ ["self","top","bottom"] (OT t.bo t.cF):=by
 have S:=R1;refine T.JF.Bi S (fun vs H Q E h=>?_) (fun aT A outer s H vs Q E hr h L=>?_)
 ·obtain ⟨z,q,a,b,rfl,_⟩:=h
  rfl
 ·obtain ⟨z,q,a,b,rfl,⟨dx,hx⟩,hq,mb,kE,k⟩:=h
  refine ⟨_,(ak (bN (a7 AU (oB (pv 0) rfl) qM) (aw (aV (aL (RW T) hr T.Jd T.tV.kp T.Jc (Bg L) (aa (pv 1) (aa (pv 2) af))))) bZ)
   (aw (aV (aL (R0 T) hr T.Jj T.tY.kp T.Ji (Bg L) (aa (oB (pv 0) rfl) (aa (av fj (pv 1) (oB (pv 0) rfl)) (aa (av fj (pv 2) (oB (pv 0) rfl)) af))))))),?_⟩
  refine ⟨_,rfl,z,t.bo,dx,_,_,rfl,hx,T.d8,T.kl,oQ _,rfl,_,rfl,?_⟩;rcases hq with rfl | ⟨q2,q3,q4⟩
  ·rw [au rfl]
   refine fo ⟨_,rfl,_,rfl,a,b,rfl,mb,fun hb=>kE (by unfold jY;rw [au rfl];exact hb),fun hb r H' s' er=>k (fun hn=>hb (by unfold jY at hn;rw [au rfl] at hn;exact hn)) _ H' s' (.inl ⟨rfl,r,rfl,er⟩)⟩
  ·have hq:q≠0:=by lia
   rw [ar hq] at hx ⊢;have p0:(0:Int)<q:=by lia
   refine dD ⟨_,rfl,z,t.bo,dx,_,_,rfl,hx,T.d8,T.kl,oQ _,_,rfl,_,rfl,z,t.bo,dx,_,_,rfl,hx,T.d8,T.kl,oQ _,_,_,rfl,rfl,p0,_,rfl,_,rfl,z,t.bo,dx,_,_,rfl,hx,T.d8,T.kl,oQ _,_,_,rfl,rfl,p0,?_⟩;have nv:jY q b↔b % q=0:=by unfold jY;rw [ar hq]
   exact ⟨q,a % q,b % q,rfl,q2,q3,q4,dk _ hq,du _ p0,dk _ hq,du _ p0,fun hj=>kE (nv.mpr hj),fun hj r r0 r1 gC=>k (fun z=>hj (nv.mp z)) _ H (ah.refl H) (.inr ⟨q2,r,rfl,r0,r1,gC⟩)⟩
theorem R4:bI ["row","bottom","number"] ["row"] (aR yU):=b9
theorem R5(T:Txt K mg t):a8 P w K mg base bW 2 t.pI t.sM ["row"] PY:=by
 have S:=R4;refine T.tW.cH S (fun _ _ _ _ H vs _ _ hr h=>?_);obtain ⟨a,ps,B,D,rfl,⟨vs,ea,hl,hn⟩,JP,dG,hD,hB,bD,k⟩:=h
 refine ⟨_,(ak (jX 1 S.nd ag)
  (ak (ia dR rfl (kM (pv 0)) (d6 (i:=2) S.nd rfl (Or.inl rfl))
   (aw (jX 1 S.nd (av fX (av Bo (pv 1) (aL (JO T) hr T.CA T.qk.kp T.Cz aG (aa (pv 1) (aa (az b7 (pv 2) ag) af)))) (az b7 (pv 2) ag)))))
  (aw (aV (iJ (aa (jg (N:=["number","bottom"]) (ρ:=(fun σ=>[σ[1]?.join])) (fW [1] rfl) rfl (kM (pv 0)) (fun _ _ _=>.nil) (fun _ _ _=>(av fX (az (yn (K:=K)) (pv 0) ag) (av Bo (pv 1) (az (yn (K:=K)) (pv 0) ag))))) (aa (pv 1) af))))))),?_⟩
 have D1:=dG.1 rfl;have parts:∀(i:Nat) (v:V),vs[i]?=some v→∃(r:Addr) (x m:Int),v=.ref r∧H r=some (.tup [.int x,.int m])∧ps[i]?=some (x,m)∧il x m∧x.natAbs≤B∧m∣D:=fun i v e=>by
  have hi:i<ps.length:=by rw [←hl];exact (cG.mp e).1
  have ep:ps[i]?=some ps[i]:=by simp [hi]
  have h1:=hn i v ps[i] e ep;have h2:=hD _ (gI hi);generalize ps[i]=p at h1 ep h2;obtain ⟨x,m⟩:=p;cases h1 with
  | bJ er l bx bm=>exact ⟨_,x,m,rfl,er,ep,l,bx,h2⟩
  | rem h0 h1 h2=>lia
 have uh:∀{y:Int},y∣D→aU y:=fun h=>aU.Hq (ai (vK h (by lia)) bD)
 refine ⟨_,rfl,a,rfl,⟨_,.of ea⟩,?_⟩
 refine MM (K:=K) (a:=a) (xs:=vs) (fun i σ Hc=>Hc=H∧∃(b:Int) (v2:Option V),σ=[some (.ref a),some (.int b),v2]∧1≤b∧b∣D∧∀(j:Nat) (p:Int×Int),j<i→ps[j]?=some p→p.2∣b)
  ⟨rfl,1,none,rfl,by decide,nY D,fun j p hj=>by lia⟩ (fun i σ Hc _ ⟨z,_⟩=>by rw [z];exact .of ea) ?_ ?_
 ·rintro i v σ Hc hi ⟨rfl,b,v2,rfl,b1,bb,hd⟩
  obtain ⟨r,x,m,rfl,er,ep,l,bx,bm⟩:=parts i v hi;have m1:=l.pos;obtain ⟨s1,s2,s3,s4⟩:=O8 b1 m1;have gp:=oR (a:=b) (b:=m) (by lia)
  have gm:aU (Int.gcd b m:Int):=uh (kz (nS ..) bm);refine ⟨_,rfl,_,rfl,_,rfl,r,_,_,_,rfl,rfl,.of er,rfl,b,m,rfl,uh bm,_,_,rfl,rfl,⟨by lia,gm⟩,_,rfl,r,_,_,_,rfl,rfl,.of er,rfl,_,_,rfl,rfl,⟨?_,uh bm⟩,?_⟩
  ·exact i6 (lR ..) (uh bb)
  ·refine ⟨rfl,_,_,rfl,s1,lcm_dvd b1 m1 bb bm,fun j p hj hp=>?_⟩
   by_cases z:j=i
   ·subst z
    rw [ep] at hp;cases hp;exact s2
   ·exact kz (hd j p (by lia) hp) s3
 ·rintro σ Hc ⟨rfl,b,v2,rfl,b1,bb,hd⟩
  rw [hl] at hd;have mb:aU b:=uh bb;dsimp only;refine rK (O7 (vE (xs:=vs) (fun R h=>⟨_,rfl,a,rfl,⟨_,.of ea⟩,h _ _ (ah.refl _) (mF (.of ea))⟩) (by rw [hl];exact jd (by lia)) (fun _ i y _=>∃(p:Int×Int),ps[i]?=some p∧y=.int (p.1*(b / p.2))) (fun _ _ _ _ _ _ h _ _=>h) ?_ ?_))
  ·intro D' i v hi Hd R sd _ kd
   obtain ⟨r,x,m,rfl,er,ep,l,bx,bm⟩:=parts i v hi;have m1:=l.pos;have R6:aU (b / m):=i6 (lR ..) mb;exact ⟨_,rfl,r,_,_,_,rfl,rfl,.of (sd _ _ er),rfl,_,rfl,_,rfl,r,_,_,_,rfl,rfl,.of (sd _ _ er),rfl,_,_,rfl,rfl,⟨by lia,uh bm⟩,_,_,rfl,rfl,⟨aU.Hq (ai bx hB),R6⟩,kd _ Hd (ah.refl _) ⟨(x,m),ep,rfl⟩⟩
  ·intro D' ys Hd nD sd zJ hP eD
   have ey:ys=(ps.map fun p=>p.1*(b / p.2)).map V.int:=yo (by rw [zJ,hl,aW]) fun i v e=>by obtain ⟨p,e1,e2⟩:=hP i v e;exact ⟨p.1*(b / p.2),by rw [eS,e1];rfl,e2⟩
   refine ⟨_,rfl,by show 2≤sizeLine;decide,fun r gC=>?_⟩
   refine k _ _ (ps.map fun p=>p.1*(b / p.2)) b (sd.trans (aC gC)) ⟨r,D',rfl,aq,aC gC _ _ (by rw [eD,ey]),nD⟩ ⟨by rw [aW],⟨fun _=>b1,fun z=>absurd rfl z⟩,bb,fun i hi=>?_⟩
   have CS:i<vs.length:=by lia
   have e1:(ps.map fun p=>p.1*(b / p.2)).getD i 0=ps[i].1*(b / ps[i].2):=by rw [getD_at (by rw [aW];exact hi),iB]
   rw [e1,getD_at hi];obtain ⟨r',x,m,_,_,ep,l,bx,bm⟩:=parts i vs[i] (by simp [CS])
   have zK:ps[i]=(x,m):=by
    rw [show ps[i]?=some ps[i] by simp [hi]] at ep
    exact Option.some.inj ep
   rw [zK];dsimp only;have m1:=l.pos;obtain ⟨c,ec⟩:=hd i (x,m) hi (by rw [←zK];simp [hi])
   dsimp only at ec;have eq:b / m=c:=by rw [ec];exact lT _ (by lia)
   refine ⟨by rw [eq,ec];grind,?_⟩
   rw [bq];exact cI bx (ai (lR ..) (vK bb (by lia)))
theorem R7:bI ["self","row"] ["self","row"] (aR zm):=b9
theorem R8(T:Txt K mg t):a8 P w K mg base bW 3 t.qg t.tI ["self","row"] (PZ t.bo):=by
 have S:=R7;refine T.we.cH S (fun _ _ _ _ H vs _ _ hr h=>?_);obtain ⟨z,a,q,ps,B,D,rfl,⟨dx,hx⟩,hq,JQ,JP,dG,hD,hB,b1,bD,k⟩:=h
 refine ⟨_,(ak (bN (a7 AU (oB (pv 0) rfl) qM) (aw (aV (aL (R5 T) hr T.Jf T.tW.kp T.Je aG (aa (pv 1) af)))) bZ)
  (aw (aV (iJ (aa (q_ vk rfl T.mY boot_list (aa (pv 1) af)) (aa ag af)))))),?_⟩
 refine ⟨_,rfl,z,t.bo,dx,_,_,rfl,hx,T.d8,T.kl,oQ _,rfl,_,rfl,?_⟩;rcases hq with rfl | ⟨q2,q3,q4⟩
 ·rw [au rfl]
  exact fo ⟨_,rfl,a,ps,B,D,rfl,JQ,JP,dG,hD,hB,bD,k⟩
 ·have hq:q≠0:=by lia
  rw [ar hq] at hx ⊢;obtain ⟨vs,ea,hl,hn⟩:=JQ;have parts:∀(i:Nat) (v:V),vs[i]?=some v→∃x:Int,v=.int x∧ps[i]?=some (x,1)∧0≤x∧x<q:=fun i v e=>by
   have hi:i<ps.length:=by rw [←hl];exact (cG.mp e).1
   have ep:ps[i]?=some ps[i]:=by simp [hi]
   have h1:=hn i v ps[i] e ep;generalize ps[i]=p at h1 ep;obtain ⟨x,m⟩:=p;cases h1 with
   | bJ er l bx bm=>exact absurd rfl hq
   | rem h0 h1 h2=>exact ⟨x,rfl,ep,h0,h1⟩
  have ey:vs=(ps.map fun p=>p.1).map V.int:=yo (by rw [hl,aW]) fun i v e=>by obtain ⟨x,e1,e2,_⟩:=parts i v e;exact ⟨x,by rw [eS,e2];rfl,e1⟩
  have eD:=dG.2 hq;refine dD ⟨_,rfl,a,vs,rfl,.inl (.of ea),fun l nl=>⟨by show 2≤sizeLine;decide,fun r gC=>?_⟩⟩
  refine k _ _ (ps.map fun p=>p.1) 1 ((aC nl).trans (aC gC)) ⟨r,l,rfl,aq,aC gC _ _ (by rw [aq,ey]),nl⟩ ⟨by rw [aW],bH.one,nY D,fun i hi=>?_⟩
  have CS:i<vs.length:=by lia
  rw [getD_at (by rw [aW];exact hi),iB,getD_at hi]
  obtain ⟨x,_,ep,x0,x1⟩:=parts i vs[i] (by simp [CS])
  have zK:ps[i]=(x,1):=by
   rw [show ps[i]?=some ps[i] by simp [hi]] at ep
   exact Option.some.inj ep
  rw [zK];refine ⟨rfl,?_⟩;rw [eD];show x.natAbs≤B*1;lia
theorem R9:bI ["world","row","many"] ["world","row"] (aR yN):=b9
theorem JR(T:Txt K mg t):a8 P w K mg base bW 4 t.pB t.sC ["world","row"] (PF t.bo):=by
 have S:=R9;have wo:=CQ (P:=P) (w:=w) (base:=base) T;obtain ⟨dv,R_,Sa⟩:=T.JG;refine T.qj.cH S (fun _ _ _ _ H vs _ _ hr h=>?_);obtain ⟨z,a,q,ps,B,rfl,hz,hq,hR,JS,k⟩:=h;have hu:=hr.vi
 refine ⟨_,(ak (putL 2 S.nd (a9 cD rfl T.cq cz (aa (pv 1) af)))
  (ak (kK dR (PW.pt (pw_and (a7 kR (pv 2) ag) (pw_and1 (a7 (Gi hu) (az a_ (pv 1) (av fH (pv 2) ag)) (jb (pv 0) T.d8 T.zF wo (hr.mono (by decide)) Sa R_ x6 (aa ag af)))))) (aw (xH (i:=2) S.nd rfl (Or.inl rfl) ag Fb)))
  (aw (aV (rg rj (pv 1) rd (rf (pv 2))))))),?_⟩
 obtain ⟨vs,ea,hl,hn⟩:=id hR;refine ⟨_,rfl,a,vs,rfl,.inl (.of ea),?_⟩;refine ⟨fun c σ Hc=>ah H Hc∧c≤ps.length∧da ps c=da ps ps.length∧σ=[some (.ref z),some (.ref a),some (.int (c:Int))],⟨ps.length,ah.refl H,aO _,rfl,by rw [←hl];rfl⟩,?_⟩
 rintro c σ Hc ⟨sc,hc,qp,rfl⟩;refine ⟨_,rfl,_,_,rfl,rfl,_,rfl,bQ (fun h0=>?_) (fun h0=>?_)⟩
 ·have h0:(0:Int)<(c:Int):=dC h0
  obtain ⟨d,rfl⟩:∃d,c=d+1:=⟨c-1,by lia⟩
  have hd:d<vs.length:=by lia
  have kI:d<ps.length:=by lia
  refine ⟨_,rfl,_,rfl,_,_,rfl,rfl,a,vs,_,vs[d],rfl,rfl,.of (sc _ _ ea),(by show cK vs (((d+1:Nat):Int)-1)=_;rw [show ((d+1:Nat):Int)-1=(d:Int) by lia];exact gN (by simp [hd])),?_⟩
  have hv:=hn d vs[d] ps[d] (by simp [hd]) (by simp [kI])
  obtain ⟨dz,JT⟩:=hz.mono sc;have nv:=Pp hq;refine ⟨_,rfl,z,dz,_,rfl,JT,jk (by decide +kernel),z,q,0,1,rfl,⟨dz,JT⟩,hq,aU.of_lt (by decide) (by decide),fun h=>absurd h nv,fun _ v0 H1 s1 ho=>?_⟩
  have mE:=Po (B:=1000) (by decide) ho hq (.inl rfl)
  have gd:ps.getD d o1=ps[d]:=getD_at kI;refine GX (hv.mono (sc.trans s1)) mE ⟨_,rfl,bQ (fun fB=>?_) (fun fB=>?_)⟩
  ·have fB:ps[d].1=0:=dC fB
   refine ⟨fun σ' H2=>ah H H2∧σ'=[some (.ref z),some (.ref a),some (.int (d:Int))],?_,?_⟩
   ·rintro σ' H2 ⟨s2,rfl⟩
    refine ⟨d,by lia,s2,by lia,?_,rfl⟩
    rw [←qp];show _=if (ps.getD d o1).1=0 then da ps d else d+1
    rw [gd,au fB]
   ·exact ⟨_,rfl,_,_,rfl,rfl,sc.trans s1,by show List.set _ 2 (some (V.int (((d+1:Nat):Int)-1)))=_;rw [show ((d+1:Nat):Int)-1=(d:Int) by lia];rfl⟩
  ·have fB:¬ps[d].1=0:=fun e=>fB (dM e)
   have e:da ps ps.length=d+1:=by
    rw [←qp];show (if (ps.getD d o1).1=0 then da ps d else d+1)=_
    rw [gd,ar fB]
   refine ⟨_,rfl,_,rfl,_,rfl,a,vs,rfl,.of ((sc.trans s1) _ _ ea),fun r nr=>?_⟩;rw [rO vs (d+1) (by lia)]
   have sr:=(sc.trans s1).trans (aC (o:=.lst (vs.take (d+1))) nr);refine k r _ sr (none_of (sc.trans s1) nr) ?_;unfold aM;rw [e];exact aN.take aq hl fun i v p h1 h2=>(hn i v p h1 h2).mono sr
 ·have h0:¬(0:Int)<(c:Int):=fun z=>h0 (dM z)
  have c0:c=0:=by lia
  subst c0;refine ⟨_,rfl,_,rfl,_,rfl,a,vs,rfl,.of (sc _ _ ea),fun r nr=>?_⟩;rw [rO vs 0 (by lia)]
  have sr:=sc.trans (aC (o:=.lst (vs.take 0)) nr);refine k r _ sr (none_of sc nr) ?_;unfold aM;rw [←qp];exact aN.take aq hl fun i v p h1 h2=>(hn i v p h1 h2).mono sr
theorem Sb:bI ["self","row","by","back"] ["self","row","by"] (aR zo):=b9
theorem CT(T:Txt K mg t):a8 P w K mg base bW 4 t.qh t.tJ ["self","row","by"] (HR t.bo):=by
 have S:=Sb;have wo:=CQ (P:=P) (w:=w) (base:=base) T;refine T.wj.cH S (fun _ _ _ _ H _ _ _ hr h=>?_);obtain ⟨z,a,q,ts,b,u,rfl,⟨dx,hx⟩,hq,ea,zM,hm,mb,nb,j4,k⟩:=h
 refine ⟨_,(ak (bN (a7 AU (oB (pv 0) rfl) qM) (aw (aV (jg (N:=["number","by"]) (ρ:=(fun σ=>[σ[2]?.join])) (fW [2] rfl) rfl (kM (pv 1)) (fun _ _ _=>.nil) (fun _ _ _=>(av vv (pv 0) (pv 1)))))) bZ)
  (ak (jX 3 S.nd (jb (pv 0) T.d8 T.zF wo (hr.mono (by decide)) T.CK .nil x6 (aa ag (aa (pv 2) af))))
  (aw (aV (jg (N:=["number","back","self"]) (ρ:=(fun σ=>[σ[3]?.join,σ[0]?.join])) (fW [3,0] rfl) rfl (kM (pv 1)) (fun _ _ _=>.nil) (fun _ _ _=>(av fj (av fX (pv 0) (pv 1)) (Qe (K:=K) (pv 2) rfl)))))))),?_⟩
 refine ⟨_,rfl,z,t.bo,dx,_,_,rfl,hx,T.d8,T.kl,oQ _,rfl,_,rfl,?_⟩;rcases id hq with rfl | ⟨q2,q3,q4⟩
 ·rw [au rfl]
  have b0:b≠0:=QA nb;refine fo (rK (vP (ts:=ts) (fun x=>x.fdiv b) zM (fun R h=>⟨_,rfl,a,rfl,⟨_,.of ea⟩,h _ _ (ah.refl _) (mF (.of ea))⟩) ?_ ?_))
  ·intro x zN Hc R sc kc
   exact ⟨_,rfl,_,rfl,_,_,rfl,rfl,⟨b0,mb⟩,kc Hc (ah.refl _)⟩
  ·refine fun D Hc nD sc eD=>k D Hc _ sc nD eD (by rw [aW]) (fun i hi=>?_) fun z=>absurd rfl z
   have e:=Qz (j4 i hi);rw [getD_at hi] at e;rw [getD_at (by rw [aW];exact hi),iB,e,Int.mul_fdiv_cancel_left _ b0]
   exact Cg.refl _
 ·have mZ:q≠0:=by lia
  rw [ar mZ] at hx ⊢;have hz:dE t.bo H z q:=⟨dx,by rw [ar mZ];exact hx⟩
  refine dD ⟨_,rfl,z,dx,_,rfl,hx,jk (by decide +kernel),_,rfl,z,q,1,b,rfl,hz,hq,mb,fun h=>absurd h (Gp nb),fun _ v H1 s1 ho=>?_⟩
  rcases ho with ⟨e,_⟩ | ⟨_,r,rfl,r0,r1,er⟩;·exact absurd e mZ
  have mr:aU r:=aU.of_lt (by lia) (by lia)
  dsimp only [b5];refine rK (vP (ts:=ts) (fun x=>x*r % q) zM (fun R h=>⟨_,rfl,a,rfl,⟨_,.of (s1 _ _ ea)⟩,h _ _ (ah.refl _) (mF (.of (s1 _ _ ea)))⟩) ?_ ?_)
  ·intro x zN Hc R sc kc
   exact ⟨_,rfl,_,rfl,_,_,rfl,rfl,⟨hm x zN,mr⟩,_,rfl,z,t.bo,dx,_,_,rfl,sc _ _ (s1 _ _ hx),T.d8,T.kl,oQ _,_,_,rfl,rfl,(show (0:Int)<q by lia),kc Hc (ah.refl _)⟩
  ·refine fun D Hc nD sc eD=>k D Hc _ (s1.trans sc) (none_of s1 nD) eD (by rw [aW]) (fun i hi=>?_) fun _ x zN=>?_
   ·have e:=j4 i hi
    rw [getD_at hi] at e;rw [getD_at (by rw [aW];exact hi),iB]
    have e1:Cg q (r*b) 1:=by refine Cg.trans (((gQ q b).symm.mulL r).trans (gQ q _).symm) ?_;rw [er];exact gQ q 1
    refine (gQ q _).trans ((e.mulR r).trans ?_);rw [show b*u i*r=r*b*u i by grind]
    refine (e1.mulR (u i)).trans ?_;rw [qG];exact Cg.refl _
   ·obtain ⟨y,_,rfl⟩:=fD.mp zN
    exact ⟨dk _ mZ,du _ (by lia)⟩
def Sd(C:Addr):Sp:=fun vs H Q _=>∃(z a:Addr) (q c b:Int) (ts:List Int) (B:Nat),vs=[.ref z,.ref a,.int c,.int b]∧dE C H z q∧aD q∧H a=some (.lst (ts.map V.int))∧ts.length≤500∧¬q∣b∧aU b∧aU c∧(∀t∈ts,aU t)∧b.natAbs≤B∧(∀t∈ts,(t*c).natAbs≤B) ∧
 ∀(r:Addr) (ps:aF) (H':Hp),ah H H'→H r=none→aN B H' q r ps→ps.length=ts.length→(∀i,i<ts.length→aE q (ps.getD i o1) (ts.getD i 0*c,b))→Q (.ref r) H'
theorem Se:bI ["world","wholes","times","bottom"] ["world","wholes","times","bottom"] (aR yO):=b9
theorem CU(T:Txt K mg t):a8 P w K mg base bW 4 t.pC t.sD ["world","wholes","times","bottom"] (Sd t.bo):=by
 have S:=Se;have wo:=CQ (P:=P) (w:=w) (base:=base) T;refine T.mQ.cH S (fun _ _ _ _ H _ _ _ hr h=>?_);obtain ⟨z,a,q,c,b,ts,B,rfl,⟨dz,hd⟩,hq,ea,zM,nb,mb,mc,mt,bb,bt,k⟩:=h;refine ⟨_,(aw (aV (jg (N:=["whole","world","times","bottom"]) (ρ:=(fun σ=>[σ[0]?.join,σ[2]?.join,σ[3]?.join])) (fW [0,2,3] rfl) rfl (kM (pv 1)) (fun _ _ _=>.nil) (fun _ _ _=>(jb (pv 1) T.d8 T.zF wo (hr.mono (by decide)) T.CK .nil x6 (aa (av fX (pv 0) (pv 2)) (aa (pv 3) af))))))),?_⟩
 refine rK (vE (xs:=ts.map V.int) (fun R h=>⟨_,rfl,a,rfl,⟨_,.of ea⟩,h _ _ (ah.refl _) (mF (.of ea))⟩) (by rw [aW];exact jd (by lia)) (fun _ i y Hx=>∃p:Int×Int,aQ B Hx q y p.1 p.2∧aE q p (ts.getD i 0*c,b)) (fun _ _ _ _ _ _ ⟨p,h0,h1⟩ e f=>⟨p,h0.aS e f,h1⟩) ?_ ?_)
 ·intro D i v hi Hc R sc _ kc
  have dX:i<ts.length:=by have:=(cG.mp hi).1;simpa using this
  have ev:v=.int ts[i]:=by rw [eS] at hi;simp [dX] at hi;exact hi.symm
  subst ev;have tm:=gI dX;refine ⟨_,rfl,z,dz,_,rfl,sc _ _ hd,jk (by decide +kernel),_,rfl,_,rfl,_,_,rfl,rfl,⟨mt _ tm,mc⟩,_,rfl,z,q,ts[i]*c,b,rfl,⟨dz,sc _ _ hd⟩,hq,mb,fun h=>absurd h (Gp nb),fun _ v' H' s' ho=>kc v' H' s' ?_⟩
  rw [getD_at dX];exact Qo ho hq nb (bt _ tm) bb
 ·intro D ys Hc nD sc zJ hP eD
  obtain ⟨ps,lp,hp⟩:=pick (R:=fun i y p=>aQ B Hc q y (Prod.fst p) (Prod.snd p)∧aE q p (ts.getD i 0*c,b)) hP;rw [aW] at zJ;refine k D ps Hc sc nD ⟨ys,eD,lp.symm,fun i v p h1 h2=>(hp i v p h1 h2).1⟩ (by lia) fun i hi=>?_
  have i1:i<ys.length:=by lia
  have i2:i<ps.length:=by lia
  rw [getD_at i2];exact (hp i ys[i] ps[i] (by simp [i1]) (by simp [i2])).2
theorem Sf:bI ["one","other","told","i","a","j","b"] ["one","other"] (aR yH):=b9
theorem Sg(T:Txt K mg t):a8 P w K mg base bW 1 t.pe t.r6 ["one","other"] PV:=by
 have S:=Sf;refine T.tK.cH S (fun _ _ _ _ H _ _ _ hr h=>?_);obtain ⟨a,b,ts,us,rfl,ea,eb,mt,mu,Sh,Si,k⟩:=h
 refine ⟨_,(ak (putL 2 S.nd (av xV (b6 (aa ag af)) (a9 (Fq rfl) rfl T.CO boot_max (aa ag (aa (av fH (av eE (a9 cD rfl T.cq cz (aa (pv 0) af)) (a9 cD rfl T.cq cz (aa (pv 1) af))) ag) af)))))
  (ak (ia dR rfl (G6 rfl T.CN (aa (pv 0) af)) (xG rfl (me (d6 (i:=3) S.nd rfl (Or.inl rfl)) (me (d6 (i:=4) S.nd rfl (Or.inl rfl)) xF)))
   (aw (ia dR rfl (G6 rfl T.CN (aa (pv 1) af)) (xG rfl (me (d6 (i:=5) S.nd rfl (Or.inl rfl)) (me (d6 (i:=6) S.nd rfl (Or.inl rfl)) xF)))
   (aw (@MB _ _ _ _ _ _ _ _ _ _ _ _ _ (pv 2) (av eE (pv 3) (pv 5)) PU (av fX (pv 4) (pv 6)) E_ set_list (by intros;rfl))))))
  (aw (aV (pv 2))))),?_⟩
 obtain ⟨N,eN⟩:∃N:Nat,N=ts.length+us.length-1:=⟨_,rfl⟩;have emax:(if ((ts.map V.int).length:Int)+((us.map V.int).length:Int)-1>0 then ((ts.map V.int).length:Int)+((us.map V.int).length:Int)-1 else 0)=(N:Int):=by
  rw [aW,aW,eN]
  split <;> lia
 refine ⟨by show 1≤sizeLine;decide,fun l nl=>?_⟩
 have sl:ah H (upd H l (.lst [.int 0])):=aC nl;refine ⟨_,rfl,a,ts.map V.int,rfl,.inl (.of (sl _ _ ea)),_,rfl,b,us.map V.int,rfl,.inl (.of (sl _ _ eb)),_,_,rfl,rfl,_,_,rfl,rfl,_,_,rfl,l,(N:Int),[.int 0],rfl,fL V.int emax,aq,by lia,by lia,?_,fun c nc=>?_⟩
 ·rw [d_]
  exact ai (show [V.int 0].length*N≤200 by simp;lia) (by decide)
 have e0:(List.replicate ((N:Int).toNat) [V.int 0]).flatten=((List.range N).map fun k=>bL 0 us.length (fun i=>ts.getD i 0) (fun j=>us.getD j 0) k).map V.int:=by
  rw [d_];refine xq fun i=>?_;have e1:(List.replicate N [V.int 0]).flatten=List.replicate N (V.int 0):=by
   clear eN emax
   induction N with
   | zero=>rfl
   | succ n ih=>simp [lM]
  rw [e1,kv];by_cases hi:i<N;·simp [hi,bL,aK]
  ·simp [hi]
 rw [e0];have CV:ah H (upd (upd H l (.lst [.int 0])) c (.lst (((List.range N).map fun k=>bL 0 us.length (fun i=>ts.getD i 0) (fun j=>us.getD j 0) k).map V.int))):=sl.trans (aC nc);have JU:upd (upd H l (.lst [.int 0])) c (.lst (((List.range N).map fun k=>bL 0 us.length (fun i=>ts.getD i 0) (fun j=>us.getD j 0) k).map V.int)) c=_:=aq;generalize upd (upd H l (.lst [.int 0])) c (.lst (((List.range N).map fun k=>bL 0 us.length (fun i=>ts.getD i 0) (fun j=>us.getD j 0) k).map V.int))=H0 at CV JU ⊢;have JV:H c=none:=none_of sl nc;refine ⟨_,rfl,a,rfl,⟨_,.of (CV _ _ ea)⟩,?_⟩
 refine G7 (K:=K) (l:=a) (xs:=ts.map V.int) (fun i σ Hc=>ah H Hc∧∃(v3 v4 v5 v6:Option V),σ=[some (.ref a),some (.ref b),some (.ref c),v3,v4,v5,v6]∧Hc c=some (.lst (((List.range N).map fun k=>bL i us.length (fun i=>ts.getD i 0) (fun j=>us.getD j 0) k).map V.int)))
  ⟨CV,_,_,_,_,rfl,JU⟩ (fun i σ Hc ⟨z,_⟩=>.of (z _ _ ea)) ?_ ?_
 ·rintro i x σ Hc Tt hx ⟨sc,v3,v4,v5,v6,rfl,ec⟩ nT
  have hi:i<ts.length:=by have:=(cG.mp hx).1;simpa using this
  have ex:x=.int (ts.getD i 0):=by rw [eS] at hx;simp [hi] at hx;rw [getD_at hi,hx]
  subst ex;have sT:ah Hc (upd Hc Tt (.tup [.int (i:Int),.int (ts.getD i 0)])):=aC nT;have eT:upd Hc Tt (.tup [.int (i:Int),.int (ts.getD i 0)]) Tt=_:=aq;generalize upd Hc Tt (.tup [.int (i:Int),.int (ts.getD i 0)])=H1 at sT eT ⊢;refine ⟨Tt,_,rfl,.of eT,rfl,_,_,rfl,_,_,rfl,rfl,?_⟩;have s1:=sc.trans sT;have CW:=sT _ _ ec;refine ⟨_,rfl,b,rfl,⟨_,.of (s1 _ _ eb)⟩,?_⟩
  refine G7 (K:=K) (l:=b) (xs:=us.map V.int) (fun j σ Hd=>ah H Hd∧∃(v5 v6:Option V),σ=[some (.ref a),some (.ref b),some (.ref c),some (.int (i:Int)),some (.int (ts.getD i 0)),v5,v6]∧Hd c=some (.lst (((List.range N).map fun k=>bL i us.length (fun i=>ts.getD i 0) (fun j=>us.getD j 0) k+cn j (ts.getD i 0) (fun j=>us.getD j 0) i k).map V.int)))
   ⟨s1,_,_,rfl,?_⟩ (fun i σ Hc ⟨z,_⟩=>.of (z _ _ eb)) ?_ ?_
  ·rw [CW]
   congr 5
   exact funext fun k=>(jI _).symm
  ·rintro j y σ Hd T2 hy ⟨sd,v5,v6,rfl,ed⟩ Sj
   have hj:j<us.length:=by have:=(cG.mp hy).1;simpa using this
   have ey:y=.int (us.getD j 0):=by rw [eS] at hy;simp [hj] at hy;rw [getD_at hj,hy]
   subst ey;have s2:ah Hd (upd Hd T2 (.tup [.int (j:Int),.int (us.getD j 0)])):=aC Sj;have e2:upd Hd T2 (.tup [.int (j:Int),.int (us.getD j 0)]) T2=_:=aq;generalize upd Hd T2 (.tup [.int (j:Int),.int (us.getD j 0)])=H2 at s2 e2 ⊢;have ui:=s2 _ _ ed;have hN:i+j<N:=by lia
   have ei:(i:Int)+(j:Int)=((i+j:Nat):Int):=by lia
   refine ⟨T2,_,rfl,.of e2,rfl,_,_,rfl,_,_,rfl,rfl,?_⟩;refine ⟨_,rfl,_,rfl,_,rfl,_,_,rfl,rfl,c,_,_,.int (bL i us.length (fun i=>ts.getD i 0) (fun j=>us.getD j 0) (i+j)+cn j (ts.getD i 0) (fun j=>us.getD j 0) i (i+j)),rfl,rfl,by lia,.of ui,(by rw [ei];exact gN (by simp [hN])),_,rfl,_,rfl,_,_,rfl,rfl,⟨mt _ (by rw [getD_at hi];exact gI hi),mu _ (by rw [getD_at hj];exact gI hj)⟩,_,_,rfl,rfl,c,_,_,i+j,rfl,rfl,ui,?_,?_⟩
   ·rw [ei]
    unfold fk;rw [au (by lia),au (by simp;lia),d_]
   refine ⟨gy (sd.trans s2) JV,_,_,rfl,?_⟩;rw [aq,PX hN]
   congr 4
   exact funext fun k=>by unfold cn;rw [fZ];dsimp only;lia
  ·rintro σ Hd ⟨sd,v5,v6,rfl,ed⟩
   refine ⟨sd,_,_,_,_,rfl,?_⟩;rw [ed,aW]
   congr 4
   exact funext fun k=>by unfold bL;rw [fZ]
 ·rintro σ Hc ⟨sc,v3,v4,v5,v6,rfl,ec⟩
  rw [aW] at ec;refine ⟨_,rfl,k c Hc sc JV ?_⟩;unfold oZ;rw [ec,eN]
theorem Sk:bI ["world","one","other","lead","left","by","much","place","head","less"] ["world","one","other"] (aR yJ):=b9
theorem Sl(T:Txt K mg t):a8 P w K mg base bW 5 t.pj t.r_ ["world","one","other"] (QT t.bo):=by
 have S:=Sk;have m4:=CT (P:=P) (w:=w) (base:=base) T;refine T.tM.cH S (fun _ _ _ _ H _ _ _ hr h=>?_);obtain ⟨z,a,b,q,ts,us,TT,U,rfl,hz,hq,ea,eb,Sh,Si,u1,hT,hU,HB,vM,JW,JX,lz,tz,k⟩:=h
 refine ⟨_,(ak (jX 3 S.nd (az a_ (pv 2) (iH iI ag)))
  (ak (putL 4 S.nd (pv 1))
  (ak (putL 5 S.nd (b6 af))
  (ak (putL 6 S.nd ag)
  (ak (ia dR rfl (Qc rfl T.gB (aa (av fH (a9 cD rfl T.cq cz (aa (pv 1) af)) (a9 cD rfl T.cq cz (aa (pv 2) af))) (aa (iH iI ag) (aa (iH iI ag) af)))) (d6 (i:=7) S.nd rfl (Or.inl rfl))
   (ak (jX 8 S.nd (az a_ (pv 4) (iH iI ag)))
  (ak (putL 9 S.nd (av oH (av xV (b6 (aa ag af)) (pv 7)) (jg (N:=["number","head"]) (ρ:=(fun σ=>[σ[8]?.join])) (fW [8] rfl) rfl (kM (rg rj (pv 2) rd (rf (iH iI ag)))) (fun _ _ _=>.nil) (fun _ _ _=>(av fX (pv 1) (pv 0))))))
  (ak (putL 4 S.nd (jb (pv 0) T.d8 T.lE m4 (hr.mono (by decide)) T.qo .nil aG (aa (Gw (N:=["a","b","lead"]) (ρ:=(fun σ=>[σ[3]?.join])) (BF [3] rfl) rfl (BD rfl T.zI (aa (pv 4) (aa (pv 9) af))) (fun _ _ _=>.nil) (fun _ _ _=>(av fH (av fX (pv 2) (pv 0)) (pv 1)))) (aa ag af))))
  (ak (putL 5 S.nd (jb (pv 0) T.d8 T.lE m4 (hr.mono (by decide)) T.qo .nil aG (aa (av oH (b6 (aa (pv 8) af)) (jg (N:=["number","lead"]) (ρ:=(fun σ=>[σ[3]?.join])) (fW [3] rfl) rfl (kM (pv 5)) (fun _ _ _=>.nil) (fun _ _ _=>(av fX (pv 1) (pv 0))))) (aa ag af))))
  (aw (putL 6 S.nd (az a_ (jb (pv 0) T.d8 T.lE m4 (hr.mono (by decide)) T.qo .nil aG (aa (b6 (aa (av fX (pv 6) (pv 3)) af)) (aa ag af))) ag))))))))
  (aw (aV (iJ (aa (pv 5) (aa (pv 4) (aa (pv 6) af))))))))))),?_⟩
 obtain ⟨dz,hd⟩:=id hz;generalize k4:us.getD (us.length-1) 0=lead at lz;generalize hn:ts.length+1-us.length=n at JW k;have pU:∀i,i≤n→TT*(2*U) ^ i≤10 ^ 580:=fun i hi=>ai (gj TT (gi (by lia) hi)) JW
 have vO:lead.natAbs≤10 ^ 580:=by rw [←k4];exact ai (rS hU _) JX
 have CY:aU lead:=eK (ai vO (by decide +kernel))
 refine ⟨_,rfl,_,rfl,b,us.map V.int,_,_,rfl,rfl,.of eb,yw u1,?_⟩;rw [k4];refine ⟨_,rfl,by show 0≤sizeLine;decide,fun l0 wq=>?_⟩
 have s0:ah H (upd H l0 (.lst [])):=aC wq;have uj:upd H l0 (.lst []) l0=some (.lst (([]:List Int).map V.int)):=aq;generalize upd H l0 (.lst [])=H0 at s0 uj ⊢;dsimp only [b5];refine ⟨_,rfl,a,ts.map V.int,rfl,.inl (.of (s0 _ _ ea)),_,rfl,b,us.map V.int,rfl,.inl (.of (s0 _ _ eb)),_,_,rfl,rfl,_,rfl,_,rfl,_,_,rfl,⟨by simp;lia,by simp;lia,by decide,by decide⟩,?_⟩
 have en:((((ts.map V.int).length:Int)-((us.map V.int).length:Int)) - -1).toNat=n:=by rw [aW,aW];lia
 rw [en]
 refine Qd (fun i σ Hc=>ah H Hc∧∃(l1 l2:Addr) (bs ls:List Int) (aA:Int) (v7 v8 v9:Option V),σ=[some (.ref z),some (.ref a),some (.ref b),some (.int lead),some (.ref l2),some (.ref l1),some (.int aA),v7,v8,v9]∧Hc l1=some (.lst (bs.map V.int))∧Hc l2=some (.lst (ls.map V.int))∧j_ q ts us TT U n i bs ls aA∧(q=0→aA=lead ^ i))
  ⟨s0,l0,a,[],ts,1,none,none,none,rfl,uj,s0 _ _ ea,j_.start hq hT hn.symm,fun _=>(u5 _).symm⟩ ?_ ?_
 ·rintro i σ Hc hi ⟨sc,l1,l2,bs,ls,aA,v7,v8,v9,rfl,e1,e2,I,em⟩
  have ll:=I.ll;have lb:=I.lb;have CZ:1≤ls.length:=by lia
  have bX:=pU i (by lia)
  have JY:∀x∈ls,x.natAbs≤10 ^ 580:=fun x hx=>ai (I.bl x hx) bX;have Sm:∀x∈bs,x.natAbs≤10 ^ 580:=fun x hx=>ai (ai (iC _ (by lia)) (I.bb x hx)) bX
  have Sn:aA.natAbs≤10 ^ 580:=ai I.bm (ai (iz _ vM) bX);have So:∀x∈us,x.natAbs≤10 ^ 580:=fun x hx=>ai (hU x hx) JX;have uk:∀{x:Int},x.natAbs≤10 ^ 580→aU x:=fun h=>eK (ai h (by decide +kernel))
  have hm:∀x∈eJ (n-1-i) (ls.getD (ls.length-1) 0) us,x.natAbs≤TT*(2*U) ^ i*U:=fun x hx=>by
   unfold eJ at hx;rcases gG.mp hx with z | z;·rw [(qI.mp z).2];exact bO _
   ·obtain ⟨u,j4,e⟩:=fD.mp z
    rw [←e,bq];exact cI (rS I.bl _) (hU u (List.dropLast_subset _ j4))
  have C3:lead.natAbs≤U:=by rw [←k4];exact rS hU _
  have Sq:TT*(2*U) ^ i*U+TT*(2*U) ^ i*U≤10 ^ 580:=by
   have:=pU (i+1) (by lia)
   rw [d4,←lV] at this;have e:TT*(2*U) ^ i*(2*U)=TT*(2*U) ^ i*U+TT*(2*U) ^ i*U:=by grind
   rw [←e];exact this
  have m5:∀x∈bs,(lead*x).natAbs≤10 ^ 580:=fun x hx=>by rw [bq,jB];exact ai (ai (gj _ (ai C3 (show U≤2*U by lia))) (I.bb x hx)) (pU i (by lia))
  have Sr:(aA*lead).natAbs≤10 ^ 580:=by rw [bq];exact ai (cI (ai I.bm (iz _ vM)) C3) (by lia)
  have I':=I.step hq hn.symm hi u1 hU HB vM (by rw [k4];exact lz) (tz (by lia))
  rw [k4] at I';have ep:(((ts.map V.int).length:Int)-((us.map V.int).length:Int))-(i:Int)=((n-1-i:Nat):Int):=by rw [aW,aW];lia
  rw [ep];refine ⟨_,rfl,_,rfl,l2,ls.map V.int,_,_,rfl,rfl,.of e2,yw CZ,?_⟩;generalize rT:ls.getD (ls.length-1) 0=head at I';have vN:head.natAbs≤10 ^ 580:=by rw [←rT];exact rS JY _
  generalize gM:n-1-i=place at I';dsimp only [b5];simp only [df,dg];refine ⟨by show 1≤sizeLine;decide,fun la um=>?_⟩
  have sa:ah Hc (upd Hc la (.lst [.int 0])):=aC um;refine ⟨_,rfl,la,(place:Int),[.int 0],rfl,rfl,aq,by lia,by lia,?_,fun lr Ss=>?_⟩
  ·rw [d_]
   exact ai (show [V.int 0].length*place≤200 by simp;lia) (by decide)
  rw [BY];have sr:ah Hc (upd (upd Hc la (.lst [.int 0])) lr (.lst ((List.replicate place (0:Int)).map V.int))):=sa.trans (aC Ss);have JZ:upd (upd Hc la (.lst [.int 0])) lr (.lst ((List.replicate place (0:Int)).map V.int)) lr=some (.lst ((List.replicate place (0:Int)).map V.int)):=aq;generalize upd (upd Hc la (.lst [.int 0])) lr (.lst ((List.replicate place (0:Int)).map V.int))=Hd at sr JZ ⊢;refine vP (ts:=us.dropLast) (fun u=>head*u) (by rw [List.length_dropLast];lia) (fun R h=>⟨_,rfl,_,rfl,_,rfl,b,_,rfl,.of (sr _ _ (sc _ _ eb)),fun r nr=>?_⟩) ?_ ?_
  ·rw [Qn,List.map_dropLast] at *
   exact ⟨r,rfl,⟨_,.of aq⟩,h _ _ (aC nr) (mF (.of aq))⟩
  ·intro u hu Hx R sx kx
   exact ⟨_,rfl,_,rfl,_,_,rfl,rfl,⟨uk vN,uk (So u (List.dropLast_subset _ hu))⟩,kx Hx (ah.refl _)⟩
  intro D He nD se eD;refine ⟨lr,D,_,_,rfl,rfl,se _ _ JZ,eD,?_,fun wu Su=>?_⟩
  ·rw [aW,aW,aW,iw,List.length_dropLast]
   exact ai (show _≤300 by lia) (by decide)
  have eL:(List.replicate place (0:Int)).map V.int++(us.dropLast.map fun u=>head*u).map V.int=(eJ place head us).map V.int:=by unfold eJ;rw [nZ]
  rw [eL];have s1:ah Hc (upd He wu (.lst ((eJ place head us).map V.int))):=sr.trans (se.trans (aC Su));have C4:upd He wu (.lst ((eJ place head us).map V.int)) wu=some (.lst ((eJ place head us).map V.int)):=aq;dsimp only [b5];generalize upd He wu (.lst ((eJ place head us).map V.int))=Hf at s1 C4 ⊢;simp only [df,dg];rw [rT,gM] at hm;have mw:=s1 _ _ (sc _ _ hd);refine fY (dy ⟨_,rfl,z,dz,_,rfl,mw,jk (by decide +kernel),HD (xs:=ls) (ys:=eJ place head us) (fun x y=>lead*x-y) (by lia) (fun R h=>⟨_,rfl,_,rfl,l2,wu,rfl,⟨_,.of (s1 _ _ e2)⟩,⟨_,.of C4⟩,h _ _ (ah.refl _) (BJ (.of (s1 _ _ e2)) (.of C4))⟩) ?_ ?_⟩)
  ·intro x y km Hx R sx kx
   exact ⟨_,rfl,_,rfl,_,_,rfl,rfl,⟨CY,uk (JY x (qC km).1)⟩,_,rfl,_,_,rfl,rfl,kx Hx (ah.refl _)⟩
  intro D2 Hg sg C5;dsimp only [fJ,tC,ja,nQ];refine Cd ⟨dz,sg _ _ mw⟩ hq C5 ?_ ?_ fun c2 Hh sh C6 Sv=>?_;·rw [aW,xt];lia
  ·intro x hx
   obtain ⟨ab,BX,rfl⟩:=fD.mp hx;have m:=qC BX;have b1:(lead*ab.1).natAbs≤TT*(2*U) ^ i*U:=by rw [bq,jB];exact cI (I.bl _ m.1) C3
   have b2:=hm _ m.2;exact eK (ai (ai (Int.natAbs_sub_le ..) (ai (n_ b1 b2) Sq)) (by decide +kernel))
  have s2:=s1.trans (sg.trans sh);have J0:=s2 _ _ (sc _ _ hd);dsimp only [b5];simp only [df,dg];refine fY (dy ⟨_,rfl,z,dz,_,rfl,J0,jk (by decide +kernel),_,rfl,by show 1≤sizeLine;decide,fun lh J1=>?_⟩)
  have s3:ah Hc (upd Hh lh (.lst [.int head])):=s2.trans (aC J1);have J2:ah Hh (upd Hh lh (.lst [.int head])):=aC J1;have J3:upd Hh lh (.lst [.int head]) lh=some (.lst (([head]:List Int).map V.int)):=aq;generalize upd Hh lh (.lst [.int head])=Hi at s3 J3 J2 ⊢;refine vP (ts:=bs) (fun x=>lead*x) (by lia) (fun R h=>⟨_,rfl,l1,rfl,⟨_,.of (s3 _ _ e1)⟩,h _ _ (ah.refl _) (mF (.of (s3 _ _ e1)))⟩) ?_ ?_
  ·intro x hx Hx R sx kx
   exact ⟨_,rfl,_,rfl,_,_,rfl,rfl,⟨CY,uk (Sm x hx)⟩,kx Hx (ah.refl _)⟩
  intro D3 Hj ZM sj Sw;refine ⟨lh,D3,_,_,rfl,rfl,sj _ _ J3,Sw,?_,fun lc Sx=>?_⟩
  ·rw [aW,aW,aW]
   exact ai (show _≤300 by simp;lia) (by decide)
  rw [←nZ];have sl:ah Hj (upd Hj lc (.lst ((([head]:List Int)++bs.map fun x=>lead*x).map V.int))):=aC Sx;have J4:upd Hj lc (.lst ((([head]:List Int)++bs.map fun x=>lead*x).map V.int)) lc=some (.lst ((([head]:List Int)++bs.map fun x=>lead*x).map V.int)):=aq;generalize upd Hj lc (.lst ((([head]:List Int)++bs.map fun x=>lead*x).map V.int))=Hk at sl J4 ⊢;have sk:=J2.trans (sj.trans sl);dsimp only [fJ,tC,ja,nQ];refine Cd ⟨dz,sk _ _ J0⟩ hq J4 (by simp;lia) ?_ fun c3 Hl AD Sy Sz=>?_
  ·intro x hx
   rcases gG.mp hx with z | z;·rw [ky.mp z];exact uk vN
   ·obtain ⟨u,j4,e⟩:=fD.mp z
    rw [←e];exact eK (ai (m5 u j4) (by decide +kernel))
  have J5:=sk.trans AD;have s4:=s2.trans J5;have J6:=s4 _ _ (sc _ _ hd);dsimp only [b5];simp only [df,dg];refine ⟨_,rfl,z,dz,_,rfl,J6,jk (by decide +kernel),_,rfl,_,rfl,_,_,rfl,rfl,⟨uk Sn,CY⟩,by show 1≤sizeLine;decide,fun lm SA=>?_⟩
  have sm:ah Hl (upd Hl lm (.lst [.int (aA*lead)])):=aC SA;dsimp only [fJ,tC,ja,nQ];refine Cd (ts:=[aA*lead]) ⟨dz,sm _ _ J6⟩ hq aq (by simp) (fun x hx=>?_) fun c4 Hm SD SE SF=>?_
  ·rw [ky.mp hx]
   exact eK (ai Sr (by decide +kernel))
  refine ⟨c4,_,_,_,rfl,rfl,.of SF,rfl,?_⟩;have s5:=sm.trans SD;exact ⟨sc.trans (s4.trans s5),c3,c2,_,_,_,_,_,_,rfl,s5 _ _ Sz,(J5.trans s5) _ _ Sv,I',fun z=>by subst z;show (aA*lead) % 0=_;rw [Int.emod_zero,em rfl,u6]⟩
 ·rintro σ Hc ⟨sc,l1,l2,bs,ls,aA,v7,v8,v9,rfl,e1,e2,I,em⟩
  refine ⟨_,rfl,_,rfl,_,rfl,by show 3≤sizeLine;decide,fun p np=>?_⟩
  have sp:ah Hc (upd Hc p (.tup [.ref l1,.ref l2,.int aA])):=aC np;exact k p l1 l2 bs ls aA _ (sc.trans sp) aq (sp _ _ e1) (sp _ _ e2) I (by rw [k4];exact em)
theorem SG:bI ["row","many"] ["row"] (aR yG):=b9
theorem J7(T:Txt K mg t):a8 P w K mg base bW 1 t.pd t.rZ ["row"] QQ:=by
 have S:=SG;refine T.qi.cH S (fun _ _ _ _ H _ _ _ hr h=>?_);obtain ⟨a,ts,rfl,ea,zM,k⟩:=h;have hu:=hr.vi
 refine ⟨_,(ak (putL 1 S.nd (a9 cD rfl T.cq cz (aa (pv 0) af)))
  (ak (kK dR (PW.pt (pw_and (a7 kR (pv 1) ag) (pw_and1 (a7 fI (az a_ (pv 0) (av fH (pv 1) ag)) ag)))) (aw (xH (i:=1) S.nd rfl (Or.inl rfl) ag Fb)))
  (aw (aV (rg rj (pv 0) rd (rf (pv 1))))))),?_⟩
 have lm:(ts.map V.int).length=ts.length:=aW _;refine ⟨_,rfl,a,_,rfl,.inl (.of ea),?_⟩;rw [lm];refine ⟨fun c σ Hc=>ah H Hc∧c≤ts.length∧(∀j,c≤j→ae ts j=0)∧σ=[some (.ref a),some (.int (c:Int))],⟨ts.length,ah.refl H,aO _,fun j hj=>dn hj,rfl⟩,?_⟩;rintro c σ Hc ⟨sc,hc,hz,rfl⟩;refine ⟨_,rfl,_,_,rfl,rfl,_,rfl,bQ (fun h0=>?_) (fun h0=>?_)⟩
 ·have h0:(0:Int)<(c:Int):=dC h0
  obtain ⟨d,rfl⟩:∃d,c=d+1:=⟨c-1,by lia⟩
  have hd:d<ts.length:=by lia
  refine ⟨_,rfl,_,rfl,_,_,rfl,rfl,a,ts.map V.int,_,.int ts[d],rfl,rfl,.of (sc _ _ ea),(by show cK (ts.map V.int) (((d+1:Nat):Int)-1)=_;rw [show ((d+1:Nat):Int)-1=(d:Int) by lia];exact gN (by rw [eS,xr hd];rfl)),?_⟩
  have J8:ae ts d=ts[d]:=getD_at hd;refine ⟨rfl,_,rfl,bQ (fun hb=>?_) (fun hb=>?_)⟩
  ·have z:ts[d]=0:=by rw [rB] at hb;exact dC hb
   refine ⟨fun σ' H2=>ah H H2∧σ'=[some (.ref a),some (.int (d:Int))],?_,?_⟩
   ·rintro σ' H2 ⟨s2,rfl⟩
    refine ⟨d,by lia,s2,by lia,fun j hj=>?_,rfl⟩
    by_cases e:j=d;·rw [e,J8];exact z
    ·exact hz j (by lia)
   ·exact ⟨_,rfl,_,_,rfl,rfl,sc,by show List.set _ 1 (some (V.int (((d+1:Nat):Int)-1)))=_;rw [show ((d+1:Nat):Int)-1=(d:Int) by lia];rfl⟩
  ·refine ⟨_,rfl,_,rfl,_,rfl,a,_,rfl,.of (sc _ _ ea),fun r nr=>?_⟩
   rw [rO _ (d+1) (by rw [lm];lia),←List.map_take]
   refine k r _ (d+1) (sc.trans (aC nr)) (none_of sc nr) hc hz (fun _ e=>hb ?_) aq;rw [rB];rw [show d+1-1=d by lia,J8] at e
   exact dM e
 ·have h0:¬(0:Int)<(c:Int):=fun z=>h0 (dM z)
  have c0:c=0:=by lia
  subst c0;refine ⟨_,rfl,_,rfl,_,rfl,a,_,rfl,.of (sc _ _ ea),fun r nr=>?_⟩;rw [rO _ 0 (by lia),←List.map_take]
  exact k r _ 0 (sc.trans (aC nr)) (none_of sc nr) hc hz (fun z=>absurd z (by lia)) aq
theorem SH:bI ["number","times","told","turn"] ["number","times"] (aR yK):=b9
theorem C7(T:Txt K mg t):a8 P w K mg base bW 1 t.pk t.si ["number","times"] QR:=by
 have S:=SH;refine T.mP.cH S (fun _ _ _ _ H _ _ _ hr h=>?_);obtain ⟨x,n,rfl,n0,n1,bd,bx,k⟩:=h
 refine ⟨_,(ak (putL 2 S.nd ag)
  (ak (ia dR rfl (h_ rfl T.gB (aa (pv 1) af)) (d6 (i:=3) S.nd rfl (Or.inl rfl))
   (aw (xH (i:=2) S.nd rfl (Or.inl rfl) (pv 0) QN)))
  (aw (aV (pv 2))))),?_⟩
 refine ft fun _ hR=>dy (hR _ _ ?_);refine ft fun _ hR=>⟨_,rfl,n,rfl,by lia,by lia,?_⟩
 refine mi (fun i σ Hc=>∃(v3:Option V),σ=[some (.int x),some (.int n),some (.int (x ^ i)),v3]∧Hc=H) ⟨_,by rw [u5];rfl,rfl⟩ ?_ ?_
 ·rintro i σ Hc hi ⟨v3,rfl,rfl⟩
  refine ⟨_,rfl,_,rfl,_,_,rfl,rfl,⟨eK (bd i (by lia)),eK bx⟩,⟨some (.int (0+(i:Int))),?_,rfl⟩⟩
  rw [u6];rfl
 ·rintro σ Hc ⟨v3,rfl,rfl⟩
  exact hR _ _ ⟨_,rfl,k⟩
theorem SI:bI ["one","other","many"] ["one","other"] (aR yI):=b9
theorem SJ(T:Txt K mg t):a8 P w K mg base bW 1 t.ph t.r9 ["one","other"] QS:=by
 have S:=SI;refine T.tL.cH S (fun _ _ _ _ H _ _ _ hr h=>?_);obtain ⟨a,b,ts,us,rfl,ea,eb,l1,l2,k⟩:=h
 refine ⟨_,(ak (putL 2 S.nd (a9 (Fq rfl) rfl T.CO boot_max (aa (a9 cD rfl T.cq cz (aa (pv 0) af)) (aa (a9 cD rfl T.cq cz (aa (pv 1) af)) af))))
  (aw (aV (Gw (N:=["a","b"]) (ρ:=(fun σ=>[])) (BF [] rfl) rfl (BD rfl T.zI (aa (av oH (pv 0) (av xV (b6 (aa ag af)) (av fH (pv 2) (a9 cD rfl T.cq cz (aa (pv 0) af))))) (aa (av oH (pv 1) (av xV (b6 (aa ag af)) (av fH (pv 2) (a9 cD rfl T.cq cz (aa (pv 1) af))))) af))) (fun _ _ _=>.nil) (fun _ _ _=>(av fH (pv 0) (pv 1))))))),?_⟩
 refine ft fun _ hR=>dy ⟨_,rfl,a,_,rfl,.inl (.of ea),_,rfl,b,_,rfl,.inl (.of eb),_,_,rfl,hR _ _ ?_⟩;rw [aW,aW];obtain ⟨N,eN⟩:∃N:Nat,N=max ts.length us.length:=⟨_,rfl⟩;rw [show (if ((us.length:Nat):Int)>((ts.length:Nat):Int) then ((us.length:Nat):Int) else ((ts.length:Nat):Int))=(N:Int) by rw [eN];split <;> lia]
 refine rK (HD (xs:=ts++List.replicate (N-ts.length) 0) (ys:=us++List.replicate (N-us.length) 0) (fun x y=>x-y) (by rw [iu,iw];lia) (fun R h=>?_) ?_ fun D He se eD=>?_)
 ·refine ⟨_,rfl,?_⟩
  refine ⟨by show 1≤sizeLine;decide,fun la um=>?_⟩
  have sa:ah H (upd H la (.lst [.int 0])):=aC um;refine ⟨_,rfl,_,rfl,a,_,rfl,.inl (.of (sa _ _ (ea))),_,_,rfl,rfl,?_⟩;rw [show (fun i j:Int=>V.int (i-j)) (N:Int) ((ts.map V.int).length:Int)=V.int ((N-ts.length:Nat):Int) by
   show V.int _=V.int _;rw [aW]
   congr 1
   lia]
  refine ⟨la,((N-ts.length:Nat):Int),[.int 0],rfl,rfl,aq,by lia,by lia,?_,fun ra SK=>?_⟩
  ·rw [d_]
   exact ai (show [V.int 0].length*_≤200 by simp;lia) (by decide)
  rw [BY];have ta:ah H (upd (upd H la (.lst [.int 0])) ra (.lst ((List.replicate (N-ts.length) (0:Int)).map V.int))):=sa.trans (aC SK);have era:upd (upd H la (.lst [.int 0])) ra (.lst ((List.replicate (N-ts.length) (0:Int)).map V.int)) ra=some (.lst ((List.replicate (N-ts.length) (0:Int)).map V.int)):=aq;generalize upd (upd H la (.lst [.int 0])) ra (.lst ((List.replicate (N-ts.length) (0:Int)).map V.int))=H1 at ta era ⊢;refine ⟨a,ra,_,_,rfl,rfl,ta _ _ (ea),era,?_,fun ca J9=>?_⟩
  ·rw [aW,aW,iw]
   exact ai (show _≤500 by lia) (by decide)
  rw [←nZ];have ua:ah H (upd H1 ca (.lst ((ts++List.replicate (N-ts.length) 0).map V.int))):=ta.trans (aC J9);have C8:upd H1 ca (.lst ((ts++List.replicate (N-ts.length) 0).map V.int)) ca=some (.lst ((ts++List.replicate (N-ts.length) 0).map V.int)):=aq;generalize upd H1 ca (.lst ((ts++List.replicate (N-ts.length) 0).map V.int))=qr at ua C8 ⊢;refine ⟨_,rfl,?_⟩;refine ⟨by show 1≤sizeLine;decide,fun lb SM=>?_⟩
  have sb:ah qr (upd qr lb (.lst [.int 0])):=aC SM;refine ⟨_,rfl,_,rfl,b,_,rfl,.inl (.of (sb _ _ (ua _ _ eb))),_,_,rfl,rfl,?_⟩;rw [show (fun i j:Int=>V.int (i-j)) (N:Int) ((us.map V.int).length:Int)=V.int ((N-us.length:Nat):Int) by
   show V.int _=V.int _;rw [aW]
   congr 1
   lia]
  refine ⟨lb,((N-us.length:Nat):Int),[.int 0],rfl,rfl,aq,by lia,by lia,?_,fun rb SN=>?_⟩
  ·rw [d_]
   exact ai (show [V.int 0].length*_≤200 by simp;lia) (by decide)
  rw [BY];have tb:ah qr (upd (upd qr lb (.lst [.int 0])) rb (.lst ((List.replicate (N-us.length) (0:Int)).map V.int))):=sb.trans (aC SN);have J_:upd (upd qr lb (.lst [.int 0])) rb (.lst ((List.replicate (N-us.length) (0:Int)).map V.int)) rb=some (.lst ((List.replicate (N-us.length) (0:Int)).map V.int)):=aq;generalize upd (upd qr lb (.lst [.int 0])) rb (.lst ((List.replicate (N-us.length) (0:Int)).map V.int))=H2 at tb J_ ⊢;refine ⟨b,rb,_,_,rfl,rfl,tb _ _ (ua _ _ eb),J_,?_,fun cb Ka=>?_⟩
  ·rw [aW,aW,iw]
   exact ai (show _≤500 by lia) (by decide)
  rw [←nZ];have ub:ah qr (upd H2 cb (.lst ((us++List.replicate (N-us.length) 0).map V.int))):=tb.trans (aC Ka);have C9:upd H2 cb (.lst ((us++List.replicate (N-us.length) 0).map V.int)) cb=some (.lst ((us++List.replicate (N-us.length) 0).map V.int)):=aq;generalize upd H2 cb (.lst ((us++List.replicate (N-us.length) 0).map V.int))=ZN at ub C9 ⊢;exact ⟨ca,cb,rfl,⟨_,.of (ub _ _ C8)⟩,⟨_,.of C9⟩,h _ _ (ua.trans ub) (BJ (.of (ub _ _ C8)) (.of C9))⟩
 ·intro x y km Hx R sx kx
  exact ⟨_,rfl,_,rfl,_,_,rfl,rfl,kx Hx (ah.refl _)⟩
 ·have pad:∀(xs:List Int) (m t:Nat),ae (xs++List.replicate m 0) t=ae xs t:=fun xs m t=>by
   unfold ae;rw [d3,d3];by_cases h:t<xs.length;·rw [ir h]
   ·rw [gY (by lia),jH (l:=xs) (by lia),kv]
    split <;> rfl
  refine k D He _ se eD ?_ fun t=>?_
  ·simp
   lia
  ·have e:ae (((ts++List.replicate (N-ts.length) 0).zip (us++List.replicate (N-us.length) 0)).map fun ab:Int×Int=>ab.1-ab.2) t=ae (ts++List.replicate (N-ts.length) 0) t-ae (us++List.replicate (N-us.length) 0) t:=by
    have lz:((ts++List.replicate (N-ts.length) 0).zip (us++List.replicate (N-us.length) 0)).length=N:=by simp;lia
    have la:(ts++List.replicate (N-ts.length) 0).length=N:=by simp;lia
    have lb:(us++List.replicate (N-us.length) 0).length=N:=by simp;lia
    unfold ae;by_cases h:t<N;·rw [getD_at (by simpa [lz] using h),getD_at (by lia),getD_at (by lia),iB,List.getElem_zip]
    ·rw [cX (by simp;lia),cX (by lia),cX (by lia)]
     rfl
   rw [e,pad,pad]
theorem SO:bI ["world","last","now","by","much","least","left"] ["world","last","now","by","much","least"] (aR yL):=b9
theorem SQ(T:Txt K mg t):a8 P w K mg base bW 5 t.pz t.sq ["world","last","now","by","much","least"] (Im t.bo):=by
 have S:=SO;have m4:=CT (P:=P) (w:=w) (base:=base) T;refine T.tO.cH S (fun _ _ _ _ H _ _ _ hr h=>?_);obtain ⟨z,a,b,c,q,xs,ys,bs,aA,least,u,rfl,hz,hq,ea,eb,ec,l1,l2,l3,bx,SR,bb,bc,bm,bl,nl,e,k⟩:=h
 refine ⟨_,(ak (putL 6 S.nd (aL (SJ T) hr T.IM T.tL.kp T.IL aG (aa (jg (N:=["number","much"]) (ρ:=(fun σ=>[σ[4]?.join])) (fW [4] rfl) rfl (kM (pv 1)) (fun _ _ _=>.nil) (fun _ _ _=>(av fX (pv 1) (pv 0)))) (aa (aL (Sg T) hr T.IK T.tK.kp T.IJ aG (aa (pv 3) (aa (pv 2) af))) af))))
  (aw (aV (aL (J7 T) hr T.Cv T.qi.kp T.Cu aG (aa (jb (pv 0) T.d8 T.lE m4 (hr.mono (by decide)) T.qo .nil aG (aa (pv 6) (aa (pv 5) af))) af))))),?_⟩
 have fB:∀{Hx:Hp},ah H Hx→dE t.bo Hx z q:=fun sx=>hz.mono sx;refine ft fun _ hR=>dy ?_;dsimp only [AZ];refine QO (vP (ts:=xs) (fun x=>aA*x) (by lia) (fun R h=>⟨_,rfl,a,rfl,⟨_,.of ea⟩,h _ _ (ah.refl _) (mF (.of ea))⟩) ?_ ?_)
 ·intro x hx Hx R sx kx
  exact ⟨_,rfl,_,rfl,_,_,rfl,rfl,⟨eK bm,eK (bx x hx).1⟩,kx Hx (ah.refl _)⟩
 intro D H1 nD s1 eD;have SS:=s1 _ _ eb;have CW:=s1 _ _ ec;refine ⟨_,rfl,_,rfl,c,b,bs,ys,rfl,CW,SS,(fun t h=>eK (bb t h)),(fun t h=>eK (SR t h)),by lia,by lia,fun d H2 s2 nd ed=>?_⟩
 refine ⟨D,d,_,_,rfl,s2 _ _ eD,ed,by rw [aW];lia,by unfold oZ;rw [aW,lZ];lia,fun e' H3 ls s3 ee le ve=>hR _ _ ?_⟩
 have zO:=s1.trans (s2.trans s3);have vl:∀t,ae ls t=aA*ae xs t-cv (ae bs) (ae ys) t:=fun t=>by
  rw [ve,QF]
  congr 1
  exact vL (by simp) t
 obtain ⟨dz,hd⟩:=fB zO;have cl:(oZ bs ys).length≤bs.length+ys.length:=by unfold oZ;rw [aW,lZ];lia
 have ll:ls.length≤max xs.length (bs.length+ys.length):=by rw [le,aW];lia
 have SU:∀x∈ls,aU x:=fun x hx=>by
  obtain ⟨t,ht,rfl⟩:=lW hx;have e1:=vl t;rw [show ae ls t=ls[t] from getD_at ht] at e1;rw [e1];have b1:(aA*ae xs t).natAbs≤10 ^ 599:=by
   by_cases h:t<xs.length
   ·rw [show ae xs t=xs[t] from getD_at h]
    exact (bx _ (gI h)).2
   ·rw [dn (by lia),dQ]
    exact bO _
  exact eK (ai (Int.natAbs_sub_le ..) (ai (n_ b1 (bc t)) (by decide +kernel)))
 refine ⟨_,rfl,z,dz,_,rfl,hd,jk (by decide +kernel),⟨_,rfl,_,rfl,z,e',q,ls,least,u,rfl,fB zO,hq,ee,by lia,SU,eK bl,nl,fun t _=>by rw [show ls.getD t 0=ae ls t from rfl,vl];exact e t,fun g H4 rs s4 ng eg lr SV nn=>?_⟩⟩
 refine ⟨g,rs,rfl,eg,by lia,fun r H5 k5 s5 nr hk C_ hn er=>?_⟩
 obtain ⟨SW,SX,ek⟩:=Il (q:=q) nn hk hn C_;refine k r H5 (rs.take k5) (zO.trans (s4.trans s5)) (none_of (zO.trans s4) nr) er (by rw [lL];lia) (fun t=>?_) SW SX
 rw [ek];by_cases h:t<ls.length;·exact SV t h
 ·rw [dn (by lia)]
  have z1:=e t;rw [←vl t,dn (by lia)] at z1
  refine (yA hq nl ?_).symm;rw [dQ];exact z1.symm
theorem SY:bI ["world","one","other","last","now","lead","height","gap","told","least","following"] ["world","one","other"] (aR yM):=b9
theorem S0(T:Txt K mg t):a8 P w K mg base bW 6 t.pA t.su ["world","one","other"] (QV t.bo):=by
 have S:=SY;have m4:=CT (P:=P) (w:=w) (base:=base) T;refine T.tP.cH S (fun _ _ _ _ H vs _ _ hr h=>?_);obtain ⟨z,a,b,q,ts,us,W,N,rfl,hz,hq,ea,eb,lt,lu,N5,lim,W1,W2,bt,bu,tt,tu,k⟩:=h
 refine ⟨_,(ak (putL 3 S.nd (b6 (aa (pv 1) (aa (b6 (aa ag af)) (aa (b6 af) af)))))
  (ak (putL 4 S.nd (b6 (aa (pv 2) (aa (b6 af) (aa (b6 (aa ag af)) af)))))
  (ak (bN (a7 i9 (a9 cD rfl T.cq cz (aa (pv 1) af)) (a9 cD rfl T.cq cz (aa (pv 2) af))) (ak (putL 3 S.nd (b6 (aa (pv 2) (aa (b6 af) (aa (b6 (aa ag af)) af)))))
  (aw (putL 4 S.nd (b6 (aa (pv 1) (aa (b6 (aa ag af)) (aa (b6 af) af))))))) bZ)
  (ak (putL 5 S.nd ag)
  (ak (putL 6 S.nd ag)
  (ak (kK dR (a7 kR (a9 cD rfl T.cq cz (aa (az a_ (pv 4) ag) af)) ag) (ak (putL 7 S.nd (av fH (a9 cD rfl T.cq cz (aa (az a_ (pv 3) ag) af)) (a9 cD rfl T.cq cz (aa (az a_ (pv 4) ag) af))))
  (ak (jX 8 S.nd (aL (Sl T) hr T.IQ T.tM.kp T.IP aG (aa (pv 0) (aa (az a_ (pv 3) ag) (aa (az a_ (pv 4) ag) af)))))
  (ak (jX 9 S.nd (av fX (pv 5) (aL (C7 T) hr T.zr T.mP.kp T.zp aG (aa (pv 6) (aa (pv 7) af)))))
  (ak (QW (i0:=10) (N:=["a","b","world","told","least"]) (ρ:=(fun σ=>[σ[0]?.join,σ[8]?.join,σ[9]?.join])) (BF [0,8,9] rfl) rfl S.nd rfl (Or.inl rfl) (BD rfl T.zI (aa (rg rj (pv 3) (rf ag) rd) (aa (rg rj (pv 4) (rf ag) rd) af))) (fun _ _ _=>.nil) (fun _ _ _=>(aL (SQ T) hr T.IT T.tO.kp T.IS aG (aa (pv 2) (aa (pv 0) (aa (pv 1) (aa (az (yn (K:=K)) (pv 3) ag) (aa (az (yn (K:=K)) (pv 3) ag) (aa (pv 4) af)))))))))
  (ak (putL 3 S.nd (pv 4))
  (ak (putL 4 S.nd (av oH (b6 (aa (aL (J7 T) hr T.Cv T.qi.kp T.Cu aG (aa (jb (pv 0) T.d8 T.lE m4 (hr.mono (by decide)) T.qo .nil aG (aa (az b7 (pv 8) ag) (aa (pv 9) af))) af)) af)) (pv 10)))
  (ak (putL 5 S.nd (az a_ (az a_ (pv 3) ag) (iH iI ag)))
  (aw (putL 6 S.nd (az a_ (jb (pv 0) T.d8 T.lE m4 (hr.mono (by decide)) T.qo .nil aG (aa (b6 (aa (aL (C7 T) hr T.zr T.mP.kp T.zp aG (aa (pv 5) (aa (pv 7) af))) af)) (aa (aL (C7 T) hr T.zr T.mP.kp T.zp aG (aa (pv 6) (aa (av fH (pv 7) ag) af))) af))) ag)))))))))))
  (aw (aV (pv 3))))))))),?_⟩
 refine ft fun _ hR=>dy (Ip rfl ea fun la H1 s1 t1=>hR _ _ ?_);refine ft fun _ hR=>dy (Iq rfl (s1 _ _ eb) fun lb H2 s2 t2=>hR _ _ ?_);have dq:=s1.trans s2;simp only [df,dg,L2.start];refine ft fun R lF=>?_;have zP:∀x∈[(1:Int)],x.natAbs≤W:=fun x hx=>by rw [ky.mp hx];show 1≤W;lia
 have zQ:∀x∈([]:List Int),x.natAbs≤W:=fun x hx=>nomatch hx;have zR:cV q [1]:=fun _=>iP hq;have zS:cV q []:=fun h=>absurd rfl h;have next:∀(la lb:Addr) (r u v r' u' v':List Int) (f g:Srs.Row) (n0 m0:Nat) (Hx:Hp),n0≤N→ah H Hx→iQ Hx la r u v→iQ Hx lb r' u' v'→CI q ts us f g n0 m0 W r u v r' u' v' 1 1→CG f g n0 m0 W→cV q u→cV q v→cV q u'→cV q v'→(r=[]→ts=[]∧us=[])→(u.length+6*r'.length≤37∧v.length+6*r'.length≤37∧u'.length+6*r'.length≤37∧v'.length+6*r'.length≤37)→(∀i,(aJ r u v i).natAbs≤10 ^ 580)→R [some (.ref z),some (.ref a),some (.ref b),some (.ref la),some (.ref lb),none,none,none,none,none,none] Hx:=fun la lb r u v r' u' v' f g n0 m0 Hx nN sx tA tB I G zT zU zV zW em ln bx=>lF _ _ (by
  refine ft fun _ hR=>dy (hR _ _ ?_);refine ft fun _ hR=>dy (hR _ _ ?_);simp only [df,dg];refine ft fun R' S2=>?_;refine ⟨fun m σ Hc=>∃(la lb:Addr) (r u v r' u' v':List Int) (ld ht:Int) (v7 v8 v9 v10:Option V),m=r'.length∧σ=[some (.ref z),some (.ref a),some (.ref b),some (.ref la),some (.ref lb),some (.int ld),some (.int ht),v7,v8,v9,v10]∧ah H Hc∧iQ Hc la r u v∧iQ Hc lb r' u' v'∧CI q ts us f g n0 m0 W r u v r' u' v' ld ht∧cV q u∧cV q v∧cV q u'∧cV q v'∧(r=[]→ts=[]∧us=[])∧(u.length+6*r'.length≤37∧v.length+6*r'.length≤37∧u'.length+6*r'.length≤37∧v'.length+6*r'.length≤37)∧∀i,(aJ r u v i).natAbs≤10 ^ 580,⟨_,la,lb,r,u,v,r',u',v',1,1,_,_,_,_,rfl,rfl,sx,tA,tB,I,zT,zU,zV,zW,em,ln,bx⟩,?_⟩;clear I tA tB zT zU zV zW em sx ln bx;rintro m σ Hc ⟨la,lb,r,u,v,r',u',v',ld,ht,v7,v8,v9,v10,rfl,rfl,sc,tA,tB,I,zT,zU,zV,zW,em,ln,bx⟩;obtain ⟨a0,a1,a2,eA,Dc,Kb,Kc⟩:=id tA;obtain ⟨b0,b1,b2,eB,wA,S3,S4⟩:=id tB;have Dd:(r'.map V.int).length=r'.length:=aW _;have lr:(r.map V.int).length=r.length:=aW _;have w1:1≤W:=by lia
  refine ⟨_,rfl,lb,_,_,_,rfl,rfl,.of eB,rfl,b0,_,rfl,.inl (.of wA),_,_,rfl,rfl,_,rfl,bQ (fun hb=>?_) (fun hb=>?_)⟩
  ·have hb:=dC hb
   rw [Dd] at hb;have ne:r'≠[]:=fun e=>by rw [e] at hb;exact absurd hb (by decide)
   have le:=I.le;refine ⟨fun σ' H2=>∃m',m'<r'.length∧∃(la lb:Addr) (r u v r' u' v':List Int) (ld ht:Int) (v7 v8 v9 v10:Option V),m'=r'.length∧σ'=[some (.ref z),some (.ref a),some (.ref b),some (.ref la),some (.ref lb),some (.int ld),some (.int ht),v7,v8,v9,v10]∧ah H H2∧iQ H2 la r u v∧iQ H2 lb r' u' v'∧CI q ts us f g n0 m0 W r u v r' u' v' ld ht∧cV q u∧cV q v∧cV q u'∧cV q v'∧(r=[]→ts=[]∧us=[])∧(u.length+6*r'.length≤37∧v.length+6*r'.length≤37∧u'.length+6*r'.length≤37∧v'.length+6*r'.length≤37)∧∀i,(aJ r u v i).natAbs≤10 ^ 580,fun σ' H2 h=>h,?_⟩;refine ft fun _ hR=>dy ⟨_,rfl,la,_,_,_,rfl,rfl,.of eA,rfl,a0,_,rfl,.inl (.of Dc),_,rfl,lb,_,_,_,rfl,rfl,.of eB,rfl,b0,_,rfl,.inl (.of wA),_,_,rfl,rfl,hR _ _ ?_⟩;rw [lr,Dd,show (fun i j:Int=>V.int (i-j)) ((r.length:Nat):Int) ((r'.length:Nat):Int)=V.int ((r.length-r'.length:Nat):Int) by
    show V.int _=V.int _
    congr 1
    lia]
   simp only [df,dg];have S:=I.QY G lim nN ne;have hU:gR ht (Bz W (n0+m0+2-2*r.length)):=I.hU G;obtain ⟨Kd,Ke,Kf⟩:=Ci I.bA;obtain ⟨Kg,Kh,Ki⟩:=Ci I.Cc;have r5:=ai I.rn G.n5;have l1:1≤r'.length:=gJ.mpr ne;have nr:r≠[]:=fun e=>by rw [e] at le;exact absurd le (by show ¬r'.length≤0;lia)
   have ek:r.length+1-r'.length=r.length-r'.length+1:=by lia
   have S1:=S.a;rw [←ek] at S1;refine ft fun _ hR=>dy ⟨_,rfl,_,rfl,la,_,_,_,rfl,rfl,.of eA,rfl,_,rfl,lb,_,_,_,rfl,rfl,.of eB,rfl,z,a0,b0,q,r,r',_,_,rfl,hz.mono sc,hq,Dc,wA,by lia,by lia,l1,Kd,Kg,by have:=S.t;have:=S.tu;lia,S.t,S1,S.u,I.o_ ne,fun _=>I.tr nr,fun p8 k1 k2 bs ls aA H1 s1 e8 S5 S6 PI zX=>hR _ _ ?_⟩
   rw [ek] at PI zX;have Kj:=PI.lb;have De:=PI.ll;have De:ls.length=r'.length-1:=by lia
   have l5:bs.length≤5:=by lia
   have pf:=PI.fin;obtain ⟨C,hC,bC⟩:=I.left hq G ne Kj De pf zX;have ke:¬q∣ld*ht ^ (r.length-r'.length):=dN hq I.nl (o6 hq I.nh _);have gb:(-5:Int)≤((r.length-r'.length:Nat):Int)∧((r.length-r'.length:Nat):Int)≤100∧((r.length-r'.length:Nat):Int).toNat=r.length-r'.length∧(((r.length-r'.length:Nat):Int)-1).toNat=r.length-r'.length-1∧(-5:Int)≤((r.length-r'.length:Nat):Int)-1∧((r.length-r'.length:Nat):Int)-1≤100:=⟨by lia,by lia,by lia,by lia,by lia,by lia⟩
   have mL:gR (ld*ht ^ (r.length-r'.length)) (10 ^ 580):=S.lead I.bl hU;simp only [df,dg];have hS:∀i,i≤r.length-r'.length→gR (ht ^ i) (10 ^ 600):=fun i hi=>ai (S.pow hU (Nat.le_succ_of_le hi)) kg;have wC:gR ht (10 ^ 600):=ai (ai hU S.u) kg;refine ft fun _ hR=>dy ⟨_,rfl,_,rfl,_,rfl,ht,_,rfl,gb.1,gb.2.1,fun i hi=>hS i (ai hi (i5 gb.2.2.1)),wC,_,_,rfl,rfl,⟨eK (ai (ai I.bl S.to) kg),eK (hS _ (i5 gb.2.2.1))⟩,hR _ _ ?_⟩;rw [gb.2.2.1];simp only [df,dg];generalize hL:ld*ht ^ (r.length-r'.length)=least at ke mL hC ⊢;obtain ⟨S7,S8,S9,Df,Kk,Kl⟩:H1 la=some (.lst [.ref a0,.ref a1,.ref a2])∧H1 a1=some (.lst (u.map V.int))∧H1 a2=some (.lst (v.map V.int))∧H1 lb=some (.lst [.ref b0,.ref b1,.ref b2])∧H1 b1=some (.lst (u'.map V.int))∧H1 b2=some (.lst (v'.map V.int)):=⟨s1 _ _ eA,s1 _ _ Kb,s1 _ _ Kc,s1 _ _ eB,s1 _ _ S3,s1 _ _ S4⟩;have zY:=(hz.mono sc).mono s1;have turn:∀(c:Nat) (xs ys:List Int),(∀t,Lf aA (aJ r u v) (ae bs) (aJ r' u' v') (3*t+c)=aA*ae xs t-cv (ae bs) (ae ys) t)→(∀x∈xs,x.natAbs≤Bz W (n0+m0-2*r.length))→(∀y∈ys,y.natAbs≤Bz W (n0+m0+2-2*r.length))→xs.length≤37→ys.length≤37→∀(aj bj:Addr) (Hc:Hp) (R:VK),ah H1 Hc→Hc aj=some (.lst (xs.map V.int))→Hc bj=some (.lst (ys.map V.int))→(∀(v:Addr) (H3:Hp) (rs:List Int),ah Hc H3→Hc v=none→H3 v=some (.lst (rs.map V.int))→rs.length≤max xs.length (bs.length+ys.length)→(∀t,Cg q (ae rs t) (C (3*t+c)))→Rm q rs→cV q rs→R (.ref v) H3)→Im t.bo [.ref z,.ref aj,.ref bj,.ref k1,.int aA,.int least] Hc R E0:=fun c xs ys hl hx hy lx ly aj bj Hc R zZ S_ Ta kk=>⟨z,aj,bj,k1,q,xs,ys,bs,aA,least,fun t=>C (3*t+c),rfl,zY.mono zZ,hq,S_,Ta,zZ _ _ S5,by lia,by lia,by lia,fun x h=>⟨ai (ai (hx x h) S.to) kg,S.mx PI.bm (hx x h)⟩,fun y h=>ai (ai (hy y h) S.u) kg,fun b h=>S.bs (PI.bb b h),S.cv (by lia) PI.bb hy,S.aA PI.bm,ai mL kg,ke,fun t=>by rw [←hl];exact hC _,kk⟩
   refine ft fun _ hR=>dy (PK (Z:=fun zs _=>zs=[(V.ref a1,V.ref b1),(V.ref a2,V.ref b2)]) (fun R h=>⟨_,rfl,_,rfl,la,_,rfl,.of S7,fun r1 n1=>?_⟩) (fun D j y Hx=>∃(x:Addr) (rs:List Int),y=.ref x∧x≠D∧Hx x=some (.lst (rs.map V.int))∧rs.length≤max ([u,v].getD j []).length (bs.length+([u',v'].getD j []).length)∧(∀t,Cg q (ae rs t) (C (3*t+(j+1))))∧Rm q rs∧cV q rs) (fun D j y Ha Hb ys ⟨x,rs,h1,h2,h3,h4⟩ e f=>⟨x,rs,h1,h2,f _ _ h2 h3,h4⟩) ?_ ?_)
   ·have q1:=aC (o:=.lst [.ref a1,.ref a2]) n1
    refine ⟨_,rfl,_,rfl,lb,_,rfl,.of (q1 _ _ Df),fun r2 n2=>?_⟩;have q2:=aC (o:=.lst [.ref b1,.ref b2]) n2;exact ⟨r1,r2,rfl,⟨_,.of (q2 _ _ aq)⟩,⟨_,.of aq⟩,h _ _ _ (q1.trans q2) (BJ (.of (q2 _ _ aq)) (.of aq)) (jd (show 2≤1000 by decide)) rfl⟩
   ·rintro zs Hx rfl sx D j x y km Hc R zZ ⟨yD,eD⟩ kc
    have dq:=sx.trans zZ
    match j,km with
    | 0,km=>cases km;refine ⟨_,rfl,_,rfl,_,rfl,_,rfl,p8,_,_,_,rfl,rfl,.of (dq _ _ e8),rfl,_,rfl,p8,_,_,_,rfl,rfl,.of (dq _ _ e8),rfl,_,rfl,?_⟩;exact turn 1 u u' (fun t=>Q0) Ke Kh (by lia) (by lia) a1 b1 Hc R dq (dq _ _ S8) (dq _ _ Kk) fun v3 H3 rs s3 n3 e3 l3 c3 m3 t3=>kc _ _ s3 ⟨v3,rs,rfl,(fun z=>by rw [z,eD] at n3;cases n3),e3,l3,c3,m3,t3⟩
    | 1,km=>cases km;refine ⟨_,rfl,_,rfl,_,rfl,_,rfl,p8,_,_,_,rfl,rfl,.of (dq _ _ e8),rfl,_,rfl,p8,_,_,_,rfl,rfl,.of (dq _ _ e8),rfl,_,rfl,?_⟩;exact turn 2 v v' (fun t=>Q1) Kf Ki (by lia) (by lia) a2 b2 Hc R dq (dq _ _ S9) (dq _ _ Kl) fun v3 H3 rs s3 n3 e3 l3 c3 m3 t3=>kc _ _ s3 ⟨v3,rs,rfl,(fun z=>by rw [z,eD] at n3;cases n3),e3,l3,c3,m3,t3⟩
    | n+2,km=>cases km
   rintro zs Hx rfl sx D vs H2 nD s2 vQ hP eD;refine hR _ _ ?_;simp only [df,dg];obtain ⟨x1,x2,rfl⟩:∃x1 x2,vs=[x1,x2]:=by
    match vs,vQ with
    | [x1,x2],_=>exact ⟨x1,x2,rfl⟩
   obtain ⟨f1,u2,rfl,_,Tb,Dg,Tc,Te,Tf⟩:=hP 0 _ rfl;obtain ⟨f2,v2,rfl,_,Tg,Dh,Th,Ti,Tj⟩:=hP 1 _ rfl;have dq:=sx.trans s2;obtain ⟨dz,hd⟩:=zY.mono dq;have Di:=zY.mono dq;have ml:∀x∈ls,aU x:=fun x hx=>eK (ai (ai (PI.bl x hx) S.a) kg);have Tn:∀t,Lf aA (aJ r u v) (ae bs) (aJ r' u' v') (3*(t+1))=aA*ae r t-cv (ae bs) (ae r') t:=fun t=>by rw [yB];rfl
   have c0:∀t,Cg q (ae ls t) (least*C (3*(t+1))):=fun t=>by refine Cg.trans ?_ (hC (3*(t+1)));rw [Tn];have:=(pf t).sub (Cg.refl (q:=q) (cv (ae bs) (ae r') t));rw [Int.add_comm,Int.add_sub_cancel] at this;exact this.symm
   refine ft fun _ hR=>dy ⟨_,rfl,hR _ _ ?_⟩;simp only [df,dg];refine ft fun _ hR=>dy ⟨_,rfl,z,dz,_,rfl,hd,jk (by decide +kernel),⟨_,rfl,p8,_,_,_,rfl,rfl,.of (dq _ _ e8),rfl,_,rfl,z,k2,q,ls,least,fun t=>C (3*(t+1)),rfl,Di,hq,dq _ _ S6,by lia,ml,eK (ai mL kg),ke,fun i _=>c0 i,fun c5 H3 rs s3 n3 e3 Km To Tp=>?_⟩⟩
   refine ⟨c5,rs,rfl,e3,by lia,fun c6 H4 k5 s4 n4 hk C_ hn e4=>?_⟩
   obtain ⟨Kn,Ko,Tq⟩:=Il (q:=q) Tp hk hn C_;have Dj:(rs.take k5).length≤r'.length-1:=by rw [lL];lia
   have Kp:∀t,Cg q (ae (rs.take k5) t) (C (3*(t+1))):=fun t=>by
    rw [Tq];by_cases h:t<ls.length;·exact To t h
    ·rw [dn (by lia)]
     have z1:=c0 t;rw [dn (by lia)] at z1
     exact yA hq ke ((Cg.of_eq (dQ _)).trans z1)
   generalize rs.take k5=r2 at e4 Kn Ko Dj Kp;have m6:=s3.trans s4;refine ⟨by show 1≤sizeLine;decide,fun l6 n6=>?_⟩
   have s6:=aC (o:=.lst [.ref c6]) n6;refine ⟨_,rfl,l6,D,_,_,rfl,rfl,aq,s6 _ _ (m6 _ _ eD),by show 3≤sizeLine;decide,fun l7 n7=>hR _ _ ?_⟩
   have s7:=aC (o:=.lst ([.ref c6]++[.ref f1,.ref f2])) n7;have m7:=s6.trans s7;have tN:iQ (upd (upd H4 l6 (.lst [.ref c6])) l7 (.lst ([.ref c6]++[.ref f1,.ref f2]))) l7 r2 u2 v2:=⟨c6,f1,f2,aq,m7 _ _ e4,m7 _ _ (m6 _ _ Tb),m7 _ _ (m6 _ _ Tg)⟩;have lG:=dq.trans (m6.trans m7);generalize upd (upd H4 l6 (.lst [.ref c6])) l7 (.lst ([.ref c6]++[.ref f1,.ref f2]))=H5 at tN lG ⊢;have Kq:=zY.mono lG;obtain ⟨Tr,z8⟩:=id Kq;simp only [df,dg];refine ft fun _ hR=>dy ⟨_,rfl,lb,_,_,_,rfl,rfl,.of (lG _ _ Df),rfl,_,rfl,b0,_,_,_,rfl,rfl,.of (lG _ _ (s1 _ _ wA)),yw l1,hR _ _ ?_⟩;simp only [df,dg];obtain ⟨x,ex,Ts⟩:∃x:Int,Cg q (ae r' (r'.length-1) ^ (r.length-r'.length)) (ht ^ (r.length-r'.length-1)*x)∧(q=0→gR x (Bz W (n0+m0-2*r'.length))):=I.high hq ne;have Kr:gR (ae r' (r'.length-1)) (Bz W (n0+m0+2-2*r.length)):=by
    have:=I.Cc (3*r'.length)
    rwa [k8 l1] at this
   have nG:=I.o_ ne;have lS:∀i,i≤r.length-r'.length→gR (ae r' (r'.length-1) ^ i) (10 ^ 600):=fun i hi=>ai (S.pow Kr (Nat.le_succ_of_le hi)) kg;have Tu:gR (ae r' (r'.length-1)) (10 ^ 600):=ai (ai Kr S.u) kg;have Tv:=(sc.trans s1).trans lG;have wD:r2.length<r'.length:=i6 Dj (Nat.sub_lt l1 (by decide))
   have z9:u2.length+6*r2.length≤37∧v2.length+6*r2.length≤37∧u'.length+6*r2.length≤37∧v'.length+6*r2.length≤37:=by have Dg:u2.length≤max u.length (bs.length+u'.length):=Dg;have Dh:v2.length≤max v.length (bs.length+v'.length):=Dh;exact ⟨Ir Dg l5 wD ln.1 ln.2.2.1,Ir Dh l5 wD ln.2.1 ln.2.2.2,Iu wD ln.2.2.1,Iu wD ln.2.2.2⟩
   have Tw:∀i,(aJ r' u' v' i).natAbs≤10 ^ 580:=fun i=>ai (I.Cc i) S.u;have z_:=G.w1;have eC:∀i,Cg q (aJ r2 u2 v2 i) (C i):=QZ hq ke (by have:=hC 0;rwa [Q2] at this) Kp Tc Th
   have Ks:q≠0→∀i,(aJ r2 u2 v2 i).natAbs≤W:=fun q0=>Ce (yE hq z_ q0 Kn) (yE hq z_ q0 Te) (yE hq z_ q0 Ti);rw [←hL] at hC;have Tx:∀h2,Cg q (ae r' (r'.length-1) ^ (r.length-r'.length)) (ht ^ (r.length-r'.length-1)*h2)→gR h2 (Bz W (n0+m0-2*r'.length))→CI q ts us f g n0 m0 W r' u' v' r2 u2 v2 (ae r' (r'.length-1)) h2:=fun h2 eh Tz=>I.next hq G ne Kj De pf PI.nz zX hC bC eC Ks Dj Ko eh Tz;clear Ks eC hC bC pf zX PI S1 turn hP Kd Ke Kf Kg Kh Ki bx;refine dy ⟨_,rfl,z,Tr,_,rfl,z8,jk (by decide +kernel),⟨_,rfl,_,rfl,ae r' (r'.length-1),_,rfl,gb.1,gb.2.1,fun i hi=>lS i (ai hi (i5 gb.2.2.1)),Tu,by show 1≤sizeLine;decide,fun l8 n8=>⟨_,rfl,_,rfl,_,_,rfl,rfl,ht,_,rfl,gb.2.2.2.2.1,gb.2.2.2.2.2,fun i hi=>hS i (ai (ai hi (i5 gb.2.2.2.1)) (Nat.sub_le _ _)),wC,?_⟩⟩⟩
   rw [gb.2.2.1,gb.2.2.2.1];have s8:=aC (o:=.lst [.int (ae r' (r'.length-1) ^ (r.length-r'.length))]) n8;refine ⟨z,l8,q,[ae r' (r'.length-1) ^ (r.length-r'.length)],ht ^ (r.length-r'.length-1),fun _=>x,rfl,Kq.mono s8,hq,aq,by show 1≤500;decide,fun y hy=>by rw [ky.mp hy];exact eK (lS _ (aO _)),eK (hS _ (Nat.sub_le _ _)),o6 hq I.nh _,fun i hi=>?_,fun c9 H9 ZO s9 n9 e9 l9 TB TC=>?_⟩
   ·rw [show i=0 from Nat.lt_one_iff.mp hi]
    exact ex
   obtain ⟨h2,rfl⟩:=List.length_eq_one_iff.mp l9;have Kt:Cg q h2 x:=TB 0 (by show 0<1;decide)
   refine ⟨_,_,_,_,rfl,rfl,.of e9,rfl,?_⟩;have I2:=Tx h2 (ex.trans (Kt.symm.mulL _)) (by
    by_cases q0:q=0
    ·have z1:=Ts q0
     subst q0
     rwa [oa.mp (fN.mp Kt)]
    ·exact ai (yE hq z_ q0 TC h2 (ky.mpr rfl)) (ka w1))
   exact ⟨_,wD,lb,l7,r',u',v',r2,u2,v2,_,_,_,_,_,_,rfl,rfl,Tv.trans (s8.trans s9),⟨b0,b1,b2,(s8.trans s9) _ _ (lG _ _ Df),(s8.trans s9) _ _ (lG _ _ (s1 _ _ wA)),(s8.trans s9) _ _ (lG _ _ Kk),(s8.trans s9) _ _ (lG _ _ Kl)⟩,tN.mono (s8.trans s9),I2,zV,zW,Tf,Tj,fun e=>absurd e ne,⟨z9.2.2.1,z9.2.2.2,z9.1,z9.2.1⟩,Tw⟩
  ·have e0:r'=[]:=gZ.mp (by rw [Dd,lQ] at hb;lia)
   obtain ⟨d1,d2⟩:=I.dv (ae r) (cY.self hq _) (cY.QG hq fun t=>Cg.of_eq (by rw [e0];exact dn (by simp)))
   have rn:=I.rn;exact S2 _ _ ⟨_,rfl,k la a0 a1 a2 r u v Hc sc eA Dc Kb Kc I.tr zT zU I.bz em d1 d2 (by lia) (by lia) (by lia) fun nr=>Ci fun i=>ai (I.bA i) (vV (by have:=gJ.mpr nr;have:=G.mn;lia) w1)⟩)
 have Ku:(ts.map V.int).length=ts.length:=aW _;have Aa:(us.map V.int).length=us.length:=aW _;refine ⟨_,rfl,a,_,rfl,.inl (.of (dq _ _ ea)),_,rfl,b,_,rfl,.inl (.of (dq _ _ eb)),_,_,rfl,rfl,_,rfl,bQ (fun hb=>?_) (fun hb=>?_)⟩
 ·have hb:=dC hb
  rw [Ku,Aa] at hb;refine ft fun _ hR=>dy (Iq rfl (dq _ _ eb) fun lc H3 s3 t3=>hR _ _ ?_);refine dy (Ip rfl (s3 _ _ (dq _ _ ea)) fun ld H4 s4 t4=>?_);obtain ⟨I,G⟩:=CI.start (ts:=ts) (us:=us) (u:=[]) (v:=[1]) (u':=[1]) (v':=[]) hq W1 (by lia) (show ts.length≤us.length by lia) bu bt ⟨zQ,zP,zP,zQ⟩ tu tt (fun t=>by rw [yC,vX];lia) (fun t=>by rw [yC,vX];lia) fun D d1 d2=>⟨d2,d1⟩
  refine next lc ld us [] [1] ts [1] [] _ _ _ _ H4 (by lia) (dq.trans (s3.trans s4)) (t3.mono s4) t4 I G zS zR zR zS (fun e=>?_) ⟨by simp;lia,by simp;lia,by simp;lia,by simp;lia⟩ fun i=>ai (G.bf i) W2
  have:us.length=0:=by rw [e];rfl
  lia
 ·rw [Ku,Aa,lQ] at hb
  obtain ⟨I,G⟩:=CI.start (ts:=ts) (us:=us) (u:=[1]) (v:=[]) (u':=[]) (v':=[1]) hq W1 (by lia) (show us.length≤ts.length by lia) bt bu ⟨zP,zQ,zQ,zP⟩ tt tu (fun t=>by rw [yC,vX];lia) (fun t=>by rw [yC,vX];lia) fun D d1 d2=>⟨d1,d2⟩
  refine next la lb ts [1] [] us [] [1] _ _ _ _ H2 (by lia) dq (t1.mono s2) t2 I G zR zS zS zR (fun e=>⟨e,gZ.mp ?_⟩) ⟨by simp;lia,by simp;lia,by simp;lia,by simp;lia⟩ fun i=>ai (G.bf i) W2
  have:ts.length=0:=by rw [e];rfl
  lia
theorem TF:bI ["world","one","other","first","second","told","lead","u","v"] ["world","one","other"] (aR yP):=b9
theorem TH(T:Txt K mg t):a8 P w K mg base bW 9 t.pD t.sE ["world","one","other"] (Q6 t.bo):=by
 have S:=TF;have Kv:=R8 (P:=P) (w:=w) (base:=base) T;refine T.tQ.cH S (fun _ _ _ _ H _ _ _ hr h=>?_);obtain ⟨z,a,b,q,ps,rs,D1,D2,f,g,W,N,rfl,hz,hq,hA,hB,I,k⟩:=h
 refine ⟨_,(ak (putL 3 S.nd (jb (pv 0) T.d8 T.wg Kv (hr.mono (by decide)) T.CL .nil aG (aa (aL (JR T) hr T.Cy T.qj.kp T.Cw aG (aa (pv 0) (aa (pv 1) af))) af)))
  (ak (putL 4 S.nd (jb (pv 0) T.d8 T.wg Kv (hr.mono (by decide)) T.CL .nil aG (aa (aL (JR T) hr T.Cy T.qj.kp T.Cw aG (aa (pv 0) (aa (pv 2) af))) af)))
  (ak (putL 5 S.nd (aL (S0 T) hr T.IV T.tP.kp T.IU aG (aa (pv 0) (aa (az b7 (pv 3) ag) (aa (az b7 (pv 4) ag) af)))))
  (ak (bN (a7 fI (a9 cD rfl T.cq cz (aa (az a_ (pv 5) ag) af)) ag) (aw (aV (iJ (aa (b6 af) (aa (b6 af) (aa (b6 af) af)))))) bZ)
  (ak (putL 6 S.nd (az a_ (az a_ (pv 5) ag) (iH iI ag)))
  (ak (putL 7 S.nd (aL (CU T) hr T.zu T.mQ.kp T.zt aG (aa (pv 0) (aa (az a_ (pv 5) ag) (aa (az b7 (pv 3) ag) (aa (pv 6) af))))))
  (ak (putL 8 S.nd (aL (CU T) hr T.zu T.mQ.kp T.zt aG (aa (pv 0) (aa (az a_ (pv 5) ag) (aa (az b7 (pv 4) ag) (aa (pv 6) af))))))
  (aw (aV (iJ (aa (aL (CU T) hr T.zu T.mQ.kp T.zt aG (aa (pv 0) (aa (az a_ (pv 5) ag) (aa ag (aa (pv 6) af))))) (aa (pv 7) (aa (pv 8) af))))))))))))),?_⟩
 obtain ⟨dz,hd⟩:=id hz;have ZP:=vI ps;have ZQ:=vI rs;have lp:=I.lp;have lr:=I.lr;have hW:=I.hW;refine ⟨_,rfl,z,dz,_,rfl,hd,jk (by decide +kernel),_,rfl,_,rfl,z,a,q,ps,10 ^ 150,rfl,hz,hq,hA,by lia,fun ca H1 s1 J9 Kw=>?_⟩
 refine ⟨z,ca,q,aM ps,10 ^ 150,D1,rfl,hz.mono s1,hq,Kw,by lia,I.Ck,fun p hp=>I.Q3 p (o5 hp),aO _,by decide +kernel,ai I.d1 I.kh,fun v1 H2 ts b1 s2 n1 W1=>?_⟩
 have dq:=s1.trans s2;have hd2:=dq _ _ hd;refine ⟨_,rfl,z,dz,_,rfl,hd2,jk (by decide +kernel),_,rfl,_,rfl,z,b,q,rs,10 ^ 150,rfl,⟨dz,hd2⟩,hq,hB.mono dq,by lia,fun cb H3 s3 Ka Kx=>?_⟩
 refine ⟨z,cb,q,aM rs,10 ^ 150,D2,rfl,⟨dz,s3 _ _ hd2⟩,hq,Kx,by lia,I.k9,fun p hp=>I.Q4 p (o5 hp),aO _,by decide +kernel,ai I.d2 I.kh,fun v2 H4 us b2 s4 n2 W2=>?_⟩
 obtain ⟨tp,l,rfl,e1,e2,_⟩:=n1;obtain ⟨Ky,l',rfl,jW,TJ,_⟩:=n2;have m6:=s3.trans s4;have e1:=m6 _ _ e1;have e2:=m6 _ _ e2;have qt:=dq.trans m6;have Kz:=qt _ _ hd;have lt:=W1.len;have lu:=W2.len;have cA:=Kw.f9;have cB:=Kx.f9;have bT:∀x∈ts,x.natAbs≤W:=fun x hx=>by
  obtain ⟨i,hi,rfl⟩:=lW hx;have dX:i<(aM ps).length:=by lia
  have e:=(W1.each i dX).1;rw [getD_at hi,mH dX] at e;exact HI hq hW (by rw [←mH dX];exact dY hq cA i) e W1.ok I.Ck W1.dvd (I.w1 i) (I.t1 i)
 have bU:∀x∈us,x.natAbs≤W:=fun x hx=>by
  obtain ⟨i,hi,rfl⟩:=lW hx;have dX:i<(aM rs).length:=by lia
  have e:=(W2.each i dX).1;rw [getD_at hi,mH dX] at e;exact HI hq hW (by rw [←mH dX];exact dY hq cB i) e W2.ok I.k9 W2.dvd (I.w2 i) (I.u2 i)
 have tT:cV q ts:=fun ne=>by
  have t1:=gJ.mpr ne;have dX:ts.length-1<(aM ps).length:=by lia
  have e:=(W1.each _ dX).1;refine HL hq (dY hq cA _) ?_ e W1.ok;rw [lt];exact vR (by lia)
 have tU:cV q us:=fun ne=>by
  have t1:=gJ.mpr ne;have dX:us.length-1<(aM rs).length:=by lia
  have e:=(W2.each _ dX).1;refine HL hq (dY hq cB _) ?_ e W2.ok;rw [lu];exact vR (by lia)
 have Di:D1≠0:=fun e=>I.Ck.nz hq (by rw [e];exact fM q)
 have TK:D2≠0:=fun e=>I.k9.nz hq (by rw [e];exact fM q)
 have m5:gR b1 W:=ai (vK W1.dvd Di) I.d1;have uo:gR b2 W:=ai (vK W2.dvd TK) I.d2;have hP:=HJ (q:=q) (b:=b1) lt fun k hk=>⟨0,by have:=(W1.each k hk).1;dsimp only;lia⟩
 have hR:=HJ (q:=q) (b:=b2) lu fun k hk=>⟨0,by have:=(W2.each k hk).1;dsimp only;lia⟩
 have c1:=I.c1;have c2:=I.c2;dsimp only [b5];refine ⟨_,rfl,_,rfl,tp,_,_,_,rfl,rfl,.of e1,rfl,_,rfl,Ky,_,_,_,rfl,rfl,.of jW,rfl,z,l,l',q,ts,us,W,N,rfl,⟨dz,Kz⟩,hq,e2,TJ,by lia,by lia,I.n5,I.lim,hW,ai I.kh (gi (by decide) (by decide)),bT,bU,tT,tU,fun p l0 l1 l2 r u v H5 s5 ep uj Ab Dk tr tu tv bz em d1 d2 ZR ZS ZT TL=>?_⟩
 have z8:=s5 _ _ Kz;have m8:=qt.trans s5;dsimp only [b5];refine ⟨_,rfl,p,_,_,_,rfl,rfl,.of ep,rfl,l0,r.map V.int,rfl,.inl (.of uj),rfl,_,rfl,bQ (fun h0=>?_) (fun h0=>?_)⟩
 ·have r0:r=[]:=gZ.mp (by simpa using h0)
  obtain ⟨t0,u0⟩:=em r0;subst r0 t0 u0;have q1:aM ps=[]:=gZ.mp (by rw [←lt];rfl)
  have q2:aM rs=[]:=gZ.mp (by rw [←lu];rfl)
  have wz:1≤Bz W (2*N-2):=ai (show 1≤W by lia) (ka (by lia))
  refine ⟨bO _,fun m0 n0=>⟨bO _,fun m1 n1=>⟨bO _,fun m2 n2=>⟨by show 3≤sizeLine;decide,fun pp np=>?_⟩⟩⟩⟩
  have t1:=aC (o:=.lst []) n0;have t2:=aC (o:=.lst []) n1;have t3:=aC (o:=.lst []) n2;have t4:=aC (o:=.tup [.ref m0,.ref m1,.ref m2]) np;have ne1:m0≠m1:=fun e=>by rw [←e,aq] at n1;cases n1
  have ne2:m0≠m2:=fun e=>by rw [←e,t2 _ _ aq] at n2;cases n2
  have ne3:m1≠m2:=fun e=>by rw [←e,aq] at n2;cases n2
  exact k pp m0 m1 m2 [] [] [] [] [] [] [] [] b1 b2 1 _ (m8.trans (t1.trans (t2.trans (t3.trans t4)))) aq (none_of m8 n0) (none_of (m8.trans t1) n1) (none_of (m8.trans (t1.trans t2)) n2) ne1 ne2 ne3 (Cm (t4 _ _ (t3 _ _ (t2 _ _ aq)))) (Cm (t4 _ _ (t3 _ _ aq))) (Cm (t4 _ _ aq)) rfl rfl rfl (bO _) (bO _) (bO _) (fun x h=>nomatch h) (fun x h=>nomatch h) (fun x h=>nomatch h) (fun x h=>nomatch h) (fun x h=>nomatch h) m5 uo wz
   ⟨W1.ok,W2.ok,hP,hR,iP hq,fun i h=>absurd h (nR _),fun i h=>absurd h (nR _),fun i h=>absurd h (nR _),rfl,rfl,rfl,fun t=>by rw [vX];exact Cg.of_eq rfl,d1,d2,fun _=>⟨q1,q2,rfl,rfl⟩,fun h=>absurd rfl h,fun h=>absurd rfl h⟩
 ·have rn:r≠[]:=fun e=>h0 (by rw [e];rfl)
  have KA:=gJ.mpr rn;obtain ⟨vY,TM,TN⟩:=TL rn;have zL:Bz W (2*N-2*r.length)≤Bz W (2*N-2):=vV (by lia) (by lia)
  have br:=fun x hx=>ai (vY x hx) zL;have bu:=fun x hx=>ai (TM x hx) zL;have bv:=fun x hx=>ai (TN x hx) zL;have nG:=tr rn;have big:=I.big;have zB:Bz W (2*N-2)≤10 ^ 290:=ai (iC _ (by lia)) big
  have lH:∀{x:Int},x.natAbs≤10 ^ 290→aU x:=fun h=>eK (ai h (gi (by decide) (by decide)))
  have wB:W≤10 ^ 290:=ai I.kh (gi (by decide) (by decide))
  generalize wF:ae r (r.length-1)=ld at nG;have Ac:gR ld (Bz W (2*N-2)):=by rw [←wF];exact kf br _
  have uq:gR ld (10 ^ 290):=ai Ac zB;have mul:∀(x y:Int),x.natAbs≤Bz W (2*N-2)→y.natAbs≤W→(x*y).natAbs≤B2:=fun x y hx hy=>by rw [bq];exact ai (cI hx hy) big
  dsimp only [iF];refine ⟨_,rfl,p,_,_,_,rfl,rfl,.of ep,rfl,_,rfl,l0,_,_,_,rfl,rfl,.of uj,yw KA,?_⟩;rw [show r.getD (r.length-1) 0=ld from wF];dsimp only [b5];refine ⟨_,rfl,_,rfl,p,_,_,_,rfl,rfl,.of ep,rfl,_,rfl,tp,_,_,_,rfl,rfl,.of (s5 _ _ e1),rfl,_,rfl,z,l1,q,b1,ld,u,B2,rfl,⟨dz,z8⟩,hq,Ab,by lia,nG,lH uq,lH (ai m5 wB),fun x hx=>lH (ai (bu x hx) zB),uq,fun x hx=>mul _ _ (bu x hx) m5,fun r1 TQ H6 s6 TR Dl KC KD=>?_⟩
  have KG:=s6 _ _ z8;dsimp only [b5];refine ⟨_,rfl,_,rfl,p,_,_,_,rfl,rfl,.of (s6 _ _ ep),rfl,_,rfl,Ky,_,_,_,rfl,rfl,.of (s6 _ _ (s5 _ _ jW)),rfl,_,rfl,z,l2,q,b2,ld,v,B2,rfl,⟨dz,KG⟩,hq,s6 _ _ Dk,by lia,nG,lH uq,lH (ai uo wB),fun x hx=>lH (ai (bv x hx) zB),uq,fun x hx=>mul _ _ (bv x hx) uo,fun r2 TU H7 s7 Dm Dn KH KI=>?_⟩
  have TV:=s7 _ _ KG;have m7:=s6.trans s7;dsimp only [b5];refine ⟨_,rfl,_,rfl,p,_,_,_,rfl,rfl,.of (m7 _ _ ep),rfl,_,rfl,z,l0,q,1,ld,r,B2,rfl,⟨dz,TV⟩,hq,m7 _ _ uj,by lia,nG,lH uq,lH (by decide),fun x hx=>lH (ai (br x hx) zB),uq,fun x hx=>mul _ _ (br x hx) (by show 1≤W;lia),fun r3 gs H8 s8 wG KJ Ad KL=>?_⟩
  refine ⟨_,rfl,_,rfl,by show 3≤sizeLine;decide,fun pp TY=>?_⟩
  have sp:=aC (o:=.tup [.ref r3,.ref r1,.ref r2]) TY;have KN:=s7.trans s8;have TZ:=s6.trans KN;obtain ⟨_,eu,_⟩:=id Dl;obtain ⟨_,ev,_⟩:=id Dn;have ne1:r3≠r1:=fun e=>by rw [e,s7 _ _ eu] at wG;cases wG
  have ne2:r3≠r2:=fun e=>by rw [e,ev] at wG;cases wG
  have ne3:r1≠r2:=fun e=>by rw [←e,eu] at Dm;cases Dm
  refine k pp r3 r1 r2 gs TQ TU ts us r u v b1 b2 ld _ (m8.trans (TZ.trans sp)) aq (none_of (m8.trans m7) wG) (none_of m8 TR) (none_of (m8.trans s6) Dm) ne1 ne2 ne3 (KJ.mono sp) (Dl.mono (KN.trans sp)) (Dn.mono (s8.trans sp)) (yx fun h=>?_) (yx fun h=>?_) (yx fun h=>?_) (by lia) (by lia) (by lia) vY bu bv bT bU m5 uo Ac
   ⟨W1.ok,W2.ok,hP,hR,nG,fun i h=>KL i (by lia),fun i h=>KD i (by lia),fun i h=>KI i (by lia),Ad,KC,KH,bz,d1,d2,fun e=>absurd (by rw [e] at Ad;exact Ad.symm) (Nat.ne_of_gt KA),fun _=>wF.symm,tr⟩
  ·refine B4 hq (dY hq KJ.f9 _) ?_ (KL _ (by lia))
   rw [Ad];refine dN hq ?_ (iP hq);rw [show r.getD (r.length-1) 0=ld from wF];exact nG
  ·refine B4 hq (dY hq Dl.f9 _) ?_ (KD _ (by lia))
   rw [KC];exact dN hq (tu (gJ.mp (by lia))) (W1.ok.nz hq)
  ·refine B4 hq (dY hq Dn.f9 _) ?_ (KI _ (by lia))
   rw [KH];exact dN hq (tv (gJ.mp (by lia))) (W2.ok.nz hq)
theorem T3:bI ["cell","at","x"] ["cell","at"] (aR yZ):=b9
theorem T4(T:Txt K mg t):a8 P w K mg base bW 1 t.pN t.sR ["cell","at"] Pw:=by
 have S:=T3;refine T.t6.cH S (fun _ _ _ _ H _ _ _ hr h=>?_);obtain ⟨c,a,rfl,ha,k⟩:=h
 refine ⟨_,(ak (bN (a7 xQ (pv 0) (av Fh ag ag)) (aw (aV (pv 0))) bZ)
  (ak (putL 2 S.nd (av fj (av eE (av eE (av fS (av fj (pv 0) ag) ag) (av fS (pv 1) ag)) ag) ag))
  (ak (putL 2 S.nd (av fj (av eE (av eE (av eE (av fS (pv 2) (pv 2)) (av fS ag (pv 2))) (pv 1)) ag) ag))
  (aw (aV (av eE (av fS (pv 2) ag) (av fj (av eE (av eE (av fS (pv 2) (pv 2)) (av fS ag (pv 1))) ag) ag))))))),?_⟩
 refine ⟨_,rfl,_,_,rfl,rfl,⟨by decide,by decide,by decide⟩,_,_,rfl,rfl,_,rfl,bQ (fun h=>?_) (fun h=>?_)⟩
 ·have h:=dC h
  exact ⟨_,rfl,k _ (Int.le_trans (by decide) h)⟩
 ·refine ⟨_,rfl,_,_,rfl,rfl,(by show (0:Int)<2147483647;decide),_,_,rfl,rfl,.inr ⟨by decide,by decide⟩,_,rfl,_,_,rfl,rfl,.inr ⟨by decide,by decide⟩,_,_,rfl,rfl,_,_,rfl,rfl,_,_,rfl,rfl,(by show (0:Int)<2147483399;decide),?_⟩
  have b0:=dk (c % 2147483647*40692+a*65539+7) (show (2147483399:Int)≠0 by decide)
  have b1:=du (c % 2147483647*40692+a*65539+7) (show (0:Int)<2147483399 by decide)
  generalize (c % 2147483647*40692+a*65539+7) % 2147483399=x at b0 b1 ⊢;refine ⟨_,rfl,_,rfl,_,_,rfl,rfl,.inl ⟨by lia,by lia⟩,_,rfl,_,_,rfl,rfl,.inl ⟨by decide,by decide⟩,_,_,rfl,rfl,_,rfl,_,_,rfl,rfl,_,_,rfl,rfl,_,_,rfl,rfl,(by show (0:Int)<2147483563;decide),?_⟩
  have c0:=dk (x*x+40014*x+a+1) (show (2147483563:Int)≠0 by decide)
  have c1:=du (x*x+40014*x+a+1) (show (0:Int)<2147483563 by decide)
  generalize (x*x+40014*x+a+1) % 2147483563=y at c0 c1 ⊢;refine ⟨_,rfl,_,_,rfl,rfl,.inr ⟨by decide,by decide⟩,_,rfl,_,rfl,_,_,rfl,rfl,.inl ⟨by lia,by lia⟩,_,rfl,_,_,rfl,rfl,.inl ⟨by decide,by decide⟩,_,_,rfl,rfl,_,_,rfl,rfl,_,_,rfl,rfl,(by show (0:Int)<2147483543;decide),_,_,rfl,rfl,k _ (Int.add_nonneg (Int.mul_nonneg (dk _ (by decide)) (by decide)) (dk _ (by decide)))⟩
theorem T5:bI ["pen","many","at","cell","found"] ["pen","many"] (aR y3):=b9
theorem ur(T:Txt K mg t):a8 P w K mg base bW 2 t.pO t.sS ["pen","many"] (Px K):=by
 have S:=T5;refine T.fg.cH S (fun _ _ _ _ H _ _ _ hr h=>?_);obtain ⟨P0,a,ns,many,rfl,⟨x,y,eP,hx,hy⟩,hS,m1,mm,k⟩:=h;have gc:=hr.units
 refine ⟨_,(ak (bN (a7 i9 (az a_ (pv 0) ag) (pv 1)) (ak (putL 2 S.nd (az a_ (pv 0) ag))
  (ak (putL 3 S.nd ag)
  (ak (bN (a7 i9 (pv 2) (a9 cD rfl T.cq cz (aa (az a_ (pv 0) ag) af))) (aw (putL 3 S.nd (az a_ (az a_ (pv 0) ag) (pv 2)))) (aw (bN (a7 (Pt gc) (az a_ (pv 0) ag) (b6 af)) (aw (putL 3 S.nd (av eE (av fj (az a_ (az a_ (pv 0) ag) (av fj (av fS (pv 2) ag) (a9 cD rfl T.cq cz (aa (az a_ (pv 0) ag) af)))) ag) (av fS (pv 2) ag)))) bZ)))
  (ak (@qR _ _ _ _ _ _ (av eE (pv 2) ag) (qQ (pv 0) ag set_list) (by rfl) (by rfl) (by rfl))
  (aw (@qR _ _ _ _ _ _ (aL (T4 T) hr T.Jp T.t6.kp T.Jo aG (aa (pv 3) (aa (pv 2) af))) (qQ (pv 0) ag set_list) (by rfl) (by rfl) (by rfl))))))) bZ)
  (ak (putL 4 S.nd (av fj (az a_ (pv 0) ag) (pv 1)))
  (ak (@qR _ _ _ _ _ _ (av Bo (az a_ (pv 0) ag) (pv 1)) (qQ (pv 0) ag set_list) (by rfl) (by rfl) (by rfl))
  (aw (aV (pv 4)))))),?_⟩
 have Ae:=dO.seq hS;refine ⟨_,rfl,P0,_,_,_,rfl,rfl,.of eP,rfl,_,rfl,_,_,rfl,rfl,_,rfl,bQ (fun bP=>?_) (fun bP=>?_)⟩
 ·refine ⟨_,rfl,P0,_,_,_,rfl,rfl,.of eP,rfl,?_⟩
  refine ⟨_,rfl,_,rfl,P0,_,_,_,rfl,rfl,.of eP,rfl,a,ns.map V.int,rfl,.inl Ae,_,_,rfl,rfl,_,rfl,bQ (fun h1=>?_) (fun h1=>?_)⟩
  ·have h1:x<((ns.map V.int).length:Int):=dC h1
   obtain ⟨v,hv,mv⟩:=Ga (xs:=ns.map V.int) hx h1;obtain ⟨c,_,rfl⟩:=fD.mp mv;refine ⟨_,rfl,P0,_,_,_,rfl,rfl,.of eP,rfl,_,rfl,a,ns.map V.int,_,_,rfl,rfl,Ae,hv,?_⟩;refine ⟨_,rfl,_,_,rfl,rfl,_,rfl,P0,_,1,1,rfl,rfl,eP,rfl,?_⟩;refine ⟨_,rfl,_,rfl,c,x,rfl,hx,fun r gC=>⟨_,rfl,P0,_,2,2,rfl,rfl,aq,rfl,?_⟩⟩;have q0:=dk (r) (show many≠0 by lia)
   have q1:=du (r) (show 0<many by lia)
   have q2:=u7 (gC) (show 0≤many by lia)
   refine ⟨_,rfl,P0,_,_,_,rfl,rfl,.of aq,rfl,_,rfl,_,_,rfl,rfl,(show 0<many by lia),?_⟩
   refine ⟨_,rfl,P0,_,_,_,rfl,rfl,.of aq,rfl,_,rfl,_,_,rfl,rfl,⟨show 0<many by lia,mm⟩,_,rfl,P0,_,2,2,rfl,rfl,aq,rfl,?_⟩
   exact ⟨_,rfl,k _ _ q0 q1 (((aI.refl H).trans aI.j7).trans (aI.j7.trans aI.j7)) ⟨x+1,r / many,aq,by lia,q2⟩⟩
  ·refine ⟨_,rfl,P0,_,_,_,rfl,rfl,.of eP,rfl,by show 0≤sizeLine;decide,fun l nl=>?_⟩
   have sl:ah H (upd H l (.lst [])):=aC nl;refine ⟨a,l,ns.map V.int,rfl,rfl,sl.seq Ae,aq,fun v hv=>?_,_,rfl,?_⟩
   ·obtain ⟨c,_,rfl⟩:=fD.mp hv
    exact ⟨c,rfl⟩
   have wH:=sl _ _ eP;have qu:=sl.seq Ae;generalize upd H l (.lst [])=H2 at sl wH qu ⊢;refine bQ (fun h2=>?_) (fun h2=>?_)
   ·have hl:0<(ns.map V.int).length:=by
     cases ns with
     | nil=>simp at h2
     | cons=>simp
    have T6:=dk (x*5) (show ((ns.map V.int).length:Int)≠0 by lia)
    have T7:=du (x*5) (show (0:Int)<((ns.map V.int).length:Int) by lia)
    obtain ⟨v,hv,mv⟩:=Ga (xs:=ns.map V.int) T6 T7;obtain ⟨c,_,rfl⟩:=fD.mp mv;refine ⟨_,rfl,P0,_,_,_,rfl,rfl,.of wH,rfl,_,rfl,_,_,rfl,rfl,.inr ⟨by decide,by decide⟩,_,rfl,P0,_,_,_,rfl,rfl,.of wH,rfl,a,ns.map V.int,rfl,.inl qu,_,_,rfl,rfl,(show (0:Int)<((ns.map V.int).length:Int) by lia),a,ns.map V.int,_,_,rfl,rfl,qu,hv,_,_,rfl,rfl,(show (0:Int)<1000003 by decide),_,rfl,_,_,rfl,rfl,.inr ⟨by decide,by decide⟩,_,_,rfl,rfl,?_⟩
    refine ⟨_,rfl,_,_,rfl,rfl,_,rfl,P0,_,1,1,rfl,rfl,wH,rfl,?_⟩;refine ⟨_,rfl,_,rfl,_,x,rfl,hx,fun r gC=>⟨_,rfl,P0,_,2,2,rfl,rfl,aq,rfl,?_⟩⟩;have q0:=dk (r) (show many≠0 by lia)
    have q1:=du (r) (show 0<many by lia)
    have q2:=u7 (gC) (show 0≤many by lia)
    refine ⟨_,rfl,P0,_,_,_,rfl,rfl,.of aq,rfl,_,rfl,_,_,rfl,rfl,(show 0<many by lia),?_⟩
    refine ⟨_,rfl,P0,_,_,_,rfl,rfl,.of aq,rfl,_,rfl,_,_,rfl,rfl,⟨show 0<many by lia,mm⟩,_,rfl,P0,_,2,2,rfl,rfl,aq,rfl,?_⟩
    exact ⟨_,rfl,k _ _ q0 q1 (((aI.of sl).trans aI.j7).trans (aI.j7.trans aI.j7)) ⟨x+1,r / many,aq,by lia,q2⟩⟩
   ·
    refine ⟨_,rfl,_,_,rfl,rfl,_,rfl,P0,_,1,1,rfl,rfl,wH,rfl,?_⟩;refine ⟨_,rfl,_,rfl,0,x,rfl,hx,fun r gC=>⟨_,rfl,P0,_,2,2,rfl,rfl,aq,rfl,?_⟩⟩;have q0:=dk (r) (show many≠0 by lia)
    have q1:=du (r) (show 0<many by lia)
    have q2:=u7 (gC) (show 0≤many by lia)
    refine ⟨_,rfl,P0,_,_,_,rfl,rfl,.of aq,rfl,_,rfl,_,_,rfl,rfl,(show 0<many by lia),?_⟩
    refine ⟨_,rfl,P0,_,_,_,rfl,rfl,.of aq,rfl,_,rfl,_,_,rfl,rfl,⟨show 0<many by lia,mm⟩,_,rfl,P0,_,2,2,rfl,rfl,aq,rfl,?_⟩
    exact ⟨_,rfl,k _ _ q0 q1 (((aI.of sl).trans aI.j7).trans (aI.j7.trans aI.j7)) ⟨x+1,r / many,aq,by lia,q2⟩⟩
 ·dsimp only [iF]
  have q0:=dk (y) (show many≠0 by lia)
  have q1:=du (y) (show 0<many by lia)
  have q2:=u7 (hy) (show 0≤many by lia)
  refine ⟨_,rfl,P0,_,_,_,rfl,rfl,.of eP,rfl,_,rfl,_,_,rfl,rfl,(show 0<many by lia),?_⟩
  refine ⟨_,rfl,P0,_,_,_,rfl,rfl,.of eP,rfl,_,rfl,_,_,rfl,rfl,⟨show 0<many by lia,mm⟩,_,rfl,P0,_,2,2,rfl,rfl,eP,rfl,?_⟩
  exact ⟨_,rfl,k _ _ q0 q1 (aI.j7) ⟨x,y / many,aq,hx,q2⟩⟩
theorem T8:bI ["top","bottom","one","other"] ["top","bottom"] (aR y4):=b9
theorem wI(T:Txt K mg t):a8 P w K mg base bW 1 t.pP t.sU ["top","bottom"] OI:=by
 have S:=T8;refine T.kj.cH S (fun _ _ _ _ H _ Q _ hr h=>?_);obtain ⟨a,b,rfl,hb,mb,k⟩:=h
 refine ⟨_,(ak (putL 2 S.nd (a9 xS rfl T.wk boot_abs (aa (pv 0) af)))
  (ak (putL 3 S.nd (a9 xS rfl T.wk boot_abs (aa (pv 1) af)))
  (ak (kK dR (a7 qX (pv 3) ag) (aw (E7 (i:=2) (j:=3) rfl S.nd rfl rfl (by decide) rfl rfl (aa (pv 3) (aa (av fj (pv 2) (pv 3)) af)) rfl)))
  (ak (bN (a7 i9 (pv 1) ag) (aw (putL 2 S.nd (iH iI (pv 2)))) bZ)
  (aw (aV (iJ (aa (av vv (pv 0) (pv 2)) (aa (av vv (pv 1) (pv 2)) af))))))))),?_⟩
 have ok:=Gd (a:=a) hb mb;refine ⟨_,rfl,a,rfl,_,rfl,b,rfl,fun m σ H'=>H'=H∧∃(x y:Nat),σ=[some (.int a),some (.int b),some (.int (x:Int)),some (.int (y:Int))]∧m=y∧Nat.gcd x y=Int.gcd a b,⟨b.natAbs,rfl,a.natAbs,b.natAbs,?_,rfl,rfl⟩,?_⟩
 ·show [some (V.int a),some (V.int b),some (V.int (if a<0 then -a else a)),some (V.int (if b<0 then -b else b))]=_
  rw [yd,yd]
 ·rintro m σ H' ⟨rfl,x,y,rfl,em,hg⟩
  refine ⟨_,rfl,rfl,_,rfl,bQ (fun hy=>?_) (fun hy=>?_)⟩
  ·have hy:y≠0:=fun z=>by subst z;revert hy;decide
   refine ⟨fun σ' H2=>H2=H'∧σ'=[some (.int a),some (.int b),some (.int (y:Int)),some (.int (((x % y:Nat)):Int))],?_,?_⟩
   ·rintro σ' H2 ⟨rfl,rfl⟩
    exact ⟨x % y,by rw [em];exact Nat.mod_lt _ (by lia),rfl,y,x % y,rfl,rfl,by rw [Gb];exact hg⟩
   ·exact ⟨_,rfl,_,rfl,_,rfl,_,_,rfl,rfl,(show (0:Int)<y by lia),_,_,rfl,rfl,rfl⟩
  ·have y0:y=0:=by
    by_cases z:y=0;·exact z
    ·refine absurd ?_ hy
     rw [rB,gU (by lia)]
     rfl
   subst y0;rw [Nat.gcd_zero_right] at hg;have KO:∀(g:Int),g=lowG a b→∀(p:Addr),H' p=none→Q (.ref p) (upd H' p (.tup [.int (a.fdiv g),.int (b.fdiv g)])):=fun g e p hp=>by rw [e];exact k p _ (aC hp) aq
   refine ⟨_,rfl,_,_,rfl,rfl,_,rfl,bQ (fun hn=>?_) (fun hn=>?_)⟩
   ·have hn:b<0:=dC hn
    have eg:-(x:Int)=lowG a b:=by unfold lowG;rw [au hn,hg,qE]
    have k9:ya 0 (-(x:Int)):=by rw [eg];exact ok
    exact ⟨_,rfl,_,rfl,_,rfl,_,rfl,_,_,rfl,rfl,k9,_,rfl,_,rfl,_,_,rfl,rfl,k9,by show 2≤sizeLine;decide,KO _ eg⟩
   ·have hn:¬b<0:=fun z=>hn (dM z)
    have eg:(x:Int)=lowG a b:=by unfold lowG;rw [ar hn,hg]
    have k9:ya 0 (x:Int):=by rw [eg];exact ok
    exact ⟨_,rfl,_,rfl,_,_,rfl,rfl,k9,_,rfl,_,rfl,_,_,rfl,rfl,k9,by show 2≤sizeLine;decide,KO _ eg⟩
theorem T9:bI ["told","number"] ["told","number"] (aR y6):=b9
variable {B:Nat}
theorem uu(T:Txt K mg t):a8 P w K mg base bW 1 t.pQ t.sV ["told","number"] (Py B):=by
 have S:=T9;refine T.iU.cH S (fun _ _ _ _ H _ _ _ hr h=>?_);obtain ⟨td,q,i,rfl,ht,hq,bi,b1,k⟩:=h
 refine ⟨_,(ak (bN (a7 fI (az b7 (pv 0) ag) hJ) (aw (aV (av fj (pv 1) (az b7 (pv 0) ag)))) bZ)
  (aw (aV (iJ (aa (pv 1) (aa ag af)))))),?_⟩
 unfold dA at ht;by_cases z:q=0
 ·subst z
  rw [rP] at ht;refine ⟨_,rfl,td,_,_,_,rfl,rfl,.of ht,rfl,rfl,false,by decide +kernel,dD ?_⟩
  refine ⟨_,rfl,by show 2≤sizeLine;decide,fun r nr=>k _ _ (aC nr) ?_⟩
  unfold cm;rw [au rfl];exact .bJ aq ⟨show (1:Int)≤1 by decide,xo ..⟩ bi (by show Int.natAbs 1≤B;lia)
 ·rw [oY z] at ht
  obtain ⟨q2,q3,q4⟩:=hq.resolve_left z;refine ⟨_,rfl,td,_,_,_,rfl,rfl,.of ht,rfl,rfl,true,by decide +kernel,fo ?_⟩
  refine ⟨_,rfl,_,rfl,td,_,_,_,rfl,rfl,.of ht,rfl,_,_,rfl,rfl,(show 0<q by lia),k _ H (ah.refl H) ?_⟩
  unfold cm;rw [ar z];exact .rem (dk _ z) (du _ (by lia)) q3
theorem T_:bI ["told","a","b"] ["told","a","b"] (aR y7):=b9
theorem Dp(T:Txt K mg t):a8 P w K mg base bW 2 t.pR t.sW ["told","a","b"] (G8 dF):=by
 have S:=T_;refine T.mT.cH S (fun _ _ _ _ H _ _ _ hr h=>?_);obtain ⟨td,q,v,u,⟨x,m⟩,⟨y,n⟩,B,rfl,ht,hq,hv,hu,b1,m9,k⟩:=h
 refine ⟨_,(ak (bN (a7 fI (az b7 (pv 0) ag) hJ) (aw (aV (av fj (av eE (pv 1) (pv 2)) (az b7 (pv 0) ag)))) bZ)
  (aw (aV (aL (wI T) hr T.t8 T.kj.kp T.t7 aG (aa (av eE (av fX (az b7 (pv 1) ag) (az b7 (pv 2) ag)) (av fX (az b7 (pv 2) ag) (az b7 (pv 1) ag))) (aa (av fX (az b7 (pv 1) ag) (az b7 (pv 2) ag)) af)))))),?_⟩
 unfold dA at ht;have bB:B≤2*B*B:=ai (lY B (by lia)) (iC _ (by lia))
 have big:∀{x:Int},x.natAbs≤B→aU x:=fun h=>aU.yt m9 (ai h bB);by_cases z:q=0
 ·subst z
  rw [rP] at ht;refine ⟨_,rfl,td,_,_,_,rfl,rfl,.of ht,rfl,rfl,false,by decide +kernel,dD ?_⟩
  dsimp only at hv hu;cases hv with
  | bJ e l bx bm=>
   rename_i p
   cases hu with
   | bJ e' l' wJ my=>
    rename_i p'
    have m0:=l.pos;have n0:=l'.pos;have mn:0<m*n:=Int.mul_pos (by lia) (by lia)
    have wK:(m*n).natAbs≤2*B*B:=by rw [bq];exact ai (cI bm my) (iz _ (by lia))
    have bt:(x*n+y*m).natAbs≤2*B*B:=by refine ai (u4 ..) ?_;rw [bq,bq];refine ai (n_ (cI bx my) (cI wJ bm)) (i5 ?_);rw [lV,Nat.two_mul]
    refine ⟨_,rfl,p,_,_,_,rfl,rfl,.of e,rfl,_,rfl,p',_,_,_,rfl,rfl,.of e',rfl,_,_,rfl,rfl,⟨big bx,big my⟩,_,rfl,p',_,_,_,rfl,rfl,.of e',rfl,_,rfl,p,_,_,_,rfl,rfl,.of e,rfl,_,_,rfl,rfl,⟨big wJ,big bm⟩,_,_,rfl,rfl,_,rfl,p,_,_,_,rfl,rfl,.of e,rfl,_,rfl,p',_,_,_,rfl,rfl,.of e',rfl,_,_,rfl,rfl,⟨big bm,big my⟩,_,_,rfl,Int.ne_of_gt mn,aU.yt m9 wK,fun r H' s' kn=>k _ H' s' ?_⟩;unfold dF;rw [au rfl];exact yq kn (show 1≤m*n by lia) bt wK
   | rem h0 h1 h2=>lia
  | rem h0 h1 h2=>lia
 ·rw [oY z] at ht
  obtain ⟨q2,q3,q4⟩:=hq.resolve_left z;refine ⟨_,rfl,td,_,_,_,rfl,rfl,.of ht,rfl,rfl,true,by decide +kernel,fo ?_⟩
  dsimp only at hv hu;cases hv with
  | bJ=>lia
  | rem h0 h1 h2=>
   cases hu with
   | bJ=>lia
   | rem mE yh GY=>
    refine ⟨_,rfl,_,rfl,_,_,rfl,rfl,_,rfl,td,_,_,_,rfl,rfl,.of ht,rfl,_,_,rfl,rfl,(show 0<q by lia),k _ H (ah.refl H) ?_⟩
    unfold dF;rw [ar z];exact .rem (dk _ z) (du _ (by lia)) q3
theorem Ua:bI ["told","a","b"] ["told","a","b"] (aR y8):=b9
theorem Dq(T:Txt K mg t):a8 P w K mg base bW 2 t.pS t.sY ["told","a","b"] (G8 mulQ):=by
 have S:=Ua;refine T.mU.cH S (fun _ _ _ _ H _ _ _ hr h=>?_);obtain ⟨td,q,v,u,⟨x,m⟩,⟨y,n⟩,B,rfl,ht,hq,hv,hu,b1,m9,k⟩:=h
 refine ⟨_,(ak (bN (a7 fI (az b7 (pv 0) ag) hJ) (aw (aV (av fj (av fS (pv 1) (pv 2)) (az b7 (pv 0) ag)))) bZ)
  (aw (aV (aL (wI T) hr T.t8 T.kj.kp T.t7 aG (aa (av fX (az b7 (pv 1) ag) (az b7 (pv 2) ag)) (aa (av fX (az b7 (pv 1) ag) (az b7 (pv 2) ag)) af)))))),?_⟩
 unfold dA at ht;have bB:B≤2*B*B:=ai (lY B (by lia)) (iC _ (by lia))
 have big:∀{x:Int},x.natAbs≤B→aU x:=fun h=>aU.yt m9 (ai h bB);by_cases z:q=0
 ·subst z
  rw [rP] at ht;refine ⟨_,rfl,td,_,_,_,rfl,rfl,.of ht,rfl,rfl,false,by decide +kernel,dD ?_⟩
  dsimp only at hv hu;cases hv with
  | bJ e l bx bm=>
   rename_i p
   cases hu with
   | bJ e' l' wJ my=>
    rename_i p'
    have m0:=l.pos;have n0:=l'.pos;have mn:0<m*n:=Int.mul_pos (by lia) (by lia)
    have wK:(m*n).natAbs≤2*B*B:=by rw [bq];exact ai (cI bm my) (iz _ (by lia))
    have bt:(x*y).natAbs≤2*B*B:=by rw [bq];exact ai (cI bx wJ) (iz _ (by lia))
    refine ⟨_,rfl,p,_,_,_,rfl,rfl,.of e,rfl,_,rfl,p',_,_,_,rfl,rfl,.of e',rfl,_,_,rfl,rfl,⟨big bx,big wJ⟩,_,rfl,p,_,_,_,rfl,rfl,.of e,rfl,_,rfl,p',_,_,_,rfl,rfl,.of e',rfl,_,_,rfl,rfl,⟨big bm,big my⟩,_,_,rfl,Int.ne_of_gt mn,aU.yt m9 wK,fun r H' s' kn=>k _ H' s' ?_⟩;unfold mulQ;rw [au rfl];exact yq kn (show 1≤m*n by lia) bt wK
   | rem h0 h1 h2=>lia
  | rem h0 h1 h2=>lia
 ·rw [oY z] at ht
  obtain ⟨q2,q3,q4⟩:=hq.resolve_left z;refine ⟨_,rfl,td,_,_,_,rfl,rfl,.of ht,rfl,rfl,true,by decide +kernel,fo ?_⟩
  dsimp only at hv hu;cases hv with
  | bJ=>lia
  | rem h0 h1 h2=>
   cases hu with
   | bJ=>lia
   | rem mE yh GY=>
    refine ⟨_,rfl,_,rfl,_,_,rfl,rfl,.inl ⟨by lia,by lia⟩,_,rfl,td,_,_,_,rfl,rfl,.of ht,rfl,_,_,rfl,rfl,(show 0<q by lia),k _ H (ah.refl H) ?_⟩
    unfold mulQ;rw [ar z];exact .rem (dk _ z) (du _ (by lia)) q3
theorem Ub:bI ["told","a","part"] ["told","a"] (aR y_):=b9
theorem Uc(T:Txt K mg t):a8 P w K mg base bW 2 t.pV t.sZ ["told","a"] Pz:=by
 have S:=Ub;refine T.t9.cH S (fun _ _ _ _ H _ Q _ hr h=>?_);obtain ⟨td,q,v,x,m,B,rfl,ht,hq,hv,hB,k⟩:=h;have hu:=hr.vi
 refine ⟨_,(ak (bN (a7 fI (az b7 (pv 0) ag) hJ) (aw (aV (kJ (a9 (je (K:=K)) rfl T.iW boot_isinstance (aa (pv 1) (aa (i7 (v:=.ty "int") rfl T.zH boot_int rfl) af))) (kJ (E4 (a9 (je (K:=K)) rfl T.iW boot_isinstance (aa (pv 1) (aa (i7 (v:=.ty "bool") rfl T.zG boot_bool rfl) af)))) (qN (Fp xP i9 ag (pv 1) (az b7 (pv 0) ag))))))) bZ)
  (ak (bN (PW.pt (pw_or (om (jN (a9 (je (K:=K)) rfl T.iW boot_isinstance (aa (pv 1) (aa (i7 (v:=.ty "tuple") rfl T.wm boot_tuple rfl) af))))) (pw_or1 (a7 qX (a9 cD rfl T.cq cz (aa (pv 1) af)) ag)))) (aw (aV fR)) bZ)
  (ak (ia dR rfl (xN (pv 1)) (d6 (i:=2) S.nd rfl (Or.inl rfl))
   (aw (bN (PW.pt (pw_or (om (jN (a9 (je (K:=K)) rfl T.iW boot_isinstance (aa (pv 2) (aa (i7 (v:=.ty "int") rfl T.zH boot_int rfl) af))))) (pw_or1 (jN (a9 (je (K:=K)) rfl T.iW boot_isinstance (aa (pv 2) (aa (i7 (v:=.ty "bool") rfl T.zG boot_bool rfl) af))))))) (aw (aV fR)) bZ)))
  (aw (aV (kJ (vg kR (az b7 (pv 1) ag) ag) (qN (vg (F8 hu) (pv 1) (aL (wI T) hr T.t8 T.kj.kp T.t7 aG (aa (az b7 (pv 1) ag) (aa (az b7 (pv 1) ag) af))))))))))),?_⟩
 unfold dA at ht;cases hv with
 | bJ e l bx bm=>
  rename_i p
  rw [rP] at ht;refine ⟨_,rfl,td,_,_,_,rfl,rfl,.of ht,rfl,rfl,false,by decide +kernel,dD ?_⟩
  refine ⟨_,rfl,_,_,_,true,rfl,rfl,.of (.tup e),vx,true,rfl,dD ?_⟩;refine ⟨_,rfl,p,_,rfl,.inr (.of e),rfl,false,by rw [rB];rfl,dD ?_⟩
  refine ⟨_,rfl,p,rfl,⟨_,.of e⟩,?_⟩;refine Fe (K:=K) (a:=p) (xs:=[.int x,.int m]) (fun i σ Hc=>Hc=H∧∃v2:Option V,σ=[some (.ref td),some (.ref p),v2]) ⟨rfl,_,rfl⟩ (fun i σ Hc _ ⟨z,_⟩=>by rw [z];exact .of e) ?_ ?_
  ·rintro i v σ Hc hi ⟨rfl,v2,rfl⟩
   obtain ⟨c,rfl⟩:∃c:Int,v=.int c:=by
    match i,hi with
    | 0,h=>cases h;exact ⟨_,rfl⟩
    | 1,h=>cases h;exact ⟨_,rfl⟩
    | i+2,h=>cases h
   refine ⟨_,rfl,_,_,_,true,rfl,rfl,.of (.int c),rfl,true,rfl,dD ?_⟩;refine ⟨_,rfl,_,_,_,false,rfl,rfl,.of (.int c),rfl,false,rfl,dD ?_⟩;exact ⟨rfl,_,rfl⟩
  ·rintro σ Hc ⟨rfl,v2,rfl⟩
   have m0:=l.pos;refine ⟨_,rfl,p,_,_,_,rfl,rfl,.of e,rfl,_,_,rfl,rfl,true,by show V.bl (decide ((0:Int)<m))=_;rw [dM (show (0:Int)<m by lia)],fo ?_⟩
   refine ⟨_,rfl,_,rfl,p,_,_,_,rfl,rfl,.of e,rfl,_,rfl,p,_,_,_,rfl,rfl,.of e,rfl,x,m,rfl,by lia,i6 (ai bm hB) OK,fun r H' s' kn=>?_⟩
   have e1:lowG x m=1:=by unfold lowG;rw [ar (by lia),l.vz];rfl
   rw [e1,qF,qF] at kn;refine ⟨p,r,_,_,rfl,rfl,.of (s' _ _ e),.of kn,rfl,rfl,?_⟩;show Q (.bl (fV [V.int x,V.int m] [V.int x,V.int m])) H';rw [Gr];exact k H' s'
 | rem h0 h1 h2=>
  have z:q≠0:=by lia
  rw [oY z] at ht;refine ⟨_,rfl,td,_,_,_,rfl,rfl,.of ht,rfl,rfl,true,by decide +kernel,fo ?_⟩
  refine ⟨_,rfl,_,_,_,true,rfl,rfl,.of (.int x),rfl,true,rfl,fo ?_⟩;refine ⟨_,rfl,_,_,_,false,rfl,rfl,.of (.int x),rfl,false,rfl,_,rfl,fo ?_⟩;refine ⟨_,rfl,_,_,rfl,rfl,true,by show V.bl (decide ((0:Int)≤x))=_;rw [dM h0],fo ?_⟩
  refine ⟨_,rfl,td,_,_,_,rfl,rfl,.of ht,rfl,_,_,rfl,rfl,?_⟩;show Q (.bl (decide (x<q))) H;rw [dM h1];exact k H (ah.refl H)
theorem Ud:bI ["told","found"] ["told","found"] (aR za):=b9
theorem Ue(T:Txt K mg t):a8 P w K mg base bW 3 t.pW t.s_ ["told","found"] PB:=by
 have S:=Ud;refine T.t_.cH S (fun _ _ _ _ H vs _ _ hr h=>?_);obtain ⟨td,a,q,ps,B,rfl,ht,hq,⟨vs,ea,hl,hn⟩,JS,hB,k⟩:=h;refine ⟨_,(aw (aV (kJ (a9 (je (K:=K)) rfl T.iW boot_isinstance (aa (pv 1) (aa (i7 (v:=.ty "list") rfl T.mY boot_list rfl) af))) (qN (a9 (Ot (K:=K) rfl) rfl T.JJ boot_all (aa (jg (N:=["a","told"]) (ρ:=(fun σ=>[σ[0]?.join])) (fW [0] rfl) rfl (kM (pv 1)) (fun _ _ _=>.nil) (fun _ _ _=>(aL (Uc T) hr T.Jr T.t9.kp T.Jq aG (aa (pv 1) (aa (pv 0) af))))) af)))))),?_⟩;refine ⟨_,rfl,_,_,_,true,rfl,rfl,.of (.lst ea),vx,true,rfl,fo ?_⟩;refine O6 (OX (xs:=vs) (fun R h=>⟨_,rfl,a,rfl,⟨_,.of ea⟩,h _ _ (ah.refl _) (mF (.of ea))⟩) (by rw [hl];exact jd (by lia)) (fun _ i y _=>y=.bl true) (fun _ _ _ _ _ _ h _ _=>h) ?_ ?_)
 ·intro D i v hi Hc R sc _ kc
  have dX:i<ps.length:=by rw [←hl];exact (cG.mp hi).1
  exact ⟨_,rfl,_,rfl,td,q,v,_,_,B,rfl,ht.mono sc,hq,(hn i v ps[i] hi (by simp [dX])).mono sc,hB,fun H' s'=>kc _ H' s' rfl⟩
 ·intro D ys Hc sc zJ hP eD
  refine ⟨D,List.replicate ys.length true,rfl,.of (by rw [eD];exact fL _ (fL _ (O9 hP))),?_⟩
  rw [O_];exact k Hc sc
theorem Ug:bI ["pen","way"] ["pen"] (aR zb):=b9
theorem Uh(T:Txt K mg t):a8 P w K mg base bW 3 t.pX t.tf ["pen"] (PD K):=by
 have S:=Ug;have jv:=ur (P:=P) (w:=w) (base:=base) T;refine T.uc.cH S (fun _ _ _ _ H _ _ _ hr h=>?_);obtain ⟨P0,a,ns,rfl,pc,hS,k⟩:=h
 refine ⟨_,(@ak _ _ _ _ _ (@Bq _ _ 1 _ _ _ _ (by rfl) (by first | exact .inl rfl | exact .inr rfl | assumption) S.nd rfl (Or.inl rfl) (xU jv (hr.mono (by decide)) rfl T.gA T.fg.kp T.gz .nil aG (@dt _ _ _ _ _ (by rfl) (pv 0) (@dt _ _ _ _ _ (by rfl) ag af))))
   (@ak _ _ _ _ _ (@bN _ _ _ _ _ _ _ _ (@AW _ _ _ _ _ _ _ _ i9 (pv 1) ag (xR _)) (@aw _ _ _ (@aV _ _ _ _ (@iJ _ _ _ _ _ (@dt _ _ _ _ _ (by rfl) hJ af)))) bZ)
   (@ak _ _ _ _ _ (@bN _ _ _ _ _ _ _ _ (@AW _ _ _ _ _ _ _ _ i9 (pv 1) ag (xR _)) (@aw _ _ _ (@aV _ _ _ _ (@iJ _ _ _ _ _ (@dt _ _ _ _ _ (by rfl) hJ (@dt _ _ _ _ _ (by rfl) (@A6 _ _ _ _ _ _ _ a_ (@b6 _ _ _ _ (@dt _ _ _ _ _ (by rfl) ag (@dt _ _ _ _ _ (by rfl) ag (@dt _ _ _ _ _ (by rfl) ag (@dt _ _ _ _ _ (by rfl) ag af))))) (xU jv (hr.mono (by decide)) rfl T.gA T.fg.kp T.gz .nil aG (@dt _ _ _ _ _ (by rfl) (pv 0) (@dt _ _ _ _ _ (by rfl) ag af))) (fun _ _=>rfl)) af))))) bZ)
   (@aw _ _ _ (@aV _ _ _ _ (@iJ _ _ _ _ _ (@dt _ _ _ _ _ (by rfl) hJ (@dt _ _ _ _ _ (by rfl) (@A6 _ _ _ _ _ _ _ a_ (@b6 _ _ _ _ (@dt _ _ _ _ _ (by rfl) ag (@dt _ _ _ _ _ (by rfl) ag (@dt _ _ _ _ _ (by rfl) ag (@dt _ _ _ _ _ (by rfl) ag (@dt _ _ _ _ _ (by rfl) ag (@dt _ _ _ _ _ (by rfl) ag (@dt _ _ _ _ _ (by rfl) ag (@dt _ _ _ _ _ (by rfl) ag (@dt _ _ _ _ _ (by rfl) ag (@dt _ _ _ _ _ (by rfl) ag af))))))))))) (xU jv (hr.mono (by decide)) rfl T.gA T.fg.kp T.gz .nil aG (@dt _ _ _ _ _ (by rfl) (pv 0) (@dt _ _ _ _ _ (by rfl) ag af))) (fun _ _=>rfl)) af)))))))),?_⟩
 refine ⟨_,rfl,P0,a,ns,5,rfl,pc,hS,by decide,aU.of_lt (by decide) (by decide),fun r H1 r0 r1 sA p1=>?_⟩
 have gT:aX K (er P0 H1) a (ns.map V.int):=ah.seq sA hS;refine ⟨_,rfl,_,_,rfl,rfl,_,rfl,bQ (fun _=>?_) (fun _=>?_)⟩
 ·refine ⟨by show 1≤sizeLine;decide,fun td jw=>?_⟩
  have np:=p1.ne jw;refine k td 0 _ (.inl rfl) (sA.trans (aI.of (aC jw))) (p1.mono (aC jw)) ?_;unfold dA;rw [rP,jq np];exact aq
 refine ⟨_,rfl,_,_,rfl,rfl,_,rfl,bQ (fun _=>?_) (fun _=>?_)⟩
 ·refine ⟨by show 4≤sizeLine;decide,fun l nl=>?_⟩
  have nP:=p1.ne nl;have sl:ah H1 (upd H1 l (.lst [.int 2,.int 3,.int 5,.int 7])):=aC nl;have el:upd H1 l (.lst [.int 2,.int 3,.int 5,.int 7]) l=some (.lst [.int 2,.int 3,.int 5,.int 7]):=aq;have pl:=p1.mono sl;have m_:aX K (er P0 (upd H1 l (.lst [.int 2,.int 3,.int 5,.int 7]))) a (ns.map V.int):=ah.seq (oX sl) gT;generalize upd H1 l (.lst [.int 2,.int 3,.int 5,.int 7])=H2 at sl el pl m_ ⊢;refine ⟨_,rfl,P0,a,ns,4,rfl,pl,m_,by decide,aU.of_lt (by decide) (by decide),fun r H3 r0 r1 s3 p3=>?_⟩
  obtain ⟨q,wL,hq,mZ⟩:∃q:Int,cK ([.int 2,.int 3,.int 5,.int 7]:List V) r=some (.int q)∧aD q∧q≠0:=by
   rcases (show r=0∨r=1∨r=2∨r=3 by lia) with rfl | rfl | rfl | rfl
   ·exact ⟨2,rfl,.inr ⟨by decide,by decide,by decide⟩,by decide⟩
   ·exact ⟨3,rfl,.inr ⟨by decide,by decide,by decide⟩,by decide⟩
   ·exact ⟨5,rfl,.inr ⟨by decide,by decide,by decide⟩,by decide⟩
   ·exact ⟨7,rfl,.inr ⟨by decide,by decide,by decide⟩,by decide⟩
  refine ⟨l,_,_,_,rfl,rfl,.of (s3.at nP el),wL,by show 2≤sizeLine;decide,fun td jw=>?_⟩
  have np:=p3.ne jw;refine k td q _ hq ((sA.trans (aI.of sl)).trans (s3.trans (aI.of (aC jw)))) (p3.mono (aC jw)) ?_;unfold dA;rw [oY mZ,jq np];exact aq
 ·refine ⟨by show 10≤sizeLine;decide,fun l nl=>?_⟩
  have nP:=p1.ne nl;have sl:ah H1 (upd H1 l (.lst [.int 11,.int 13,.int 29,.int 97,.int 101,.int 257,.int 499,.int 743,.int 991,.int 997])):=aC nl;have el:upd H1 l (.lst [.int 11,.int 13,.int 29,.int 97,.int 101,.int 257,.int 499,.int 743,.int 991,.int 997]) l=some (.lst [.int 11,.int 13,.int 29,.int 97,.int 101,.int 257,.int 499,.int 743,.int 991,.int 997]):=aq;have pl:=p1.mono sl;have m_:aX K (er P0 (upd H1 l (.lst [.int 11,.int 13,.int 29,.int 97,.int 101,.int 257,.int 499,.int 743,.int 991,.int 997]))) a (ns.map V.int):=ah.seq (oX sl) gT;generalize upd H1 l (.lst [.int 11,.int 13,.int 29,.int 97,.int 101,.int 257,.int 499,.int 743,.int 991,.int 997])=H2 at sl el pl m_ ⊢;refine ⟨_,rfl,P0,a,ns,10,rfl,pl,m_,by decide,aU.of_lt (by decide) (by decide),fun r H3 r0 r1 s3 p3=>?_⟩
  obtain ⟨q,wL,hq,mZ⟩:∃q:Int,cK ([.int 11,.int 13,.int 29,.int 97,.int 101,.int 257,.int 499,.int 743,.int 991,.int 997]:List V) r=some (.int q)∧aD q∧q≠0:=by
   rcases (show r=0∨r=1∨r=2∨r=3∨r=4∨r=5∨r=6∨r=7∨r=8∨r=9 by lia) with rfl | rfl | rfl | rfl | rfl | rfl | rfl | rfl | rfl | rfl
   ·exact ⟨11,rfl,.inr ⟨by decide,by decide,by decide⟩,by decide⟩
   ·exact ⟨13,rfl,.inr ⟨by decide,by decide,by decide⟩,by decide⟩
   ·exact ⟨29,rfl,.inr ⟨by decide,by decide,by decide⟩,by decide⟩
   ·exact ⟨97,rfl,.inr ⟨by decide,by decide,by decide⟩,by decide⟩
   ·exact ⟨101,rfl,.inr ⟨by decide,by decide,by decide⟩,by decide⟩
   ·exact ⟨257,rfl,.inr ⟨by decide,by decide,by decide⟩,by decide⟩
   ·exact ⟨499,rfl,.inr ⟨by decide,by decide,by decide⟩,by decide⟩
   ·exact ⟨743,rfl,.inr ⟨by decide,by decide,by decide⟩,by decide⟩
   ·exact ⟨991,rfl,.inr ⟨by decide,by decide,by decide⟩,by decide⟩
   ·exact ⟨997,rfl,.inr ⟨by decide,by decide,by decide⟩,by decide⟩
  refine ⟨l,_,_,_,rfl,rfl,.of (s3.at nP el),wL,by show 2≤sizeLine;decide,fun td jw=>?_⟩
  have np:=p3.ne jw;refine k td q _ hq ((sA.trans (aI.of sl)).trans (s3.trans (aI.of (aC jw)))) (p3.mono (aC jw)) ?_;unfold dA;rw [oY mZ,jq np];exact aq
theorem Ui:bI ["pen","told","far","kind","top"] ["pen","told","far"] (aR zc):=b9
theorem Uj(T:Txt K mg t):a8 P w K mg base bW 3 t.pY t.tj ["pen","told","far"] (P7 K):=by
 have S:=Ui;have jv:=ur (P:=P) (w:=w) (base:=base) T;refine T.ud.cH S (fun _ _ _ _ H _ _ _ hr h=>?_);obtain ⟨P0,a,td,ns,q,aS,F,rfl,pc,hS,ht,hq,f1,f2,f3,f4,k⟩:=h
 refine ⟨_,(ak (putL 3 S.nd (aL jv hr T.gA T.fg.kp T.gz aG (aa (pv 0) (aa ag af))))
  (ak (bN (a7 fI (az b7 (pv 1) ag) hJ) (ak (bN (a7 i9 (pv 3) ag) (aw (aV ag)) bZ)
  (aw (aV (aL jv hr T.gA T.fg.kp T.gz aG (aa (pv 0) (aa (az b7 (pv 1) ag) af)))))) bZ)
  (ak (bN (a7 i9 (pv 3) ag) (aw (aV (iJ (aa ag (aa ag af))))) bZ)
  (ak (bN (a7 fI (pv 3) ag) (ak (putL 4 S.nd (av fS (av fH ag (av fS ag (aL jv hr T.gA T.fg.kp T.gz aG (aa (pv 0) (aa ag af))))) (aL jv hr T.gA T.fg.kp T.gz aG (aa (pv 0) (aa (pv 2) af)))))
  (aw (aV (aL (wI T) hr T.t8 T.kj.kp T.t7 aG (aa (pv 4) (aa (av eE ag (aL jv hr T.gA T.fg.kp T.gz aG (aa (pv 0) (aa (pv 2) af)))) af)))))) bZ)
  (aw (aV (aL (wI T) hr T.t8 T.kj.kp T.t7 aG (aa (av fH (aL jv hr T.gA T.fg.kp T.gz aG (aa (pv 0) (aa ag af))) ag) (aa (az a_ (b6 (aa ag (aa ag (aa ag (aa ag af))))) (aL jv hr T.gA T.fg.kp T.gz aG (aa (pv 0) (aa ag af)))) af))))))))),?_⟩
 have mf:aU aS:=aU.of_lt (by lia) (by lia)
 refine ⟨_,rfl,P0,a,ns,16,rfl,pc,hS,by decide,aU.of_lt (by decide) (by decide),fun kd H1 ZU ZV s1 p1=>?_⟩
 have gT:aX K (er P0 H1) a (ns.map V.int):=ah.seq s1 hS;have ko:=ht.mono s1;unfold dA at ko;by_cases z:q=0
 ·subst z
  rw [rP] at ko;refine ⟨_,rfl,td,_,_,_,rfl,rfl,.of (dO _ _ ko),rfl,rfl,false,by decide +kernel,dD ?_⟩
  refine ⟨_,rfl,_,_,rfl,rfl,_,rfl,bQ (fun _=>?_) (fun _=>?_)⟩
  ·refine ⟨by show 2≤sizeLine;decide,fun r nr=>?_⟩
   have np:=p1.ne nr;exact k _ 0 1 _ (s1.trans (aI.of (aC nr))) (p1.mono (aC nr)) (.bJ (jr np aq) ⟨by decide,by decide⟩ (by show Int.natAbs 0≤F;lia) (by show Int.natAbs 1≤F;lia))
  refine ⟨_,rfl,rfl,_,rfl,bQ (fun _=>?_) (fun _=>?_)⟩
  ·refine ⟨_,rfl,P0,a,ns,2,rfl,p1,gT,by decide,aU.of_lt (by decide) (by decide),fun sg H2 ZW ZX s2 p2=>?_⟩
   refine ⟨_,_,rfl,rfl,.inl ⟨by decide,by decide⟩,_,_,rfl,rfl,_,rfl,_,rfl,P0,a,ns,aS,rfl,p2,ah.seq s2 gT,f1,mf,fun tp H3 Uk Ul s3 p3=>?_⟩
   refine ⟨_,_,rfl,rfl,.inl ⟨by lia,by lia⟩,?_⟩
   refine ⟨_,rfl,_,rfl,_,rfl,P0,a,ns,aS,rfl,p3,ah.seq s3 (ah.seq s2 gT),f1,mf,fun bt H4 ZY ZZ s4 p4=>?_⟩;refine ⟨_,_,rfl,rfl,_,_,rfl,(show 1+bt≠0 by lia),aU.of_lt (by lia) (by lia),fun r H5 s5 kn=>?_⟩
   have b1:((1-2*sg)*tp).natAbs≤F:=by
    rcases (show sg=0∨sg=1 by lia) with rfl | rfl
    ·rw [show (1-2*(0:Int))*tp=tp by lia];lia
    ·rw [show (1-2*(1:Int))*tp=-tp by lia];lia
   refine k _ _ _ H5 (s1.trans (s2.trans (s3.trans (s4.trans (aI.of s5))))) (p4.mono s5) ((yq (B:=F) kn (show 1≤1+bt by lia) b1 (by lia)).er (H':=H5) (p4.mono s5))
  ·refine ⟨_,rfl,P0,a,ns,9,rfl,p1,gT,by decide,aU.of_lt (by decide) (by decide),fun tp H2 Uk Ul s2 p2=>?_⟩
   refine ⟨_,_,rfl,rfl,by show 4≤sizeLine;decide,fun l nl=>?_⟩
   have nP:=p2.ne nl;have sl:ah H2 (upd H2 l (.lst [.int 1,.int 1,.int 2,.int 3])):=aC nl;have el:upd H2 l (.lst [.int 1,.int 1,.int 2,.int 3]) l=some (.lst [.int 1,.int 1,.int 2,.int 3]):=aq;have pl:=p2.mono sl;have m_:aX K (er P0 (upd H2 l (.lst [.int 1,.int 1,.int 2,.int 3]))) a (ns.map V.int):=ah.seq (oX sl) (ah.seq s2 gT);generalize upd H2 l (.lst [.int 1,.int 1,.int 2,.int 3])=H3 at sl el pl m_ ⊢;refine ⟨_,rfl,P0,a,ns,4,rfl,pl,m_,by decide,aU.of_lt (by decide) (by decide),fun r H4 r0 r1 s4 p4=>?_⟩
   obtain ⟨b,wL,b1,b3⟩:∃b:Int,cK ([.int 1,.int 1,.int 2,.int 3]:List V) r=some (.int b)∧1≤b∧b≤3:=by
    rcases (show r=0∨r=1∨r=2∨r=3 by lia) with rfl | rfl | rfl | rfl
    ·exact ⟨1,rfl,by decide,by decide⟩
    ·exact ⟨1,rfl,by decide,by decide⟩
    ·exact ⟨2,rfl,by decide,by decide⟩
    ·exact ⟨3,rfl,by decide,by decide⟩
   refine ⟨l,_,_,_,rfl,rfl,.of (s4.at nP el),wL,_,_,rfl,by lia,aU.of_lt (by lia) (by lia),fun r' H5 s5 kn=>?_⟩
   exact k _ _ _ H5 (s1.trans (s2.trans ((aI.of sl).trans (s4.trans (aI.of s5))))) (p4.mono s5) ((yq (B:=F) kn b1 (show (tp-4).natAbs≤_ by lia) (by lia)).er (H':=H5) (p4.mono s5))
 ·rw [oY z] at ko
  obtain ⟨q2,q3,q4⟩:=hq.resolve_left z;refine ⟨_,rfl,td,_,_,_,rfl,rfl,.of (dO _ _ ko),rfl,rfl,true,by decide +kernel,fo ?_⟩
  refine ⟨_,rfl,_,_,rfl,rfl,_,rfl,bQ (fun _=>?_) (fun _=>?_)⟩;·exact k _ 0 1 H1 s1 p1 (.rem (by decide) (by lia) q3)
  ·refine ⟨_,rfl,_,rfl,td,_,_,_,rfl,rfl,.of (dO _ _ ko),rfl,P0,a,ns,q,rfl,p1,gT,by lia,aU.of_lt (by lia) (by lia),fun r H2 r0 r1 s2 p2=>?_⟩
   exact k _ r 1 H2 (s1.trans s2) p2 (.rem r0 r1 q3)
theorem Um:bI ["told","row","many"] ["told","row"] (aR ze):=b9
theorem qv(T:Txt K mg t):a8 P w K mg base bW 4 t.p_ t.tx ["told","row"] PH:=by
 have S:=Um;have iX:=uu (P:=P) (w:=w) (base:=base) (B:=1000) T;refine T.iV.cH S (fun _ _ _ _ H vs _ _ hr h=>?_);obtain ⟨z,a,q,ps,B,rfl,hz,hq,hR,JS,k⟩:=h;have hu:=hr.vi
 refine ⟨_,(ak (putL 2 S.nd (a9 cD rfl T.cq cz (aa (pv 1) af)))
  (ak (kK dR (PW.pt (pw_and (a7 kR (pv 2) ag) (pw_and1 (a7 (Gi hu) (az a_ (pv 1) (av fH (pv 2) ag)) (aL iX hr T.mS T.iU.kp T.mR aG (aa (pv 0) (aa ag af))))))) (aw (putL 2 S.nd (av fH (pv 2) ag))))
  (aw (aV (rg rj (pv 1) rd (rf (pv 2))))))),?_⟩
 obtain ⟨vs,ea,hl,hn⟩:=id hR;refine ⟨_,rfl,a,vs,rfl,.inl (.of ea),?_⟩;refine ⟨fun c σ Hc=>ah H Hc∧c≤ps.length∧da ps c=da ps ps.length∧σ=[some (.ref z),some (.ref a),some (.int (c:Int))],⟨ps.length,ah.refl H,aO _,rfl,by rw [←hl];rfl⟩,?_⟩
 rintro c σ Hc ⟨sc,hc,qp,rfl⟩;refine ⟨_,rfl,_,_,rfl,rfl,_,rfl,bQ (fun h0=>?_) (fun h0=>?_)⟩
 ·have h0:(0:Int)<(c:Int):=dC h0
  obtain ⟨d,rfl⟩:∃d,c=d+1:=⟨c-1,by lia⟩
  have hd:d<vs.length:=by lia
  have kI:d<ps.length:=by lia
  refine ⟨_,rfl,_,rfl,_,_,rfl,rfl,a,vs,_,vs[d],rfl,rfl,.of (sc _ _ ea),(by show cK vs (((d+1:Nat):Int)-1)=_;rw [show ((d+1:Nat):Int)-1=(d:Int) by lia];exact gN (by simp [hd])),?_⟩
  have hv:=hn d vs[d] ps[d] (by simp [hd]) (by simp [kI])
  refine ⟨_,rfl,z,q,0,rfl,hz.mono sc,hq,by decide,by decide,fun v0 H1 s1 ho=>?_⟩
  have mE:aQ 1000 H1 q v0 0 1:=by
   have e:cm q 0=(0,1):=by unfold cm;split <;> simp
   rw [e] at ho;exact ho
  have gd:ps.getD d o1=ps[d]:=getD_at kI;refine GX (hv.mono (sc.trans s1)) mE ⟨_,rfl,bQ (fun fB=>?_) (fun fB=>?_)⟩
  ·have fB:ps[d].1=0:=dC fB
   refine ⟨fun σ' H2=>ah H H2∧σ'=[some (.ref z),some (.ref a),some (.int (d:Int))],?_,?_⟩
   ·rintro σ' H2 ⟨s2,rfl⟩
    refine ⟨d,by lia,s2,by lia,?_,rfl⟩
    rw [←qp];show _=if (ps.getD d o1).1=0 then da ps d else d+1
    rw [gd,au fB]
   ·refine ⟨_,rfl,_,_,rfl,rfl,sc.trans s1,by show List.set _ 2 (some (V.int (((d+1:Nat):Int)-1)))=_;rw [show ((d+1:Nat):Int)-1=(d:Int) by lia];rfl⟩
  ·have fB:¬ps[d].1=0:=fun e=>fB (dM e)
   have e:da ps ps.length=d+1:=by
    rw [←qp];show (if (ps.getD d o1).1=0 then da ps d else d+1)=_
    rw [gd,ar fB]
   refine ⟨_,rfl,_,rfl,_,rfl,a,vs,rfl,.of ((sc.trans s1) _ _ ea),fun r nr=>?_⟩;rw [rO vs (d+1) (by lia)]
   have sr:=(sc.trans s1).trans (aC (o:=.lst (vs.take (d+1))) nr);refine k r _ sr (none_of (sc.trans s1) nr) ?_;unfold aM;rw [e];exact aN.take aq hl fun i v p h1 h2=>(hn i v p h1 h2).mono sr
 ·have h0:¬(0:Int)<(c:Int):=fun z=>h0 (dM z)
  have c0:c=0:=by lia
  subst c0;refine ⟨_,rfl,_,rfl,_,rfl,a,vs,rfl,.of (sc _ _ ea),fun r nr=>?_⟩;rw [rO vs 0 (by lia)]
  have sr:=sc.trans (aC (o:=.lst (vs.take 0)) nr);refine k r _ sr (none_of sc nr) ?_;unfold aM;rw [←qp];exact aN.take aq hl fun i v p h1 h2=>(hn i v p h1 h2).mono sr
def Uo:Sp:=fun vs H Q _=>∃(td a b:Addr) (q:Int) (ps rs:aF) (B:Nat),vs=[.ref td,.ref a,.ref b]∧dA H td q∧aD q∧aN B H q a ps∧aN B H q b rs∧1000≤B∧B≤10 ^ 300∧ps.length≤200∧rs.length≤200∧∀(c:Addr) (H':Hp),ah H H'→H c=none→aN (2*B*B) H' q c (aM (gP q ps rs))→Q (.ref c) H'
theorem Up:bI ["told","one","other","found","k"] ["told","one","other"] (aR zf):=b9
theorem Uq(T:Txt K mg t):a8 P w K mg base bW 5 t.qa t.tD ["told","one","other"] Uo:=by
 have S:=Up;refine T.uf.cH S (fun _ _ _ _ H vs _ _ hr h=>?_);obtain ⟨td,a,b,q,ps,rs,B,rfl,ht,hq,hA,hB,b1,m9,Z0,Z1,k⟩:=h
 refine ⟨_,(ak (bN (a7 i9 (a9 cD rfl T.cq cz (aa (pv 1) af)) (a9 cD rfl T.cq cz (aa (pv 2) af))) (aw (E7 (i:=1) (j:=2) rfl S.nd rfl rfl (by decide) rfl rfl (aa (pv 2) (aa (pv 1) af)) rfl)) bZ)
  (ak (putL 3 S.nd (q_ vk rfl T.mY boot_list (aa (pv 1) af)))
  (ak (ia dR rfl (h_ rfl T.gB (aa (a9 cD rfl T.cq cz (aa (pv 2) af)) af)) (d6 (i:=4) S.nd rfl (Or.inl rfl))
   (aw (@qR _ _ _ _ _ _ (aL (Dp T) hr T.zA T.mT.kp T.zy aG (aa (pv 0) (aa (az a_ (pv 3) (pv 4)) (aa (az a_ (pv 2) (pv 4)) af)))) (qQ (pv 3) (pv 4) set_list) (by rfl) (by rfl) (by rfl))))
  (aw (aV (aL (qv T) hr T.mX T.iV.kp T.mV aG (aa (pv 0) (aa (pv 3) af)))))))),?_⟩
 obtain ⟨vs,ea,lv,fv⟩:=id hA;obtain ⟨us,eb,lu,fu⟩:=id hB;have bB:B≤2*B*B:=ai (lY B (by lia)) (iC _ (by lia))
 refine ⟨_,rfl,a,vs,rfl,.inl (.of ea),_,rfl,b,us,rfl,.inl (.of eb),_,_,rfl,rfl,_,rfl,bQ (fun bP=>?_) (fun bP=>?_)⟩
 ·have bP:(vs.length:Int)<(us.length:Int):=dC bP
  rw [PM] at k;refine ⟨_,rfl,_,rfl,_,_,rfl,?_⟩;refine ⟨_,rfl,b,us,rfl,.inl (.of eb),fun fd qw=>?_⟩;have sf:ah H (upd H fd (.lst us)):=aC qw;have wM:upd H fd (.lst us) fd=some (.lst us):=aq;generalize upd H fd (.lst us)=H0 at sf wM ⊢;refine ⟨_,rfl,a,vs,rfl,.inl (.of (sf _ _ ea)),(vs.length:Int),rfl,by lia,by lia,?_⟩
  rw [d_]
  refine mi (fun i σ Hc=>ah H Hc∧∃(v4:Option V) (ws:List V),σ=[some (.ref td),some (.ref b),some (.ref a),some (.ref fd),v4]∧Hc fd=some (.lst ws)∧ws.length=rs.length∧∀(j:Nat) (w:V),ws[j]?=some w→(j<i→aQ (2*B*B) Hc q w (dF q (rs.getD j o1) (ps.getD j o1)).1 (dF q (rs.getD j o1) (ps.getD j o1)).2)∧(i≤j→aQ B Hc q w (rs.getD j o1).1 (rs.getD j o1).2))
   ⟨sf,_,us,rfl,wM,lu,fun j w hw=>⟨fun h=>by lia,fun _=>by
    have hj:j<rs.length:=by rw [←lu];exact (cG.mp hw).1
    rw [getD_at hj];exact (fu j w rs[j] hw (by simp [hj])).mono sf⟩⟩ ?_ ?_
  ·rintro i σ Hc hi ⟨sc,v4,ws,rfl,jx,gD,fC⟩
   have i1:i<ws.length:=by lia
   have i3:i<ps.length:=by lia
   have nv:=(fC i ws[i] (by simp [i1])).2 (aO _)
   have nu:=(fv i vs[i] ps[i] (by simp [hi]) (by simp [i3])).mono sc
   rw [←getD_at (d:=o1) i3] at nu;refine ⟨_,rfl,_,rfl,_,rfl,fd,ws,_,ws[i],rfl,rfl,.of jx,(by show cK ws (0+(i:Int))=_;rw [Int.zero_add];exact gN (by simp [i1])),_,rfl,_,rfl,a,vs,_,vs[i],rfl,rfl,.of (sc _ _ ea),(by show cK vs (0+(i:Int))=_;rw [Int.zero_add];exact gN (by simp [hi])),td,q,_,_,rs.getD i o1,ps.getD i o1,B,rfl,ht.mono sc,hq,nv,nu,b1,m9,fun v' H' s' hv=>?_⟩
   have lI:=s' _ _ jx;refine ⟨_,rfl,_,rfl,fd,ws,_,i,rfl,rfl,lI,(by show fk ws.length (0+(i:Int))=_;rw [Int.zero_add];unfold fk;rw [au (by lia),au (by lia),d_]),?_⟩
   have aS:∀b o,b≠fd→H' b=some o→upd H' fd (.lst (ws.set i v')) b=some o:=fun b o nb e=>by rw [bG nb];exact e
   refine ⟨gy (sc.trans s') qw,_,_,rfl,aq,by rw [uR];exact gD,fun j w hw=>?_⟩
   by_cases z:j=i
   ·subst z
    rw [nH i1] at hw;cases hw;exact ⟨fun _=>hv.aS lI aS,fun h=>by lia⟩
   ·rw [nI (by lia)] at hw
    obtain ⟨g1,g2⟩:=fC j w hw;exact ⟨fun h=>((g1 (by lia)).mono s').aS lI aS,fun h=>((g2 (by lia)).mono s').aS lI aS⟩
  ·rintro σ Hc ⟨sc,v4,ws,rfl,jx,gD,fC⟩
   have hG:aN (2*B*B) Hc q fd (gP q rs ps):=⟨ws,jx,by rw [yr];lia,fun j w p h1 h2=>by
    have hj:j<rs.length:=by rw [←gD];exact (cG.mp h1).1
    rw [G4 (by lia)] at h2
    cases h2;obtain ⟨g1,g2⟩:=fC j w h1;by_cases z:j<vs.length;·exact g1 z
    ·have g:=g2 (by lia)
     have e:ps.getD j o1=o1:=by rw [d3,jH (by lia)];rfl
     rw [e,G3 g];exact g.weak bB⟩
   exact ⟨_,rfl,_,rfl,td,fd,q,_,2*B*B,rfl,ht.mono sc,hq,hG,by rw [yr];lia,fun c H' s' nc hc=>k c H' (sc.trans s') (none_of sc nc) hc⟩
 ·have bP:¬(vs.length:Int)<(us.length:Int):=fun z=>bP (dM z)
  dsimp only [iF];refine ⟨_,rfl,a,vs,rfl,.inl (.of ea),fun fd qw=>?_⟩;have sf:ah H (upd H fd (.lst vs)):=aC qw;have wM:upd H fd (.lst vs) fd=some (.lst vs):=aq;generalize upd H fd (.lst vs)=H0 at sf wM ⊢;refine ⟨_,rfl,b,us,rfl,.inl (.of (sf _ _ eb)),(us.length:Int),rfl,by lia,by lia,?_⟩
  rw [d_]
  refine mi (fun i σ Hc=>ah H Hc∧∃(v4:Option V) (ws:List V),σ=[some (.ref td),some (.ref a),some (.ref b),some (.ref fd),v4]∧Hc fd=some (.lst ws)∧ws.length=ps.length∧∀(j:Nat) (w:V),ws[j]?=some w→(j<i→aQ (2*B*B) Hc q w (dF q (ps.getD j o1) (rs.getD j o1)).1 (dF q (ps.getD j o1) (rs.getD j o1)).2)∧(i≤j→aQ B Hc q w (ps.getD j o1).1 (ps.getD j o1).2))
   ⟨sf,_,vs,rfl,wM,lv,fun j w hw=>⟨fun h=>by lia,fun _=>by
    have hj:j<ps.length:=by rw [←lv];exact (cG.mp hw).1
    rw [getD_at hj];exact (fv j w ps[j] hw (by simp [hj])).mono sf⟩⟩ ?_ ?_
  ·rintro i σ Hc hi ⟨sc,v4,ws,rfl,jx,gD,fC⟩
   have i1:i<ws.length:=by lia
   have i3:i<rs.length:=by lia
   have nv:=(fC i ws[i] (by simp [i1])).2 (aO _)
   have nu:=(fu i us[i] rs[i] (by simp [hi]) (by simp [i3])).mono sc
   rw [←getD_at (d:=o1) i3] at nu;refine ⟨_,rfl,_,rfl,_,rfl,fd,ws,_,ws[i],rfl,rfl,.of jx,(by show cK ws (0+(i:Int))=_;rw [Int.zero_add];exact gN (by simp [i1])),_,rfl,_,rfl,b,us,_,us[i],rfl,rfl,.of (sc _ _ eb),(by show cK us (0+(i:Int))=_;rw [Int.zero_add];exact gN (by simp [hi])),td,q,_,_,ps.getD i o1,rs.getD i o1,B,rfl,ht.mono sc,hq,nv,nu,b1,m9,fun v' H' s' hv=>?_⟩
   have lI:=s' _ _ jx;refine ⟨_,rfl,_,rfl,fd,ws,_,i,rfl,rfl,lI,(by show fk ws.length (0+(i:Int))=_;rw [Int.zero_add];unfold fk;rw [au (by lia),au (by lia),d_]),?_⟩
   have aS:∀b o,b≠fd→H' b=some o→upd H' fd (.lst (ws.set i v')) b=some o:=fun b o nb e=>by rw [bG nb];exact e
   refine ⟨gy (sc.trans s') qw,_,_,rfl,aq,by rw [uR];exact gD,fun j w hw=>?_⟩
   by_cases z:j=i
   ·subst z
    rw [nH i1] at hw;cases hw;exact ⟨fun _=>hv.aS lI aS,fun h=>by lia⟩
   ·rw [nI (by lia)] at hw
    obtain ⟨g1,g2⟩:=fC j w hw;exact ⟨fun h=>((g1 (by lia)).mono s').aS lI aS,fun h=>((g2 (by lia)).mono s').aS lI aS⟩
  ·rintro σ Hc ⟨sc,v4,ws,rfl,jx,gD,fC⟩
   have hG:aN (2*B*B) Hc q fd (gP q ps rs):=⟨ws,jx,by rw [yr];lia,fun j w p h1 h2=>by
    have hj:j<ps.length:=by rw [←gD];exact (cG.mp h1).1
    rw [G4 (by lia)] at h2
    cases h2;obtain ⟨g1,g2⟩:=fC j w h1;by_cases z:j<us.length;·exact g1 z
    ·have g:=g2 (by lia)
     have e:rs.getD j o1=o1:=by rw [d3,jH (by lia)];rfl
     rw [e,G3 g];exact g.weak bB⟩
   exact ⟨_,rfl,_,rfl,td,fd,q,_,2*B*B,rfl,ht.mono sc,hq,hG,by rw [yr];lia,fun c H' s' nc hc=>k c H' (sc.trans s') (none_of sc nc) hc⟩
def Ur:Sp:=fun vs H Q _=>∃(td a b:Addr) (q:Int) (ps rs:aF) (D:Int) (f g:Nat→Int),vs=[.ref td,.ref a,.ref b]∧dA H td q∧aD q∧aN B2 H q a ps∧aN B2 H q b rs∧ps.length≤60∧rs.length≤60∧bH q D∧D.natAbs≤B2∧(∀i j,(f i*g j).natAbs≤10 ^ 270)∧(∀i j,i<ps.length→j<rs.length→aE q ((ps.getD i o1).1*(rs.getD j o1).1,(ps.getD i o1).2*(rs.getD j o1).2) (f i*g j,D)) ∧
 ∀(c:Addr) (H':Hp),ah H H'→H c=none→aN B2 H' q c (aM (cU q ps.length rs.length f g D (ps.length+rs.length-1)))→Q (.ref c) H'
theorem Us:bI ["told","one","other","found","i","j"] ["told","one","other"] (aR zg):=b9
theorem Af(T:Txt K mg t):a8 P w K mg base bW 5 t.qb t.tE ["told","one","other"] Ur:=by
 have S:=Us;have iX:=uu (P:=P) (w:=w) (base:=base) (B:=B2) T;refine T.lB.cH S (fun _ _ _ _ H vs _ _ hr h=>?_);obtain ⟨td,a,b,q,ps,rs,D,f,g,rfl,ht,hq,hA,hB,Ut,Uu,dG,bD,hs,Uv,k⟩:=h
 refine ⟨_,(ak (vB (i0:=3) (N:=["k","told"]) (ρ:=(fun σ=>[σ[0]?.join])) (fW [0] rfl) rfl S.nd rfl (Or.inl rfl) (h_ rfl T.gB (aa (av eE (a9 cD rfl T.cq cz (aa (pv 1) af)) (a9 cD rfl T.cq cz (aa (pv 2) af))) af)) (fun _ _ _=>.nil) (fun _ _ _=>(aL iX hr T.mS T.iU.kp T.mR aG (aa (pv 1) (aa ag af)))))
  (ak (ia dR rfl (h_ rfl T.gB (aa (a9 cD rfl T.cq cz (aa (pv 1) af)) af)) (d6 (i:=4) S.nd rfl (Or.inl rfl))
   (aw (ia dR rfl (h_ rfl T.gB (aa (a9 cD rfl T.cq cz (aa (pv 2) af)) af)) (d6 (i:=5) S.nd rfl (Or.inl rfl))
   (aw (@qR _ _ _ _ _ _ (aL (Dp T) hr T.zA T.mT.kp T.zy aG (aa (pv 0) (aa (az a_ (pv 3) (av eE (pv 4) (pv 5))) (aa (aL (Dq T) hr T.zD T.mU.kp T.zC aG (aa (pv 0) (aa (az a_ (pv 1) (pv 4)) (aa (az a_ (pv 2) (pv 5)) af)))) af)))) (qQ (pv 3) (av eE (pv 4) (pv 5)) set_list) (by rfl) (by rfl) (by rfl))))))
  (aw (aV (aL (qv T) hr T.mX T.iV.kp T.mV aG (aa (pv 0) (aa (pv 3) af))))))),?_⟩
 obtain ⟨vs,ea,lv,fv⟩:=id hA;obtain ⟨us,eb,lu,fu⟩:=id hB;have uv:1000≤B2:=by decide +kernel
 obtain ⟨N,eN⟩:∃N,N=ps.length+rs.length:=⟨_,rfl⟩;have e0:dj q 0 D=cm q 0:=by
  refine o4 hq (j9 hq dG) ?_ ((j8 (T:=0) dG).trans ?_ dG)
  ·unfold cm
   refine ⟨fun z=>?_,fun z=>?_⟩;·rw [au z];exact ⟨by decide,by decide⟩
   ·rw [ar z]
    have q2:0<q:=by rcases hq with h | h <;> lia
    exact ⟨rfl,by simp,by simpa using q2⟩
  ·have:cm q 0=(0,1):=by unfold cm;split <;> simp
   rw [this];exact ⟨0,by simp⟩
 have Uw:((vs.length:Int)+(us.length:Int))=(N:Int):=by lia
 refine fY (dy (vE (xs:=(List.range N).map fun i:Nat=>V.int (0+(i:Int))) (fun R h=>⟨_,rfl,a,vs,rfl,.inl (.of ea),_,rfl,b,us,rfl,.inl (.of eb),_,_,rfl,rfl,(N:Int),fL (fun x=>[V.int x]) Uw,by lia,by lia,h _ _ (ah.refl _) (by rw [d_];exact BA)⟩) (by rw [aW,lZ];exact jd (by lia)) (fun _ j y Hx=>aQ B2 Hx q y (dj q 0 D).1 (dj q 0 D).2) (fun _ _ _ _ _ _ h1 e f=>h1.aS e f) ?_ ?_))
 ·intro Dx i v hi Hc R sc _ kc
  refine ⟨_,rfl,td,q,0,rfl,ht.mono sc,hq,bO _,uv,fun u H' s' hu=>kc u H' s' ?_⟩;rw [e0];exact hu
 intro fd ys H1 qw s1 ju hP jx;rw [aW,lZ] at ju;dsimp only [b5];refine ⟨_,rfl,a,vs,rfl,.inl (.of (s1 _ _ ea)),(vs.length:Int),rfl,by lia,by lia,?_⟩
 rw [d_]
 refine mi (fun i σ Hc=>ah H Hc∧∃(v4 v5:Option V) (ws:List V),σ=[some (.ref td),some (.ref a),some (.ref b),some (.ref fd),v4,v5]∧Hc fd=some (.lst ws)∧ws.length=N∧∀(x:Nat) (w:V),ws[x]?=some w→aQ B2 Hc q w (dj q (bL i rs.length f g x) D).1 (dj q (bL i rs.length f g x) D).2)
  ⟨s1,_,_,ys,rfl,jx,ju,fun x w hw=>hP x w hw⟩ ?_ ?_
 ·rintro i σ Hc hi ⟨sc,v4,v5,ws,rfl,ef,gD,fC⟩
  refine ⟨_,rfl,b,us,rfl,.inl (.of (sc _ _ eb)),(us.length:Int),rfl,by lia,by lia,?_⟩
  rw [d_]
  refine mi (fun j σ Hd=>ah H Hd∧∃(v5:Option V) (ws:List V),σ=[some (.ref td),some (.ref a),some (.ref b),some (.ref fd),some (.int (0+(i:Int))),v5]∧Hd fd=some (.lst ws)∧ws.length=N∧∀(x:Nat) (w:V),ws[x]?=some w→aQ B2 Hd q w (dj q (bL i rs.length f g x+cn j (f i) g i x) D).1 (dj q (bL i rs.length f g x+cn j (f i) g i x) D).2)
   ⟨sc,_,ws,rfl,ef,gD,fun x w hw=>by
    have z:=fC x w hw;have e:bL i rs.length f g x+cn 0 (f i) g i x=bL i rs.length f g x:=by show _+0=_;lia
    rw [e];exact z⟩ ?_ ?_
  ·rintro j σ Hd hj ⟨sd,v5,ws,rfl,ed,gD,fC⟩
   have i1:i<ps.length:=by lia
   have j1:j<rs.length:=by lia
   have ij:i+j<ws.length:=by lia
   have KP:(0+(i:Int))+(0+(j:Int))=((i+j:Nat):Int):=by lia
   have nA:=(fv i vs[i] ps[i] (by simp [hi]) (by simp [i1])).mono sd
   have nB:=(fu j us[j] rs[j] (by simp [hj]) (by simp [j1])).mono sd
   have nW:=fC (i+j) ws[i+j] (by simp [ij])
   have cA:=nA.canon;have cB:=nB.canon;have rW:=Uv i j i1 j1;rw [getD_at i1,getD_at j1] at rW;have KQ:=hs i j;refine ⟨_,rfl,_,rfl,_,rfl,_,rfl,_,_,rfl,rfl,fd,ws,_,ws[i+j],rfl,rfl,.of ed,(by show cK ws ((0+(i:Int))+(0+(j:Int)))=_;rw [KP];exact gN (by simp [ij])),_,rfl,_,rfl,_,rfl,a,vs,_,vs[i],rfl,rfl,.of (sd _ _ ea),(by show cK vs (0+(i:Int))=_;rw [Int.zero_add];exact gN (by simp [hi])),_,rfl,_,rfl,b,us,_,us[j],rfl,rfl,.of (sd _ _ eb),(by show cK us (0+(j:Int))=_;rw [Int.zero_add];exact gN (by simp [hj])),td,q,_,_,ps[i],rs[j],B2,rfl,ht.mono sd,hq,nA,nB,by decide +kernel,by decide +kernel,fun v' H' s' hv=>?_⟩
   have mW:aE q (mulQ q ps[i] rs[j]) (f i*g j,D):=((yv hq cA cB).2).trans rW (cA.bot.mul cB.bot);have cM:=hv.canon;have eM:mulQ q ps[i] rs[j]=dj q (f i*g j) D:=o4 hq cM (j9 hq dG) (mW.trans (j8 dG).symm dG);have bM:=yu (T:=f i*g j) hq dG uv (ai KQ (by decide +kernel)) bD
   have Ux:=hv.kZ (B':=B2) (by rw [eM];exact bM.1) (by rw [eM];exact bM.2)
   refine ⟨td,q,_,_,dj q (bL i rs.length f g (i+j)+cn j (f i) g i (i+j)) D,mulQ q ps[i] rs[j],B2,rfl,ht.mono (sd.trans s'),hq,nW.mono s',Ux,uv,by decide +kernel,fun v2 H2 s2 KR=>?_⟩
   have ui:=s2 _ _ (s' _ _ ed);have eA:=G9 hq dG (j9 (T:=bL i rs.length f g (i+j)+cn j (f i) g i (i+j)) hq dG) cM (j8 dG) mW;rw [eA] at KR;refine ⟨_,rfl,_,rfl,_,rfl,_,_,rfl,rfl,fd,ws,_,i+j,rfl,rfl,ui,(by show fk ws.length ((0+(i:Int))+(0+(j:Int)))=_;rw [KP];unfold fk;rw [au (by lia),au (by lia),d_]),?_⟩
   have aS:∀b o,b≠fd→H2 b=some o→upd H2 fd (.lst (ws.set (i+j) v2)) b=some o:=fun b o nb e=>by rw [bG nb];exact e
   refine ⟨gy (sd.trans (s'.trans s2)) qw,_,_,rfl,aq,by rw [uR];exact gD,fun x w hw=>?_⟩
   have eR:cn (j+1) (f i) g i x=cn j (f i) g i x+if i+j=x then f i*g j else 0:=by unfold cn;rw [fZ]
   by_cases zx:i+j=x
   ·subst zx
    rw [nH ij] at hw;cases hw;rw [eR,au rfl,←Int.add_assoc];have Uy:(bL i rs.length f g (i+j)).natAbs≤60*(60*10 ^ 270):=ai (P4 (M:=10 ^ 270) fun x y _ _=>hs x y) (cI (by lia) (iz _ (by lia)))
    have Uz:(cn j (f i) g i (i+j)).natAbs≤60*10 ^ 270:=by
     unfold cn;refine ai (rQ (M:=10 ^ 270) j _ fun y hy=>?_) (iz _ (by lia))
     by_cases zz:i+y=i+j;·rw [au zz];exact hs i y
     ·rw [ar zz];exact bO _
    have bT:(bL i rs.length f g (i+j)+cn j (f i) g i (i+j)+f i*g j).natAbs≤B2:=by refine ai (ai (u4 ..) (n_ (ai (u4 ..) (n_ Uy Uz)) KQ)) (by decide +kernel)
    have bb:=yu hq dG uv bT bD;exact (KR.kZ bb.1 bb.2).aS ui aS
   ·rw [nI zx] at hw
    rw [eR,ar zx,jI];exact ((fC x w hw).mono (s'.trans s2)).aS ui aS
  ·rintro σ Hd ⟨sd,v5,ws,rfl,ed,gD,fC⟩
   refine ⟨sd,_,_,ws,rfl,ed,gD,fun x w hw=>?_⟩;have e:bL (i+1) rs.length f g x=bL i rs.length f g x+cn us.length (f i) g i x:=by unfold bL;rw [fZ,lu]
   rw [e];exact fC x w hw
 ·rintro σ Hc ⟨sc,v4,v5,ws,rfl,ef,gD,fC⟩
  have hG:aN B2 Hc q fd (cU q ps.length rs.length f g D (ps.length+rs.length)):=⟨ws,ef,by unfold cU;rw [aW,lZ];lia,fun x w p x1 x2=>by
   have hx:x<ps.length+rs.length:=by rw [←eN,←gD];exact (cG.mp x1).1
   unfold cU at x2;rw [eS] at x2;simp [hx] at x2;subst x2;have z:=fC x w x1;rw [lv] at z;exact z⟩
  refine ⟨_,rfl,_,rfl,td,fd,q,_,B2,rfl,ht.mono sc,hq,hG,by unfold cU;rw [aW,lZ];lia,fun c H' s' nc hc=>k c H' (sc.trans s') (none_of sc nc) ?_⟩
  rw [P6] at hc;exact hc
theorem UA:bI ["pen","told","most","far","row"] ["pen","told","most","far"] (aR zd):=b9
theorem UB(T:Txt K mg t):a8 P w K mg base bW 4 t.pZ t.tq ["pen","told","most","far"] (Qq K):=by
 have S:=UA;refine T.ue.cH S (fun _ _ _ _ H _ _ _ hr h=>?_);obtain ⟨P0,a,td,ns,q,aS,mN,F,rfl,pc,hS,ht,hq,Ag,f1,f2,f3,f4,k⟩:=h;have iX:=uu (P:=P) (w:=w) (base:=base) (B:=F+1000) T
 refine ⟨_,(ak (vB (i0:=4) (N:=["k","pen","told","far"]) (ρ:=(fun σ=>[σ[0]?.join,σ[1]?.join,σ[3]?.join])) (fW [0,1,3] rfl) rfl S.nd rfl (Or.inl rfl) (h_ rfl T.gB (aa (aL (ur T) hr T.gA T.fg.kp T.gz aG (aa (pv 0) (aa (pv 2) af))) af)) (fun _ _ _=>.nil) (fun _ _ _=>(aL (Uj T) hr T.Jx T.ud.kp T.Jw aG (aa (pv 1) (aa (pv 2) (aa (pv 3) af))))))
  (aw (aV (av oH (pv 4) (jg (N:=["k","told"]) (ρ:=(fun σ=>[σ[1]?.join])) (fW [1] rfl) rfl (h_ rfl T.gB (aa (av Fg (aL (ur T) hr T.gA T.fg.kp T.gz aG (aa (pv 0) (aa ag af))) ag) af)) (fun _ _ _=>.nil) (fun _ _ _=>(aL iX hr T.mS T.iU.kp T.mR aG (aa (pv 1) (aa ag af))))))))),?_⟩
 refine fY (dy (GU (P:=P0) (a:=a) (N:=mN) (i6 Ag (by decide)) (fun R h=>⟨_,rfl,_,rfl,P0,a,ns,_,rfl,pc,hS,by lia,aU.of_lt (by lia) (by lia),fun r H1 r0 r1 s1 p1=>⟨r,rfl,by lia,by lia,h r.toNat H1 (by lia) s1 p1⟩⟩) (fun _ i y Hx=>∃xm:Int×Int,aQ F (er P0 Hx) q y xm.1 xm.2) (fun _ _ _ _ _ _ ⟨xm,h1⟩ e _ f=>⟨xm,h1.GZ e f⟩) ?_ ?_))
 ·intro D i hi Hc R sc ux _ nD kc
  exact ⟨_,rfl,_,rfl,_,rfl,P0,a,td,ns,q,aS,F,rfl,ux,ah.seq sc hS,ht.mono sc,hq,f1,f2,f3,f4,fun v x m H' s' p' hv=>kc v H' s' p' ⟨(x,m),hv⟩⟩
 intro D1 ys H1 Dr _ s1 p1 ju UC KS;obtain ⟨ps,ni,Z2⟩:=PJ (jr Dr KS) UC;obtain ⟨D,dG,UD,UE,UG⟩:=HM (F:=F) (by lia) ps (ni.BR (by lia))
 dsimp only [b5];refine rK (GB ⟨_,rfl,GU (P:=P0) (a:=a) (N:=10) (by decide) (fun R h=>⟨_,rfl,P0,a,ns,7,rfl,p1,ah.seq s1 hS,by decide,aU.of_lt (by decide) (by decide),fun r H2 r0 r1 s2 p2=>⟨_,_,rfl,rfl,⟨by decide,by decide⟩,r / 2,rfl,by lia,by lia,h (r / 2).toNat H2 (by lia) s2 p2⟩⟩) (fun _ i y Hx=>aQ (F+1000) (er P0 Hx) q y (cm q 0).1 (cm q 0).2) (fun _ _ _ _ _ _ h1 e _ f=>h1.GZ e f) ?_ ?_⟩)
 ·intro D i hi Hc R sc ux _ nD kc
  exact ⟨_,rfl,td,q,0,rfl,(ht.mono (s1.trans sc)).mono dO,hq,by show Int.natAbs 0≤_;lia,by lia,fun v H' s' hv=>kc v H' (aI.of s') (ux.mono s') (hv.er (H':=H') (ux.mono s'))⟩
 intro D2 zs H2 Z3 _ s2 p2 Z4 UH C5;have KU:=s2.at Dr KS;refine ⟨D1,D2,ys,zs,rfl,rfl,KU,C5,ai (show _≤20 by lia) (by decide),fun r nr=>?_⟩
 have nP:=p2.ne nr;have sr:ah H2 (upd H2 r (.lst (ys++zs))):=aC nr;have e0:cm q 0=(0,1):=by unfold cm;split <;> simp
 refine k r (ps++List.replicate zs.length (0,1)) D _ (s1.trans (s2.trans (aI.of sr))) (p2.mono sr) (none_of (s1.trans s2) (by rw [jq nP];exact nr)) (by rw [iu,iw];lia) ?_ dG (fun p hp=>?_) (ai UE (gi (by lia) (by lia))) (fun p hp=>?_) (fun kk hk=>?_)
 ·obtain ⟨Z5,e1,l1,g1⟩:=ni.mono s2
  rw [jq Dr,KU] at e1;cases e1;refine aN.cat (jr nP aq) l1 (by rw [iw]) (fun i v p h1 h2=>((g1 i v p h1 h2).mono (oX sr)).weak (by lia)) (fun i v p h1 h2=>?_)
  rw [kv] at h2
  split at h2
  ·cases h2
   have z:=UH i v h1;rw [e0] at z;exact z.mono (oX sr)
  ·cases h2
 ·rcases gG.mp hp with h | h
  ·exact UD p h
  ·rw [(qI.mp h).2]
   exact nY D
 ·rcases gG.mp hp with h | h
  ·exact .inr (ai (UG p h) (gj _ (gi (by lia) (by lia))))
  ·rw [(qI.mp h).2]
   exact .inl rfl
 ·rw [d3,gY (by lia),kv]
  split <;> rfl
theorem KW{xs:List V}{v:V}(h1:1≤xs.length)(h:xs[xs.length-1]?=some v):cK xs (-1)=some v:=by
 have ne:xs≠[]:=fun e=>by rw [e] at h1;simp at h1
 have e:xs=xs.dropLast++[v]:=by
  have g:xs.getLast ne=v:=by
   rw [List.getLast_eq_getElem];have:=xr (l:=xs) (i:=xs.length-1) (by lia)
   rw [this] at h;exact Option.some.inj h
  rw [←g];exact (List.dropLast_concat_getLast ne).symm
 rw [e];exact FL _ _
def KY(H:Hp)(q:Int)(td a c:Addr)(r:List Int)(WW R N:Nat)(m:Nat)(σ:St)(Hc:Hp):Prop:=
 ah H Hc∧∃(la:Addr) (ls:aF) (L:Nat→Int) (M:Int) (j:Nat) (v4 v5 v6:Option V),σ=[some (.ref td),some (.ref a),some (.ref c),some (.ref la),v4,v5,v6]∧m=ls.length∧H la=none∧aN (10 ^ 300) Hc q la ls∧aM ls=ls∧eO q (ae r) ls L M (WW*(2*R) ^ j)∧ls.length+j≤N
theorem UI:bI ["told","one","under","left","step","number","k"] ["told","one","under"] (aR zh):=b9
theorem KZ(T:Txt K mg t):a8 P w K mg base bW 6 t.qc t.tF ["told","one","under"] Rb:=by
 have S:=UI;have iX:=uu (P:=P) (w:=w) (base:=base) (B:=1000) T;refine T.ql.cH S (fun _ _ _ _ H _ _ _ hr h=>?_);obtain ⟨td,a,c,q,ps,gs,r,L,M,ld,WW,R,N,J,rfl,ht,hq,hA,hC,Z6,Z7,I0,G,w1,cN,Z8,NJ,big,r1,k⟩:=h;have gc:=hr.units
 refine ⟨_,(ak (putL 3 S.nd (aL (qv T) hr T.mX T.iV.kp T.mV aG (aa (pv 0) (aa (pv 1) af))))
  (ak (kK dR (a7 xQ (a9 cD rfl T.cq cz (aa (pv 3) af)) (a9 cD rfl T.cq cz (aa (pv 2) af))) (ak (putL 4 S.nd (av fH (a9 cD rfl T.cq cz (aa (pv 3) af)) (a9 cD rfl T.cq cz (aa (pv 2) af))))
  (ak (putL 5 S.nd (aL (Dq T) hr T.zD T.mU.kp T.zC aG (aa (pv 0) (aa (az a_ (pv 3) (iH iI ag)) (aa (aL iX hr T.mS T.iU.kp T.mR aG (aa (pv 0) (aa (iH iI ag) af))) af)))))
  (ak (ia dR rfl (h_ rfl T.gB (aa (a9 cD rfl T.cq cz (aa (pv 2) af)) af)) (d6 (i:=6) S.nd rfl (Or.inl rfl))
   (aw (@qR _ _ _ _ _ _ (aL (Dp T) hr T.zA T.mT.kp T.zy aG (aa (pv 0) (aa (az a_ (pv 3) (av eE (pv 4) (pv 6))) (aa (aL (Dq T) hr T.zD T.mU.kp T.zC aG (aa (pv 0) (aa (pv 5) (aa (az a_ (pv 2) (pv 6)) af)))) af)))) (qQ (pv 3) (av eE (pv 4) (pv 6)) set_list) (by rfl) (by rfl) (by rfl))))
  (aw (putL 3 S.nd (aL (qv T) hr T.mX T.iV.kp T.mV aG (aa (pv 0) (aa (pv 3) af)))))))))
  (aw (aV (pv 3))))),?_⟩
 obtain ⟨us,ec,lu,fu⟩:=id hC;have B3:(1000:Nat)≤10 ^ 300:=by decide +kernel
 refine ⟨_,rfl,_,rfl,td,a,q,ps,10 ^ 150,rfl,ht,hq,hA,by lia,fun la H1 s1 nj hL=>?_⟩
 dsimp only [b5];simp only [L2.start,d9,List.length_nil,nO,List.map_nil,List.replicate,iA,fh,df,dg];have cL:=hA.f9;refine ⟨KY H q td a c r WW R N,⟨_,s1,la,aM ps,L,M,0,_,_,_,rfl,rfl,nj,hL.weak (by decide +kernel),HH ps,⟨fun p hp=>cL p (o5 hp),fun k=>by rw [vS hq cL];exact I0.w k,I0.nM,I0.d,fun z k=>by rw [Nat.pow_zero,Nat.mul_one];exact I0.bl z k,fun z=>by rw [Nat.pow_zero,Nat.mul_one];exact I0.bm z⟩,by lia⟩,?_⟩
 clear hL I0 nj s1 cL;rintro m σ Hc ⟨sc,la,ls,L,M,j,v4,v5,v6,rfl,rfl,um,UJ,cls,I,hj⟩;obtain ⟨ws,ew,lw,fw⟩:=id UJ;refine ⟨_,rfl,la,ws,rfl,.inl (.of ew),_,rfl,c,us,rfl,.inl (.of (sc _ _ ec)),_,_,rfl,rfl,_,rfl,bQ (fun h=>?_) (fun h=>?_)⟩
 ·have h:(us.length:Int)≤(ws.length:Int):=dC h
  have lg:1≤gs.length:=by rw [G.len];exact gJ.mpr G.ne
  have jJ:j≤J:=by lia
  have hb:WW*(2*R) ^ j*(2*R)≤10 ^ 300:=by rw [lV,←d4];exact ai (gj _ (gi (by lia) (by lia))) big
  have K0:WW*(2*R) ^ j≤10 ^ 300:=ai (iC _ (by lia)) hb
  refine ⟨fun σ' H'=>∃m',m'<ls.length∧KY H q td a c r WW R N m' σ' H',fun σ' H' h=>h,?_⟩;refine ⟨_,rfl,la,ws,rfl,.inl (.of ew),_,rfl,c,us,rfl,.inl (.of (sc _ _ ec)),_,_,rfl,rfl,?_⟩;obtain ⟨st,Z9⟩:∃st:Nat,st=ls.length-gs.length:=⟨_,rfl⟩;have UK:(ws.length:Int)-(us.length:Int)=(st:Int):=by lia
  have qP:st+gs.length=ls.length:=by lia
  dsimp only [b5];rw [UK];simp only [df,dg];have w0:ws.length-1<ws.length:=by lia
  have K1:=fw (ls.length-1) ws[ws.length-1] ls[ls.length-1] (by rw [←lw];simp [w0]) (by simp)
  rw [←getD_at (d:=o1) (show ls.length-1<ls.length by lia)] at K1
  refine ⟨_,rfl,_,rfl,_,rfl,la,ws,_,ws[ws.length-1],rfl,rfl,.of ew,KW (by lia) (by simp [w0]),_,rfl,_,rfl,td,q,-1,rfl,ht.mono sc,hq,by decide,by decide,fun v1 Hd sd UL=>?_⟩
  refine ⟨td,q,_,_,ls.getD (ls.length-1) o1,cm q (-1),10 ^ 300,rfl,ht.mono (sc.trans sd),hq,K1.mono sd,UL.weak B3,B3,aO _,fun K2 He se Ah=>?_⟩;obtain ⟨UM,UN⟩:=I.minus hq (ls.length-1);have K3:=Co hq UM UN I.nM B3 (fun z=>by rw [kB];exact ai (I.bl z _) K0) (fun z=>ai (I.bm z) K0)
  have Ah:=Ah.kZ K3.1 K3.2;have Ai:=sd.trans se;dsimp only [b5];simp only [df,dg];obtain ⟨nb,wN⟩:∃nb,nb=mulQ q (ls.getD (ls.length-1) o1) (cm q (-1)):=⟨_,rfl⟩;rw [←wN] at Ah;refine ⟨_,rfl,c,us,rfl,.inl (.of ((sc.trans Ai) _ _ ec)),(us.length:Int),rfl,by lia,by lia,?_⟩
  rw [d_];have UO:=Ai _ _ ew
  refine mi (fun i σ Hf=>ah H Hf∧∃(v6:Option V) (xs:List V),σ=[some (.ref td),some (.ref a),some (.ref c),some (.ref la),some (.int (st:Int)),some K2,v6]∧Hf la=some (.lst xs)∧xs.length=ls.length∧aQ (10 ^ 300) Hf q K2 nb.1 nb.2∧∀(x:Nat) (u:V),xs[x]?=some u→aQ (10 ^ 300) Hf q u (fA q ls gs nb st i x).1 (fA q ls gs nb st i x).2)
   ⟨sc.trans Ai,_,ws,rfl,UO,lw,Ah,fun x u hu=>?_⟩ ?_ ?_
  ·have hx:x<ls.length:=by rw [←lw];exact (cG.mp hu).1
   have e:fA q ls gs nb st 0 x=ls[x]:=by unfold fA;rw [ar (by lia),getD_at hx]
   rw [e];exact (fw x u ls[x] hu (by simp [hx])).mono Ai
  ·rintro i σ Hf hi ⟨sf,v6,xs,rfl,ex,lx,K4,wO⟩
   have dX:i<gs.length:=by lia
   have sx:st+i<xs.length:=by lia
   have K5:(st:Int)+(0+(i:Int))=((st+i:Nat):Int):=by lia
   have nX:=wO (st+i) xs[st+i] (by simp [sx])
   have eX:fA q ls gs nb st i (st+i)=ls.getD (st+i) o1:=by unfold fA;rw [ar (by lia)]
   have nG:=(fu i us[i] gs[i] (by simp [hi]) (by simp [dX])).mono sf
   rw [←getD_at (d:=o1) dX] at nG;refine ⟨_,rfl,_,rfl,_,rfl,_,rfl,_,_,rfl,rfl,la,xs,_,xs[st+i],rfl,rfl,.of ex,(by show cK xs ((st:Int)+(0+(i:Int)))=_;rw [K5];exact gN (by simp [sx])),_,rfl,_,rfl,_,rfl,_,rfl,c,us,_,us[i],rfl,rfl,.of (sf _ _ ec),(by show cK us (0+(i:Int))=_;rw [Int.zero_add];exact gN (by simp [hi])),td,q,_,_,nb,gs.getD i o1,10 ^ 300,rfl,ht.mono sf,hq,K4,nG.weak (by decide +kernel),B3,aO _,fun v7 Hg sg Ds=>?_⟩
   obtain ⟨cp,wp⟩:=I.part hq G (ls.length-1) i;rw [←wN] at cp wp;have K6:¬q∣M*ld:=dN hq I.nM G.nl;have K7:q=0→(M*ld).natAbs≤10 ^ 300:=fun z=>ai (I.IA G z) hb;have bp:=Co hq cp wp K6 B3 (fun z=>by rw [bq,kB];exact ai (ai (cI (I.bl z _) (G.br z _)) (gj _ (by lia))) hb) K7
   have Ds:=Ds.kZ bp.1 bp.2;refine ⟨td,q,_,_,fA q ls gs nb st i (st+i),mulQ q nb (gs.getD i o1),10 ^ 300,rfl,ht.mono (sf.trans sg),hq,nX.mono sg,Ds,B3,aO _,fun v8 Hh sh Aj=>?_⟩;have eN:fA q ls gs nb st (i+1) (st+i)=dF q (fA q ls gs nb st i (st+i)) (mulQ q nb (gs.getD i o1)):=by rw [eX];unfold fA;rw [au (by lia),show st+i-st=i by lia]
   obtain ⟨K8,K9⟩:=I.val hq G st (i+1) ls.length (st+i);rw [←wN,au (by lia)] at K9
   rw [←wN] at K8;have b8:=Co hq K8 K9 K6 B3 (fun z=>ai (I.bound G z _ _ _) hb) K7;rw [←eN] at Aj;have Aj:=Aj.kZ b8.1 b8.2;have Ak:=sg.trans sh;have g8:=Ak _ _ ex;refine ⟨_,rfl,_,rfl,_,rfl,_,_,rfl,rfl,la,xs,_,st+i,rfl,rfl,g8,(by show fk xs.length ((st:Int)+(0+(i:Int)))=_;rw [K5];unfold fk;rw [au (by lia),au (by lia),d_]),?_⟩
   have aS:∀b o,b≠la→Hh b=some o→upd Hh la (.lst (xs.set (st+i) v8)) b=some o:=fun b o nb e=>by rw [bG nb];exact e
   refine ⟨gy (sf.trans Ak) um,_,_,rfl,aq,by rw [uR];exact lx,(K4.mono Ak).aS g8 aS,fun x u hu=>?_⟩
   by_cases z:st+i=x
   ·subst z
    rw [nH sx] at hu;cases hu;exact Aj.aS g8 aS
   ·rw [nI z] at hu
    have eo:fA q ls gs nb st (i+1) x=fA q ls gs nb st i x:=by
     unfold fA;by_cases y:st≤x∧x<st+i;·rw [au y,au (by lia)]
     ·rw [ar y,ar (by lia)]
    rw [eo];exact ((wO x u hu).mono Ak).aS g8 aS
  ·rintro σ Hf ⟨sf,v6,xs,rfl,ex,lx,_,wO⟩
   rw [lu] at wO;have hN:aN (10 ^ 300) Hf q la (f_ q ls gs st):=⟨xs,ex,by simp [f_];exact lx,fun x u p h1 h2=>by
    have hx:x<ls.length:=by rw [←lx];exact (cG.mp h1).1
    unfold f_ at h2;rw [eS] at h2;simp [hx] at h2;subst h2;have z:=wO x u h1;rw [wN] at z;exact z⟩
   obtain ⟨I2,l2⟩:=I.next hq G st qP;refine ⟨_,rfl,_,rfl,td,la,q,_,10 ^ 300,rfl,ht.mono sf,hq,hN,by simp [f_];lia,fun UP H' s' uy UQ=>?_⟩
   dsimp only [b5];simp only [df,dg];have I3:eO q (ae r) (aM (f_ q ls gs st)) (iR L (ae r) ld st ls.length) (M*ld) (WW*(2*R) ^ (j+1)):=by rw [d4,←lV];exact I2
   exact ⟨_,l2,sf.trans s',UP,_,_,_,j+1,_,_,_,rfl,rfl,none_of sf uy,UQ,HH _,I3,by lia⟩
 ·have h:¬(us.length:Int)≤(ws.length:Int):=fun z=>h (dM z)
  have e:=I.last hq G (by lia) cls
  subst e;dsimp only [iF];have UR:ws=[]:=gZ.mp lw;subst UR;exact ⟨_,rfl,k la Hc sc um ew⟩
theorem US:bI ["told","world","one","other","handed","turn","found","row","g","made","held"] ["told","world","one","other"] (aR zi):=b9
theorem K_(T:Txt K mg t):a8 P w K mg base bW 10 t.qd t.tG ["told","world","one","other"] (Ro t.bo):=by
 have S:=US;have iX:=uu (P:=P) (w:=w) (base:=base) (B:=1000) T;refine T.qm.cH S (fun _ A _ s H vs _ _ hr h=>?_);obtain ⟨td,z,a,b,q,ps,rs,D1,D2,f,g,WW,N,rfl,ht,hz,hq,hA,hB,nk,lim,k⟩:=h;have gc:=hr.units;have hu:=hr.vi
 refine ⟨_,(ak (putL 4 S.nd (b6 (aa (q_ vk rfl T.mY boot_list (aa (pv 2) af)) (aa (q_ vk rfl T.mY boot_list (aa (pv 3) af)) af))))
  (ak (ia dR rfl (h_ rfl T.gB (aa ag af)) (d6 (i:=5) S.nd rfl (Or.inl rfl))
   (ak (putL 6 S.nd (aL (TH T) hr T.IY T.tQ.kp T.IW aG (aa (pv 1) (aa (az a_ (pv 4) ag) (aa (az a_ (pv 4) ag) af)))))
  (ak (bN (PW.pt (pw_or (om (jN (a9 (je (K:=K)) rfl T.iW boot_isinstance (aa (pv 6) (aa (i7 (v:=.ty "tuple") rfl T.wm boot_tuple rfl) af))))) (pw_or1 (a7 qX (a9 cD rfl T.cq cz (aa (pv 6) af)) ag)))) (aw (aV fR)) bZ)
  (ak (ia dR rfl (xN (pv 6)) (d6 (i:=7) S.nd rfl (Or.inl rfl))
   (aw (bN (PW.pt (pw_or (om (jN (aL (Ue T) hr T.Jt T.t_.kp T.Js aG (aa (pv 0) (aa (pv 7) af))))) (pw_or1 (a7 (yl (n:=1) gc) (aL (qv T) hr T.mX T.iV.kp T.mV aG (aa (pv 0) (aa (pv 7) af))) (pv 7))))) (aw (aV fR)) bZ)))
  (ak (putL 8 S.nd (az b7 (pv 6) ag))
  (ak (putL 9 S.nd (aL (Af T) hr T.wb T.lB.kp T.wa aG (aa (pv 0) (aa (az b7 (pv 6) ag) (aa (pv 3) af)))))
  (ak (bN (a7 (yl (n:=1) gc) (aL (Uq T) hr T.JB T.uf.kp T.JA aG (aa (pv 0) (aa (aL (Af T) hr T.wb T.lB.kp T.wa aG (aa (pv 0) (aa (az b7 (pv 6) ag) (aa (pv 2) af)))) (aa (pv 9) af)))) (pv 8)) (aw (aV fR)) bZ)
  (ak (bN (PW.pt (pw_and (a7 (Qv gc) (pv 8) (b6 af)) (pw_and1 (PW.pt (pw_or (a7 (pb gc) (aL (qv T) hr T.mX T.iV.kp T.mV aG (aa (pv 0) (aa (pv 2) af))) (b6 af)) (pw_or1 (a7 (pb gc) (aL (qv T) hr T.mX T.iV.kp T.mV aG (aa (pv 0) (aa (pv 3) af))) (b6 af)))))))) (aw (aV fR)) bZ)
  (ak (bN (PW.pt (pw_and (a7 (pb gc) (pv 8) (b6 af)) (pw_and1 (a7 (OR hu) (az a_ (pv 8) (iH iI ag)) (aL iX hr T.mS T.iU.kp T.mR aG (aa (pv 0) (aa ag af))))))) (aw (aV fR)) bZ)
  (ak (bN (PW.pt (pw_and (a7 (pb gc) (pv 8) (b6 af)) (pw_and1 (a7 (pb gc) (aL (KZ T) hr T.CF T.ql.kp T.CB aG (aa (pv 0) (aa (pv 2) (aa (pv 8) af)))) (b6 af))))) (aw (aV fR)) bZ)
  (ak (bN (PW.pt (pw_and (a7 (pb gc) (pv 8) (b6 af)) (pw_and1 (a7 (pb gc) (aL (KZ T) hr T.CF T.ql.kp T.CB aG (aa (pv 0) (aa (pv 3) (aa (pv 8) af)))) (b6 af))))) (aw (aV fR)) bZ)
  (ak (vB (i0:=10) (N:=["row"]) (ρ:=(fun σ=>[])) (fW [] rfl) rfl S.nd rfl (Or.inl rfl) (xN (pv 6)) (fun _ _ _=>.nil) (fun _ _ _=>(q_ (Gz (K:=K)) rfl T.mY boot_list (aa (pv 0) af))))
  (ak (E5 (FR PySem.F.plainAttrs_list PySem.F.slot_list_append PySem.F.type_list_append rp (az b7 (pv 6) (pv 5)) (aa qM af)))
  (ak (E5 (FR PySem.F.plainAttrs_list PySem.F.slot_list_append PySem.F.type_list_append rp (az a_ (pv 10) (pv 5)) (aa qM af)))
  (aw (bN (PW.pt (pw_or (a7 (yl (n:=2) gc) (jg (N:=["row"]) (ρ:=(fun σ=>[])) (fW [] rfl) rfl (xN (pv 6)) (fun _ _ _=>.nil) (fun _ _ _=>(q_ (Gz (K:=K)) rfl T.mY boot_list (aa (pv 0) af)))) (pv 10)) (pw_or1 (a7 (yl (n:=2) gc) (pv 4) (b6 (aa (pv 2) (aa (pv 3) af))))))) (aw (aV fR)) bZ))))))))))))))))
  (aw (aV fR)))),?_⟩
 obtain ⟨xs,ea,lv,fv⟩:=id hA;refine ⟨_,rfl,a,xs,rfl,.inl (.of ea),fun h0 La=>?_⟩;have s0:ah H (upd H h0 (.lst xs)):=aC La;have hD:aN (10 ^ 150) (upd H h0 (.lst xs)) q h0 ps:=⟨xs,aq,lv,fun i v p h1 h2=>(fv i v p h1 h2).mono s0⟩;generalize upd H h0 (.lst xs)=H0 at s0 hD ⊢;obtain ⟨ys,eb,lu,fu⟩:=id (hB.mono s0);refine ⟨_,rfl,b,ys,rfl,.inl (.of eb),fun h1 Lb=>?_⟩;have s1:ah H0 (upd H0 h1 (.lst ys)):=aC Lb;have hE:aN (10 ^ 150) (upd H0 h1 (.lst ys)) q h1 rs:=⟨ys,aq,lu,fun i v p h1 h2=>(fu i v p h1 h2).mono s1⟩;generalize upd H0 h1 (.lst ys)=H1 at s1 hE ⊢;refine ⟨by show 2≤sizeLine;decide,fun hd Lc=>?_⟩
 have s2:ah H1 (upd H1 hd (.lst [.ref h0,.ref h1])):=aC Lc;have Al:upd H1 hd (.lst [.ref h0,.ref h1]) hd=some (.lst [.ref h0,.ref h1]):=aq;generalize upd H1 hd (.lst [.ref h0,.ref h1])=H2 at s2 Al ⊢;have sA:=s0.trans (s1.trans s2);have hD:=hD.mono (s1.trans s2);have hE:=hE.mono s2;have Am:=hA.mono sA;have An:=hB.mono sA;have kq:=ht.mono sA;have uz:=hz.mono sA;have Ld:B2≤10 ^ 300:=by decide +kernel
 have uv:1000≤B2:=by decide +kernel
 have nq:10 ^ 150≤B2:=by decide +kernel
 have Ut:=nk.lp;have Uu:=nk.lr;have cp:=hA.f9;have cr:=hB.f9;have w1:=nk.hW;clear ea eb fv fu lv lu La Lb Lc;have same:∀{Hx:Hp} {R:VK} {r:Bool},ah H2 Hx→(∀(l:Addr),Hx l=none→R (.bl r) (upd Hx l (.lst [.ref a,.ref b])))→∀l,Hx l=none→yk K 2 r (.ref hd) (.ref l) (upd Hx l (.lst [.ref a,.ref b])) R:=fun{Hx R r} sx kx l nl=>by
  have sl:ah Hx (upd Hx l (.lst [.ref a,.ref b])):=aC nl;have sK:=sx.trans sl;refine ⟨hd,l,_,_,rfl,rfl,.of (sK _ _ Al),.of aq,rfl,fun j x y hx hy=>?_,kx l nl⟩
  match j,hx,hy with
  | 0,hx,hy=>cases hx;cases hy;exact GV hq (hD.mono sK) (Am.mono sK) 0
  | 1,hx,hy=>cases hx;cases hy;exact GV hq (hE.mono sK) (An.mono sK) 0
  | j+2,hx,hy=>cases hx
 refine ⟨2,rfl,by decide,by decide,?_⟩
 refine mi (fun i σ Hc=>∃(v5 v6 v7 v8 v9 v10:Option V),σ=[some (.ref td),some (.ref z),some (.ref a),some (.ref b),some (.ref hd),v5,v6,v7,v8,v9,v10]∧ah H2 Hc) ⟨_,_,_,_,_,_,rfl,ah.refl _⟩ ?_ ?_
 ·rintro i σ Hc hi ⟨v5,v6,v7,v8,v9,v10,rfl,sc⟩
  refine ⟨_,rfl,_,rfl,hd,_,_,_,rfl,rfl,.of (sc _ _ Al),rfl,_,rfl,hd,_,_,_,rfl,rfl,.of (sc _ _ Al),rfl,z,h0,h1,q,ps,rs,D1,D2,f,g,WW,N,rfl,uz.mono sc,hq,hD.mono sc,hE.mono sc,nk,fun fp l0 l1 l2 gs us vs ts ws r u v b1 b2 ld Hf sf wQ wq nj uy Le UT UU hG hU hV cg cu cv UW Aa vQ br bu bv bt bw m5 uo Ac CD=>?_⟩;have sF:=sc.trans sf;have wq:=none_of sc wq;have nj:=none_of sc nj;have uy:=none_of sc uy;dsimp only [b5];simp only [df,dg];refine ⟨_,rfl,_,_,_,true,rfl,rfl,.of (.tup wQ),vx,true,rfl,dD ⟨_,rfl,fp,_,rfl,.inr (.of wQ),rfl,false,by rw [rB];rfl,dD ?_⟩⟩
  have rows:∀(j:Nat) (x:V),([.ref l0,.ref l1,.ref l2]:List V)[j]?=some x→∃(l:Addr) (qx:aF),x=.ref l∧aN B2 Hf q l qx∧aM qx=qx∧qx.length≤50:=fun j x hx=>by
   match j,hx with
   | 0,hx=>cases hx;exact ⟨l0,gs,rfl,hG,cg,UW⟩
   | 1,hx=>cases hx;exact ⟨l1,us,rfl,hU,cu,Aa⟩
   | 2,hx=>cases hx;exact ⟨l2,vs,rfl,hV,cv,vQ⟩
   | j+3,hx=>cases hx
  refine ⟨_,rfl,fp,rfl,⟨_,.of wQ⟩,?_⟩;refine Fe (K:=K) (a:=fp) (xs:=[.ref l0,.ref l1,.ref l2]) (fun k σ Hx=>∃v7:Option V,σ=[some (.ref td),some (.ref z),some (.ref a),some (.ref b),some (.ref hd),some (.int (0+(i:Int))),some (.ref fp),v7,v8,v9,v10]∧ah Hf Hx) ⟨_,rfl,ah.refl _⟩ (fun k σ Hx _ ⟨_,_,sx⟩=>.of (sx _ _ wQ)) ?_ ?_
  ·rintro j x σ Hx hx ⟨v7,rfl,sx⟩
   obtain ⟨l,qx,rfl,hP,cP,lP⟩:=rows j x hx;have sX:=sF.trans sx;dsimp only [b5];simp only [df,dg];refine ⟨_,rfl,_,rfl,td,l,q,qx,B2,rfl,kq.mono sX,hq,hP.mono sx,by lia,Ld,fun Hg sg=>⟨true,rfl,dD ?_⟩⟩
   refine ⟨_,rfl,_,rfl,td,l,q,qx,B2,rfl,kq.mono (sX.trans sg),hq,hP.mono (sx.trans sg),by lia,fun c1 Hj sj Dt iY=>?_⟩
   rw [cP] at iY;refine ⟨_,rfl,GW hq iY (hP.mono (sx.trans (sg.trans sj))) ⟨false,rfl,dD ?_⟩⟩;exact ⟨_,rfl,sx.trans (sg.trans sj)⟩
  ·rintro σ Hx ⟨v7,rfl,sx⟩
   have sX:=sF.trans sx;have uA:=sx _ _ wQ;have hG:=hG.mono sx;have hU:=hU.mono sx;have hV:=hV.mono sx;clear rows;refine ⟨_,rfl,fp,_,_,_,rfl,rfl,.of uA,rfl,?_⟩;dsimp only [b5];simp only [df,dg];have Du:=hG.f9;have UX:=hU.f9;have UY:=hV.f9;have hg:∀k,aE q (gs.getD k o1) (ae r k,ld):=fun k=>by
    by_cases hk:k<gs.length
    ·have:=CD.hg k hk
     rw [eQ] at this;exact this
    ·rw [cX (by lia),dn (by have:=CD.lg;lia)]
     exact yz
   have zL:Bz WW (2*N-2)*WW≤10 ^ 270:=lim.prod;have Lg:∀{us ts:List Int},(∀x∈us,x.natAbs≤Bz WW (2*N-2))→(∀x∈ts,x.natAbs≤WW)→∀i j,(ae us i*ae ts j).natAbs≤10 ^ 270:=fun h1 h2 i j=>by rw [bq];exact ai (cI (kf h1 i) (kf h2 j)) zL
   obtain ⟨s,D,dG,bD,hs,Lh⟩:∃s D:Int,bH q D∧D.natAbs≤B2∧(q=0→(s=1∨s=-1)∧D=s*ld)∧(q≠0→D=1):=by
    by_cases zq:q=0
    ·have wF:ld≠0:=fun e=>CD.nl (by rw [e];exact fM q)
     have bl:ld.natAbs≤B2:=ai Ac (ai (iC _ (by lia)) (ai zL (by decide +kernel)))
     by_cases h:0<ld;·exact ⟨1,ld,⟨fun _=>h,fun y=>absurd zq y⟩,bl,fun _=>⟨.inl rfl,by lia⟩,fun y=>absurd zq y⟩
     ·exact ⟨-1,-ld,⟨fun _=>by lia,fun y=>absurd zq y⟩,by rw [kB];exact bl,fun _=>⟨.inr rfl,by lia⟩,fun y=>absurd zq y⟩
    ·exact ⟨1,1,bH.one,by decide +kernel,fun y=>absurd y zq,fun _=>rfl⟩
   obtain ⟨F1,G1,A1⟩:=ID hq UX cp CD.k1 CD.p1 CD.hu CD.lu hs Lh (fun _=>Lg bu bt);obtain ⟨F2,G2,A2⟩:=ID hq UY cr CD.k2 CD.p2 CD.hv CD.lv hs Lh (fun _=>Lg bv bw);have Dv:=Rk hq A1 A2 dG CD.bz Du hg CD.nl;rw [cg] at Dv;refine ⟨_,rfl,_,rfl,fp,_,_,_,rfl,rfl,.of uA,rfl,_,rfl,td,l2,b,q,vs,rs,D,F2,G2,rfl,kq.mono sX,hq,hV,(An.mono sX).weak nq,by lia,by lia,dG,bD,A2.bd,A2.w,fun c2 Hm sm C6 nC=>?_⟩
   dsimp only [b5];simp only [df,dg];have CZ:(cU q us.length ps.length F1 G1 D (us.length+ps.length-1)).length=us.length+ps.length-1:=by simp [cU]
   have UZ:(cU q vs.length rs.length F2 G2 D (vs.length+rs.length-1)).length=vs.length+rs.length-1:=by simp [cU]
   have U0:=vI (cU q us.length ps.length F1 G1 D (us.length+ps.length-1));have U1:=vI (cU q vs.length rs.length F2 G2 D (vs.length+rs.length-1));refine fY (rY (fun H'=>ah Hm H') (fun Q' gE=>?_) fun Hu sp=>?_)
   ·refine ⟨_,rfl,_,rfl,_,rfl,fp,_,_,_,rfl,rfl,.of (sm _ _ uA),rfl,_,rfl,td,l1,a,q,us,ps,D,F1,G1,rfl,kq.mono (sX.trans sm),hq,hU.mono sm,(Am.mono (sX.trans sm)).weak nq,by lia,by lia,dG,bD,A1.bd,A1.w,fun c1 Hn sn Dt iY=>?_⟩
    refine ⟨_,rfl,td,c1,c2,q,_,_,B2,rfl,kq.mono (sX.trans (sm.trans sn)),hq,iY,nC.mono sn,uv,Ld,by lia,by lia,fun c3 Ho so Sy Li=>?_⟩
    rw [Dv] at Li;exact ⟨_,rfl,GW hq Li (hG.mono (sm.trans (sn.trans so))) ⟨false,rfl,gE _ (sn.trans so)⟩⟩
   dsimp only [iF];clear A1 A2 Dv CZ UZ U0 U1 nC;have sX:=sX.trans (sm.trans sp);have uA:=(sm.trans sp) _ _ uA;have hG:=hG.mono (sm.trans sp);have hU:=hU.mono (sm.trans sp);have hV:=hV.mono (sm.trans sp);have nE:=sx.trans (sm.trans sp);clear sm sp;obtain ⟨gw,iZ,Ao,wR⟩:=id hG;have Lj:gw.isEmpty=true→gs=[]:=fun e=>gZ.mp (by rw [←Ao,List.isEmpty_iff.mp e];rfl)
   have Dw:∀{qs:aF} {Hx:Hp} {B:Nat} {c:Addr},aM qs=[]→aN B Hx q c (aM qs)→∃w:List V,Hx c=some (.lst w)∧w=[]:=fun e h=>by obtain ⟨w,e1,e2,_⟩:=h;rw [e] at e2;exact ⟨w,e1,gZ.mp e2⟩
   refine fY (rY (fun H'=>ah Hu H') (fun Q' gE=>?_) fun Lk uB=>?_)
   ·refine ⟨_,rfl,by show 0≤sizeLine;decide,fun l nl=>?_⟩
    have sl:=aC (o:=.lst []) nl;refine ⟨l0,l,gw,rfl,rfl,.of (sl _ _ iZ),aq,_,rfl,bQ (fun h=>?_) (fun h=>?_)⟩
    ·have e:=Lj h
     obtain ⟨e1,e2,_,_⟩:=CD.nil e;refine ⟨_,rfl,_,rfl,td,a,q,ps,10 ^ 150,rfl,kq.mono (sX.trans sl),hq,Am.mono (sX.trans sl),by lia,fun c4 Hj sj SE U2=>?_⟩
     obtain ⟨w4,U3,rfl⟩:=Dw e1 U2;refine ⟨by show 0≤sizeLine;decide,fun l5 wU=>?_⟩
     have nF:=aC (o:=.lst []) wU;refine ⟨c4,l5,[],rfl,rfl,.of (nF _ _ U3),aq,false,rfl,dD ?_⟩;have s5:=sl.trans (sj.trans nF);refine ⟨_,rfl,_,rfl,td,b,q,rs,10 ^ 150,rfl,kq.mono (sX.trans s5),hq,An.mono (sX.trans s5),by lia,fun c6 Hk sk Z_ U4=>?_⟩
     obtain ⟨w6,U5,rfl⟩:=Dw e2 U4;refine ⟨by show 0≤sizeLine;decide,fun l7 U6=>?_⟩
     have Ll:=aC (o:=.lst []) U6;exact ⟨c6,l7,[],rfl,rfl,.of (Ll _ _ U5),aq,false,rfl,gE _ (s5.trans (sk.trans Ll))⟩
    ·exact gE _ sl
   dsimp only [iF];have sX:=sX.trans uB;have nE:=nE.trans uB;have iZ:=uB _ _ iZ;have lead:gw.isEmpty=false→∃v,gw[gw.length-1]?=some v∧1≤gw.length∧aQ B2 Lk q v (cm q 1).1 (cm q 1).2:=fun e=>by
    have g1:1≤gw.length:=by
     cases gw with
     | nil=>cases e
     | cons _ _=>simp
    have g2:gs.length-1<gs.length:=by lia
    have g3:gw.length-1<gw.length:=by lia
    refine ⟨gw[gw.length-1],by simp [g3],g1,?_⟩
    have n1:=(wR (gs.length-1) gw[gw.length-1] gs[gs.length-1] (by rw [←Ao];simp [g3]) (by simp [g2])).mono uB
    rw [←getD_at (d:=o1) g2] at n1;have w:=hg (gs.length-1);have lg:=CD.lg;have rn:r≠[]:=fun e=>by
     have:gs.length=0:=by rw [lg,e];rfl
     lia
    rw [show gs.length-1=r.length-1 by lia,←CD.lead rn,show r.length-1=gs.length-1 by lia] at w
    have o:=Rh hq;have e1:gs.getD (gs.length-1) o1=cm q 1:=by refine o4 hq (dY hq Du _) o.1 ?_;refine aE.trans (t:=((1:Int),(1:Int))) ?_ o.2.symm bH.one;refine BZ hq CD.nl ?_;obtain ⟨x,ex⟩:=w;dsimp only at ex ⊢;exact ⟨x,by rw [←ex];grind⟩
    rw [e1] at n1;exact n1
   refine fY (rY (fun H'=>ah Lk H') (fun Q' gE=>?_) fun U7 wV=>?_)
   ·refine ⟨_,rfl,by show 0≤sizeLine;decide,fun l nl=>?_⟩
    have sl:=aC (o:=.lst []) nl;refine ⟨l0,l,gw,rfl,rfl,.of (sl _ _ iZ),aq,_,rfl,bQ (fun h=>?_) (fun h=>?_)⟩
    ·obtain ⟨v,ev,g1,n1⟩:=lead (by simpa using h)
     refine ⟨_,rfl,_,rfl,l0,gw,_,v,rfl,rfl,.of (sl _ _ iZ),KW g1 ev,_,rfl,td,q,1,rfl,kq.mono (sX.trans sl),hq,by decide,by decide,fun v9 Hj sj U8=>?_⟩
     exact Ri (n1.mono (sl.trans sj)) U8 ⟨false,rfl,gE _ (sl.trans sj)⟩
    ·exact gE _ sl
   clear lead;dsimp only [iF];have sX:=sX.trans wV;have nE:=nE.trans wV;have hG:=hG.mono (uB.trans wV);have iZ:=wV _ _ iZ;have GL:(!gw.isEmpty)=true→gS q gs r ld (Bz WW (2*N-2*r.length)):=fun e=>by
    have lg:=CD.lg;have rn:r≠[]:=fun y=>by
     rw [y] at lg;have:gw=[]:=gZ.mp (by rw [Ao,lg];rfl)
     rw [this] at e;cases e
    exact Rl hg Du lg CD.nl rn (CD.lead rn) CD.tr br
   refine fY (rY (fun H'=>ah U7 H') (fun Q' gE=>?_) fun U9 wW=>?_)
   ·refine ⟨_,rfl,by show 0≤sizeLine;decide,fun l nl=>?_⟩
    have sl:=aC (o:=.lst []) nl;refine ⟨l0,l,gw,rfl,rfl,.of (sl _ _ iZ),aq,_,rfl,bQ (fun h=>?_) (fun h=>?_)⟩
    ·obtain ⟨r',vZ,R',J',I1,Dy,NJ,big,r1⟩:=IF hq CD.k1 cp CD.p1 CD.d1 bt m5 (GL h) lim (by lia)
     refine ⟨_,rfl,_,rfl,_,rfl,td,a,l0,q,ps,gs,r',ae ts,b1,vZ,WW,R',N,J',rfl,kq.mono (sX.trans sl),hq,Am.mono (sX.trans sl),hG.mono sl,by lia,by lia,I1,Dy,w1,nk.c1,by have:=nk.n5;lia,NJ,big,r1,fun d Hj sj nd ed=>?_⟩
     refine ⟨by show 0≤sizeLine;decide,fun l5 wU=>?_⟩
     have nF:=aC (o:=.lst []) wU;exact ⟨d,l5,[],rfl,rfl,.of (nF _ _ ed),aq,false,rfl,gE _ (sl.trans (sj.trans nF))⟩
    ·exact gE _ sl
   dsimp only [iF];have sX:=sX.trans wW;have nE:=nE.trans wW;have hG:=hG.mono wW;have iZ:=wW _ _ iZ;refine fY (rY (fun H'=>ah U9 H') (fun Q' gE=>?_) fun lJ wX=>?_)
   ·refine ⟨_,rfl,by show 0≤sizeLine;decide,fun l nl=>?_⟩
    have sl:=aC (o:=.lst []) nl;refine ⟨l0,l,gw,rfl,rfl,.of (sl _ _ iZ),aq,_,rfl,bQ (fun h=>?_) (fun h=>?_)⟩
    ·obtain ⟨r',vZ,R',J',I1,Dy,NJ,big,r1⟩:=IF hq CD.k2 cr CD.p2 CD.d2 bw uo (GL h) lim (by lia)
     refine ⟨_,rfl,_,rfl,_,rfl,td,b,l0,q,rs,gs,r',ae ws,b2,vZ,WW,R',N,J',rfl,kq.mono (sX.trans sl),hq,An.mono (sX.trans sl),hG.mono sl,by lia,by lia,I1,Dy,w1,nk.c2,by have:=nk.n5;lia,NJ,big,r1,fun d Hj sj nd ed=>?_⟩
     refine ⟨by show 0≤sizeLine;decide,fun l5 wU=>?_⟩
     have nF:=aC (o:=.lst []) wU;exact ⟨d,l5,[],rfl,rfl,.of (nF _ _ ed),aq,false,rfl,gE _ (sl.trans (sj.trans nF))⟩
    ·exact gE _ sl
   clear GL Dw Lj;dsimp only [iF];have sX:=sX.trans wX;have nE:=nE.trans wX;have qt:=uB.trans (wV.trans (wW.trans wX));have hG:=hG.mono wX;have hU:=hU.mono qt;have hV:=hV.mono qt;have Dz:=qt _ _ uA;have e0:=wX _ _ iZ;obtain ⟨uw,e1,U_,Ln⟩:=id hU;obtain ⟨vw,e2,Va,Lo⟩:=id hV;have wR:=fun i v p h1 h2=>(wR i v p h1 h2).mono qt;have nums:∀{us:aF} {ws:List V},ws.length=us.length→(∀(i:Nat) (v:V) (p:Int×Int),ws[i]?=some v→us[i]?=some p→aQ B2 lJ q v p.1 p.2)→∀v∈ws,v=.aH∨∃p:Int×Int,aQ B2 lJ q v p.1 p.2:=fun l f v hv=>by obtain ⟨i,hi,rfl⟩:=lW hv;exact .inr ⟨_,f i _ _ (by simp [hi]) (xr (l▸hi))⟩
   have DA:=nums Ao wR;have DB:=nums U_ Ln;have DC:=nums Va Lo;clear nums wR Ln Lo hG hU hV;have small:∀w:List V,w.length≤50→w.length+1<sizeLine:=fun w h=>jd (by lia)
   refine fY (dy (HQ (n:=3) (xs:=[.ref l0,.ref l1,.ref l2]) rfl (fun R h=>⟨_,rfl,fp,rfl,⟨_,.of Dz⟩,h _ _ (ah.refl _) (IC Dz)⟩) (by show 3<sizeLine;decide) (fun _ i y Hx=>lJ y=none∧Hx y=some (.lst ([gw,uw,vw].getD i []))) (fun D i y Ha Hb ys ⟨h1,h2⟩ ne e f=>⟨h1,f _ _ ne h2⟩) ?_ ?_))
   ·intro D j x hx wY R kr ⟨ys,eD⟩ kc
    match j,hx with
    | 0,hx=>cases hx;exact ⟨_,rfl,l0,gw,rfl,.inl (.of (kr _ _ e0)),fun p np=>kc p _ (aC np) np ⟨_,aq⟩ ⟨none_of kr np,aq⟩⟩
    | 1,hx=>cases hx;exact ⟨_,rfl,l1,uw,rfl,.inl (.of (kr _ _ e1)),fun p np=>kc p _ (aC np) np ⟨_,aq⟩ ⟨none_of kr np,aq⟩⟩
    | 2,hx=>cases hx;exact ⟨_,rfl,l2,vw,rfl,.inl (.of (kr _ _ e2)),fun p np=>kc p _ (aC np) np ⟨_,aq⟩ ⟨none_of kr np,aq⟩⟩
    | j+3,hx=>cases hx
   intro D A Hc nD uC inj hA eD;dsimp only [b5];simp only [df,dg];have DD:Hc D=some (.lst [.ref (A 0),.ref (A 1),.ref (A 2)]):=eD;have a0:=hA 0 (by decide)
   have a1:=hA 1 (by decide)
   have a2:=hA 2 (by decide)
   have f0:Hc (A 0)=some (.lst gw):=a0.1.2;have f1:Hc (A 1)=some (.lst uw):=a1.1.2;have f2:Hc (A 2)=some (.lst vw):=a2.1.2;have DE:A 0≠A 1:=fun e=>by have:=inj 0 1 (by decide) (by decide) e;lia
   have Lp:A 0≠A 2:=fun e=>by have:=inj 0 2 (by decide) (by decide) e;lia
   have Lq:A 1≠A 2:=fun e=>by have:=inj 1 2 (by decide) (by decide) e;lia
   have g0:=uC _ _ e0;have g1:=uC _ _ e1;have g2:=uC _ _ e2;have gf:=uC _ _ Dz;have lA:∀{j:Nat} {x:Addr} {w:List V},lJ (A j)=none→lJ x=some (.lst w)→A j≠x:=fun h1 h2 e=>by rw [e,h2] at h1;cases h1
   have fl:∀{x:Addr} {w:List V},Hc x=some (.lst w)→fp≠x:=fun h1 e=>by rw [←e,gf] at h1;cases h1
   have Vb:=sX.trans uC;have nA:∀j,j<3→H2 (A j)=none:=fun j hj=>none_of sX (hA j hj).1.1;have D0:lJ D=none:=nD;have lD:∀{x:Addr} {w:List V},lJ x=some (.lst w)→x≠D:=fun h1 e=>by rw [e,D0] at h1;cases h1
   obtain ⟨lt,am,wt,W,q1,q2,q3,q4,q5,q6,q7,q8,q9,Vc,qy⟩:∃(lt am:Addr) (wt:List V) (W:Nat→List V),cK [V.ref l0,.ref l1,.ref l2] (0+(i:Int))=some (.ref lt)∧cK [V.ref (A 0),.ref (A 1),.ref (A 2)] (0+(i:Int))=some (.ref am)∧Hc lt=some (.lst wt)∧Hc am=some (.lst wt)∧wt.length≤50∧H2 lt=none∧H2 am=none∧am≠lt∧D≠lt ∧
     (∀He:Hp,(∀b o,b≠lt→b≠am→Hc b=some o→He b=some o)→He lt=some (.lst (wt++[.aH]))→He am=some (.lst (wt++[.aH]))→He fp=some (.tup [.ref l0,.ref l1,.ref l2])∧He D=some (.lst [.ref (A 0),.ref (A 1),.ref (A 2)])∧(He l0=some (.lst (W 0))∧He l1=some (.lst (W 1))∧He l2=some (.lst (W 2)))∧He (A 0)=some (.lst (W 0))∧He (A 1)=some (.lst (W 1))∧He (A 2)=some (.lst (W 2))) ∧
     (∀j,j<3→∀v∈W j,v=.aH∨∃p:Int×Int,aQ B2 Hc q v p.1 p.2):=by
    have up:∀{w:List V},(∀v∈w,v=.aH∨∃p:Int×Int,aQ B2 lJ q v p.1 p.2)→∀v∈w,v=.aH∨∃p:Int×Int,aQ B2 Hc q v p.1 p.2:=fun h v hv=>(h v hv).imp id fun⟨p,n⟩=>⟨p,n.mono uC⟩;have up1:∀{w:List V},(∀v∈w,v=.aH∨∃p:Int×Int,aQ B2 lJ q v p.1 p.2)→∀v∈w++[.aH],v=.aH∨∃p:Int×Int,aQ B2 Hc q v p.1 p.2:=fun h v hv=>by
     rcases gG.mp hv with y | y;·exact up h v y
     ·exact .inl (ky.mp y)
    rcases (show i=0∨i=1 by lia) with rfl | rfl
    ·refine ⟨l0,A 0,gw,fun j=>if j=0 then gw++[V.aH] else if j=1 then uw else vw,rfl,rfl,g0,f0,by lia,wq,nA 0 (by decide),lA a0.1.1 e0,Ne.symm (lD e0),fun He k1 k2 k3=>⟨k1 _ _ (fl g0) (fl f0) gf,k1 _ _ (Ne.symm (lD e0)) (Ne.symm a0.2) DD,⟨k2,k1 _ _ (Ne.symm Le) (Ne.symm (lA a0.1.1 e1)) g1,k1 _ _ (Ne.symm UT) (Ne.symm (lA a0.1.1 e2)) g2⟩,k3,k1 _ _ (lA a1.1.1 e0) (Ne.symm DE) f1,k1 _ _ (lA a2.1.1 e0) (Ne.symm Lp) f2⟩,fun j hj v hv=>?_⟩
     match j,hj,hv with
     | 0,_,hv=>exact up1 DA v hv
     | 1,_,hv=>exact up DB v hv
     | 2,_,hv=>exact up DC v hv
    ·refine ⟨l1,A 1,uw,fun j=>if j=1 then uw++[V.aH] else if j=0 then gw else vw,rfl,rfl,g1,f1,by lia,nj,nA 1 (by decide),lA a1.1.1 e1,Ne.symm (lD e1),fun He k1 k2 k3=>⟨k1 _ _ (fl g1) (fl f1) gf,k1 _ _ (Ne.symm (lD e1)) (Ne.symm a1.2) DD,⟨k1 _ _ Le (Ne.symm (lA a1.1.1 e0)) g0,k2,k1 _ _ (Ne.symm UU) (Ne.symm (lA a1.1.1 e2)) g2⟩,k1 _ _ (lA a0.1.1 e1) DE f0,k3,k1 _ _ (lA a2.1.1 e1) (Ne.symm Lq) f2⟩,fun j hj v hv=>?_⟩
     match j,hj,hv with
     | 0,_,hv=>exact up DA v hv
     | 1,_,hv=>exact up1 DB v hv
     | 2,_,hv=>exact up DC v hv
   have npl:fp≠lt:=fl q3;clear DA DB DC DE Lp Lq lA fl nA lD D0 f0 f1 f2 g0 g1 g2 a0 a1 a2 inj hA e0 e1 e2 eD;refine ⟨_,rfl,_,rfl,fp,_,_,_,rfl,rfl,.of gf,q1,.inl ⟨rfl,_,.of q3⟩,lt,wt,_,rfl,rfl,q3,jd (by lia),?_⟩
   have s6:ah H2 (upd Hc lt (.lst (wt++[.aH]))):=gy Vb q6;have k6:∀b o,b≠lt→Hc b=some o→upd Hc lt (.lst (wt++[.aH])) b=some o:=fun b o nb e=>by rw [bG nb];exact e
   have e6:upd Hc lt (.lst (wt++[.aH])) lt=some (.lst (wt++[.aH])):=aq;have qy:∀j,j<3→∀v∈W j,v=.aH∨∃p:Int×Int,aQ B2 (upd Hc lt (.lst (wt++[.aH]))) q v p.1 p.2:=fun j hj v hv=>(qy j hj v hv).imp id fun⟨p,n⟩=>⟨p,n.aS q3 k6⟩;generalize upd Hc lt (.lst (wt++[.aH]))=Hd at s6 k6 e6 qy ⊢;have DF:=k6 _ _ q8 q4;refine ⟨_,rfl,_,rfl,D,_,_,_,rfl,rfl,.of (k6 _ _ q9 DD),q2,.inl ⟨rfl,_,.of DF⟩,am,wt,_,rfl,rfl,DF,jd (by lia),?_⟩
   have s7:ah H2 (upd Hd am (.lst (wt++[.aH]))):=gy s6 q7;have k7:∀b o,b≠am→Hd b=some o→upd Hd am (.lst (wt++[.aH])) b=some o:=fun b o nb e=>by rw [bG nb];exact e
   obtain ⟨DG,Lr,⟨z0,z1,z2⟩,y0,y1,y2⟩:=Vc (upd Hd am (.lst (wt++[.aH]))) (fun b o n1 n2 e=>k7 _ _ n2 (k6 _ _ n1 e)) (k7 _ _ (Ne.symm q8) e6) aq;have qy:∀j,j<3→∀v∈W j,v=.aH∨∃p:Int×Int,aQ B2 (upd Hd am (.lst (wt++[.aH]))) q v p.1 p.2:=fun j hj v hv=>(qy j hj v hv).imp id fun⟨p,n⟩=>⟨p,n.aS DF k7⟩;generalize upd Hd am (.lst (wt++[.aH]))=He at s7 DG Lr z0 z1 z2 y0 y1 y2 qy ⊢;dsimp only;refine rY (fun H'=>ah He H') (fun Q' gE=>?_) fun Hp5 Vd=>⟨_,_,_,_,_,_,rfl,s7.trans Vd⟩;refine Rg (Rf (HQ (n:=3) (xs:=[.ref l0,.ref l1,.ref l2]) rfl (fun R h=>⟨_,rfl,fp,rfl,⟨_,.of DG⟩,h _ _ (ah.refl _) (IC DG)⟩) (by show 3<sizeLine;decide) (fun _ i y Hx=>Hx y=some (.lst (W i))) (fun D i y Ha Hb ys h2 ne e f=>f _ _ ne h2) ?_ ?_))
   ·intro D j x hx wY R kr ⟨ys,eD⟩ kc
    match j,hx with
    | 0,hx=>cases hx;exact ⟨_,rfl,l0,_,rfl,.inl (.of (kr _ _ z0)),fun p np=>kc p _ (aC np) np ⟨_,aq⟩ aq⟩
    | 1,hx=>cases hx;exact ⟨_,rfl,l1,_,rfl,.inl (.of (kr _ _ z1)),fun p np=>kc p _ (aC np) np ⟨_,aq⟩ aq⟩
    | 2,hx=>cases hx;exact ⟨_,rfl,l2,_,rfl,.inl (.of (kr _ _ z2)),fun p np=>kc p _ (aC np) np ⟨_,aq⟩ aq⟩
    | j+3,hx=>cases hx
   intro Ap A' Aq nD' qz aad DH Ve;have Vf:Aq Ap=some (.lst [.ref (A' 0),.ref (A' 1),.ref (A' 2)]):=Ve;have DI:∀j,j<3→∀{x y:Addr},Aq x=some (.lst (W j))→Aq y=some (.lst (W j))→rJ K Aq 2 (.ref x) (.ref y):=fun j hj x y ex ey=>.inr ⟨x,y,_,_,rfl,rfl,.inl ⟨.of ex,.of ey⟩,rfl,fun m v u hv hu=>by
    rw [hv] at hu;cases hu;rcases qy j hj v (uQ hv) with rfl | ⟨p,n⟩;·exact .inl ⟨rfl,rfl⟩
    ·have n:=n.mono qz
     exact BK (n.rE hq) (n.rE hq) rfl 0⟩
   refine ⟨_,rfl,Ap,D,_,_,rfl,rfl,.of Vf,.of (qz _ _ Lr),rfl,fun m v u hv hu=>?_,false,rfl,dD ?_⟩
   ·match m,hv,hu with
    | 0,hv,hu=>cases hv;cases hu;exact DI 0 (by decide) (DH 0 (by decide)).1 (qz _ _ y0)
    | 1,hv,hu=>cases hv;cases hu;exact DI 1 (by decide) (DH 1 (by decide)).1 (qz _ _ y1)
    | 2,hv,hu=>cases hv;cases hu;exact DI 2 (by decide) (DH 2 (by decide)).1 (qz _ _ y2)
    | m+3,hv,hu=>cases hv
   ·refine ⟨_,rfl,_,rfl,_,rfl,by show 2≤sizeLine;decide,same (s7.trans qz) fun l nl=>⟨false,rfl,gE _ (qz.trans (aC nl))⟩⟩
 ·rintro σ Hc ⟨v5,v6,v7,v8,v9,v10,rfl,sc⟩
  exact k _ (sA.trans sc)
theorem Vg(q:Int):(jt q).prime=if q=0 then .aH else .int q:=by
 unfold jt
 split <;> rfl
variable {H:Hp} {q:Int} {ps:aF}
theorem aN.er{c P a:Addr}(h:aN B H q c ps)(p:cO H P a)(n:c≠P):aN B (My.er P H) q c ps:=by obtain ⟨vs,e,l,f⟩:=h;exact ⟨vs,jr n e,l,fun i v x h1 h2=>(f i v x h1 h2).er (H':=H) p⟩
theorem Vh(q:Int):cm q 0=o1:=by
 unfold cm
 split
 ·rfl
 ·rw [Int.zero_emod];rfl
def jy(P:Addr)(H:Hp)(q:Int)(a:Addr)(W N:Nat)(ps:aF):Prop:=aN (10 ^ 150) (My.er P H) q a ps∧RowC q ps W N
theorem jy.mono{P:Addr}{H':Hp}{a:Addr}{W N:Nat}(h:jy P H q a W N ps)(s:aI P H H'):jy P H' q a W N ps:=⟨aN.mono h.1 s,h.2⟩
def Vi(P:Addr)(H:Hp)(q:Int)(a D:Addr)(X Y L:Nat):Prop:=a≠D∧∃(ps:aF) (E:Int) (f:Nat→Int),aN (10 ^ 150) (My.er P H) q a ps∧RowW q ps E f X Y L∧ps.length≤20
theorem Vj:bI ["script","pen","k","told","world","wide","rows","way","one","other"] ["script"] (aR zj):=b9
theorem Vk(T:Txt K mg t):a8 P w K mg base bW 11 t.mM t.qe ["script"] (ye K):=by
 have S:=Vj;have iX:=uu (P:=P) (w:=w) (base:=base) (B:=10 ^ 150) T;have Vl:=RU (P:=P) (w:=w) (base:=base) T;refine T.ug.cH S (fun _ _ _ s H _ Q E hr h=>?_);obtain ⟨a,ns,rfl,hS,hlen,kQ⟩:=h;have gc:=hr.units
 refine ⟨_,(ak (jX 1 S.nd (b6 (aa (pv 0) (aa ag (aa ag af)))))
  (ak (ia dR rfl (h_ rfl T.gB (aa ag af)) (d6 (i:=2) S.nd rfl (Or.inl rfl))
   (ak (bN (PW.pt (pw_and (a7 kR (pv 2) ag) (pw_and1 (a7 xQ (az a_ (pv 1) ag) (a9 cD rfl T.cq cz (aa (pv 0) af)))))) (aw Mn) bZ)
  (ak (jX 3 S.nd (aL (Uh T) hr T.Jv T.uc.kp T.Ju aG (aa (pv 1) af)))
  (ak (putL 4 S.nd (Nh T.zE Vl (hr.mono (by decide)) rfl T.JH T.JE .nil x6 (aa (pv 3) af)))
  (ak (jX 5 S.nd (a9 (MT rfl) rfl T.JK boot_min (aa ag (aa (aL (ur T) hr T.gA T.fg.kp T.gz aG (aa (pv 1) (aa ag af))) af))))
  (ak (vB (i0:=6) (N:=["turn","pen","told","wide"]) (ρ:=(fun σ=>[σ[1]?.join,σ[3]?.join,σ[5]?.join])) (fW [1,3,5] rfl) rfl S.nd rfl (Or.inl rfl) (h_ rfl T.gB (aa ag af)) (fun _ _ _=>.nil) (fun _ _ _=>(aL (UB T) hr T.Jz T.ue.kp T.Jy aG (aa (pv 1) (aa (pv 2) (aa (az (Gy (K:=K)) (b6 (aa ag (aa ag af))) (pv 3)) (aa (az (Gy (K:=K)) (b6 (aa (av Fh ag ag) (aa ag af))) (pv 3)) af)))))))
  (ak (putL 7 S.nd (aL (ur T) hr T.gA T.fg.kp T.gz aG (aa (pv 1) (aa ag af))))
  (ak (putL 8 S.nd (aL (Af T) hr T.wb T.lB.kp T.wa aG (aa (pv 3) (aa (az a_ (pv 6) ag) (aa (az a_ (pv 6) ag) af)))))
  (ak (putL 9 S.nd (aL (Af T) hr T.wb T.lB.kp T.wa aG (aa (pv 3) (aa (az a_ (pv 6) ag) (aa (az a_ (pv 6) ag) af)))))
  (ak (putL 9 S.nd (av oH (pv 9) (jg (N:=["turn","told"]) (ρ:=(fun σ=>[σ[3]?.join])) (fW [3] rfl) rfl (h_ rfl T.gB (aa (pv 7) af)) (fun _ _ _=>.nil) (fun _ _ _=>(aL iX hr T.mS T.iU.kp T.mR aG (aa (pv 1) (aa ag af)))))))
  (ak (bN (a7 fI (pv 7) ag) (ak (putL 8 S.nd (az a_ (pv 6) ag))
  (aw (putL 9 S.nd (az a_ (pv 6) ag)))) bZ)
  (ak (bN (a7 fI (pv 7) ag) (aw (putL 9 S.nd (pv 8))) bZ)
  (ak (bN (a7 fI (pv 7) ag) (aw (vB (i0:=9) (N:=["turn","told"]) (ρ:=(fun σ=>[σ[3]?.join])) (fW [3] rfl) rfl S.nd rfl (Or.inl rfl) (h_ rfl T.gB (aa (a9 cD rfl T.cq cz (aa (az a_ (pv 6) ag) af)) af)) (fun _ _ _=>.nil) (fun _ _ _=>(aL iX hr T.mS T.iU.kp T.mR aG (aa (pv 1) (aa ag af)))))) bZ)
  (ak (bN (om (jN (aL (K_ T) hr T.CJ T.qm.kp T.CH aG (aa (pv 3) (aa (pv 4) (aa (pv 8) (aa (pv 9) af))))))) (aw (aV fR)) bZ)
  (aw (bN (om (jN (aL (K_ T) hr T.CJ T.qm.kp T.CH aG (aa (pv 3) (aa (pv 4) (aa (pv 9) (aa (pv 8) af))))))) (aw (aV fR)) bZ))))))))))))))))
  (aw (aV fR)))),?_⟩
 refine ⟨_,rfl,by show 3≤sizeLine;decide,fun P0 nP=>?_⟩
 have p0:cO (upd H P0 (.lst [.ref a,.int 0,.int 0])) P0 a:=⟨0,0,aq,by decide,by decide⟩
 have wC:aX K (er P0 (upd H P0 (.lst [.ref a,.int 0,.int 0]))) a (ns.map V.int):=by rw [GS];exact ah.seq (fun b o e=>jr (fi e nP) e) hS
 generalize upd H P0 (.lst [.ref a,.int 0,.int 0])=H0 at p0 wC ⊢;refine ⟨5,rfl,by decide,by decide,?_⟩
 refine mi (fun i σ Hc=>∃(v2 v3 v4 v5 v6 v7 v8 v9:Option V),σ=[some (.ref a),some (.ref P0),v2,v3,v4,v5,v6,v7,v8,v9]∧aI P0 H0 Hc∧cO Hc P0 a) ⟨_,_,_,_,_,_,_,_,rfl,aI.refl _,p0⟩ ?_ ?_
 ·rintro i σ Hc hi ⟨v2,v3,v4,v5,v6,v7,v8,v9,rfl,sT,pc⟩
  have gT:aX K (er P0 Hc) a (ns.map V.int):=ah.seq sT wC;refine fY (Qw (fun Q hQ=>?_) ?_ ?_)
  ·obtain ⟨x,y,eP,_⟩:=id pc
   exact ⟨_,rfl,_,_,rfl,rfl,_,rfl,bQ (fun _=>⟨_,rfl,P0,_,_,_,rfl,rfl,.of eP,rfl,_,rfl,a,ns.map V.int,rfl,.inl (dO.seq gT),_,_,rfl,rfl,_,rfl,hQ _⟩) (fun _=>hQ _)⟩
  ·exact kQ _
  dsimp only [iF];refine ⟨_,rfl,P0,a,ns,rfl,pc,gT,fun td q H1 hq s1 p1 ko=>?_⟩;refine ⟨_,rfl,fun z dz nz Ls ne=>⟨z,dz,td,jt q,rfl,aq,?_,fun _=>⟨rfl,?_⟩,fun hg=>absurd ((Pu hq).symm.trans hg) (by decide)⟩⟩
  ·have e:=dO _ _ ko
   rw [bG (fi e nz),bG (fi e Ls)];exact e
  have sz:ah H1 (upd (upd (upd H1 dz (.own z)) z (.ins t.bo dz [])) z (.ins t.bo dz [("prime",(jt q).prime)])):=fun b o e=>by rw [bG (fi e nz),bG (fi e nz),bG (fi e Ls)];exact e
  have uz:dE t.bo (upd (upd (upd H1 dz (.own z)) z (.ins t.bo dz [])) z (.ins t.bo dz [("prime",(jt q).prime)])) z q:=⟨dz,by rw [aq,Vg]⟩
  generalize (upd (upd (upd H1 dz (.own z)) z (.ins t.bo dz [])) z (.ins t.bo dz [("prime",(jt q).prime)]))=H2 at sz uz ⊢;have p2:=p1.mono sz;have Vm:z≠P0:=fun e=>by obtain ⟨x,y,eP,_⟩:=p2;obtain ⟨d',ez⟩:=uz;rw [e,eP] at ez;cases ez
  have DJ:∀{Hx:Hp},aI P0 H2 Hx→dE t.bo Hx z q:=fun{Hx} s=>by obtain ⟨d',ez⟩:=uz;exact ⟨d',s.at Vm ez⟩
  have ht:dA (er P0 H2) td q:=ko.mono (oX sz);have qu:aX K (er P0 H2) a (ns.map V.int):=ah.seq (s1.trans (aI.of sz)) gT;have sT:aI P0 H0 H2:=sT.trans (s1.trans (aI.of sz));refine ⟨_,rfl,P0,a,ns,3,rfl,p2,qu,by decide,aU.of_lt (by decide) (by decide),fun DK H3 w0 w1 s3 p3=>?_⟩
  refine ⟨1,DK,rfl,?_⟩;obtain ⟨wd,Lu,aae,wd1⟩:∃wd:Int,(if DK<1 then DK else 1)=wd∧0≤wd∧wd≤1:=⟨_,rfl,by split <;> lia,by split <;> lia⟩
  rw [Lu];dsimp only [b5];simp only [df,dg];have eI:aX K (er P0 H3) a (ns.map V.int):=ah.seq s3 qu;have DL:dA (er P0 H3) td q:=ht.mono s3;have Lv:=sT.trans s3;have Vn:dE t.bo H3 z q:=DJ s3;have Lw:∀{Hx:Hp},aI P0 H3 Hx→dE t.bo Hx z q:=fun s=>DJ (s3.trans s);clear DJ ht qu Lu uz gT ko s3 sT w0 w1;obtain ⟨mN,F,aS,X,Y,W,N,Lx,Ly,Ag,f1,f2,f3,f4,hX,hY,sz⟩:∃(mN F:Nat) (aS:Int) (X Y W N:Nat),cK ([.int 3,.int 4]:List V) wd=some (.int ((mN+1:Nat):Int))∧cK ([.int (10 ^ 10),.int 4]:List V) wd=some (.int aS)∧mN≤10∧1≤aS∧aS≤(F:Int)∧4≤F∧F≤10 ^ 20∧(F+1000)*F ^ (mN-1)≤X∧F ^ mN≤Y∧iS X Y mN W N:=by
   rcases (show wd=0∨wd=1 by lia) with rfl | rfl
   ·exact ⟨2,10 ^ 10,10 ^ 10,_,_,_,_,rfl,rfl,by decide,by decide,by decide,by decide,by decide,by decide +kernel,by decide +kernel,Rq⟩
   ·exact ⟨3,4,4,_,_,_,_,rfl,rfl,by decide,by decide,by decide,by decide,by decide,by decide +kernel,by decide +kernel,Rr⟩
  have nq:(10:Nat) ^ 150≤B2:=by decide +kernel
  refine fY (dy (P8 (P:=P0) (a:=a) (n:=3) (by show 3<sizeLine;decide) (fun R h=>⟨3,rfl,by decide,by decide,h H3 (aI.refl _) p3⟩) (fun D _ y Hx=>∃r:Addr,y=.ref r∧Vi P0 Hx q r D X Y mN) ?_ ?_ ?_))
  ·rintro D _ y wY H' ys ⟨r,rfl,ne,ps,E',f,hR,w,l⟩ eD nP k
   refine ⟨r,rfl,ne,ps,E',f,hR.aS ne (jr nP eD) (fun b o nb eb=>?_),w,l⟩;have DM:b≠P0:=fun z=>by unfold My.er at eb;rw [au z] at eb;cases eb
   rw [jq DM] at eb;exact jr DM (k _ _ nb DM eb)
  ·rintro D j hj wY R sc ux ⟨ys,eD⟩ uD kc
   refine ⟨_,rfl,_,rfl,by show 2≤sizeLine;decide,fun l1 nj=>?_⟩
   have t1:=aC (o:=.lst [.int 3,.int 4]) nj;have Ab:upd wY l1 (.lst [.int 3,.int 4]) l1=some (.lst [.int 3,.int 4]):=aq;generalize upd wY l1 (.lst [.int 3,.int 4])=He at t1 Ab ⊢;refine ⟨_,rfl,l1,_,_,_,rfl,rfl,.of Ab,Lx,?_⟩;refine ⟨_,_,rfl,rfl,⟨by decide,by decide,by decide⟩,by show 2≤sizeLine;decide,fun l2 uy=>?_⟩
   have t2:=aC (o:=.lst [.int (10 ^ Int.toNat 10),.int 4]) uy;have Dk:upd He l2 (.lst [.int (10 ^ Int.toNat 10),.int 4]) l2=some (.lst [.int (10 ^ Int.toNat 10),.int 4]):=aq;refine ⟨_,rfl,l2,_,_,_,rfl,rfl,.of Dk,Ly,?_⟩;have wZ:=t1.trans t2;have p4:=ux.mono wZ;have s4:=sc.trans (aI.of wZ);have Lz:=wZ _ _ eD;generalize upd He l2 (.lst [.int (10 ^ Int.toNat 10),.int 4])=H4 at wZ p4 s4 Lz ⊢;refine ⟨P0,a,td,ns,q,aS,mN,F,rfl,p4,ah.seq s4 eI,DL.mono s4,hq,Ag,f1,f2,f3,f4,fun r0 rs D2 H5 s5 p5 LA Km i4 Vo Vp Vq Vr Vs=>?_⟩;have W2:=Qr hq i4.f9 (i4.Qs (by lia)) Vo Vp Vq Vr Vs hX hY
   have i4:=i4.weak (B':=10 ^ 150) (ai (Nat.add_le_add_right f4 1000) (by decide +kernel))
   refine kc _ _ ((aI.of wZ).trans s5) p5 ⟨r0,rfl,fun e=>?_,rs,D2,_,i4,W2,Km⟩;rw [e,jr uD Lz] at LA;cases LA
  intro D3 ys H4 uD s4 p4 ju hP eD;obtain ⟨y0,y1,y2,rfl⟩:∃y0 y1 y2,ys=[y0,y1,y2]:=by
   match ys,ju with
   | [y0,y1,y2],_=>exact ⟨_,_,_,rfl⟩
  obtain ⟨r0,rfl,_,q0,E0,g0,i4,W0,k0⟩:=hP 0 y0 rfl;obtain ⟨r1,rfl,_,q1,E1,g1,ni,W1,k1⟩:=hP 1 y1 rfl;obtain ⟨r2,rfl,_,q2,E2,g2,lF,W2,k2⟩:=hP 2 y2 rfl;clear hP ju Lx Ly f1 f2 f3 f4 hX hY Ag;dsimp only [b5];simp only [df,dg];refine ⟨_,rfl,P0,a,ns,6,rfl,p4,ah.seq s4 eI,by decide,aU.of_lt (by decide) (by decide),fun way H5 Vt Vu s5 p5=>?_⟩
  obtain ⟨wn,rfl,wn5⟩:∃wn:Nat,way=(wn:Int)∧wn≤5:=⟨way.toNat,by lia,by lia⟩
  dsimp only [b5];simp only [df,dg];have Vv:aX K (er P0 H5) a (ns.map V.int):=ah.seq (s4.trans s5) eI;have w5:=DL.mono (s4.trans s5);have w9:=s5.at uD eD;have i4:=i4.mono s5;have ni:=ni.mono s5;have lF:=lF.mono s5;have Vw:=Lv.trans (s4.trans s5);have LB:∀{Hx:Hp},aI P0 H5 Hx→dE t.bo Hx z q:=fun s=>Lw ((s4.trans s5).trans s);clear Lw DL eI Lv Vn eD Vt Vu;have bE:∀{E E':Int},E.natAbs≤Y→E'.natAbs≤Y→(E*E').natAbs≤B2:=fun h h'=>by rw [bq];exact ai (cI h h') (ai sz.wy (ai sz.kh nq))
  have bF:∀{x y:Int},x.natAbs≤X→y.natAbs≤X→(x*y).natAbs≤10 ^ 270:=fun h h'=>by rw [bq];exact ai (cI h h') (ai (lY _ sz.l1) (ai sz.w (ai sz.kh (by decide +kernel))))
  refine ⟨_,rfl,_,rfl,D3,_,_,_,rfl,rfl,.of w9,rfl,_,rfl,D3,_,_,_,rfl,rfl,.of w9,rfl,td,r0,r1,q,q0,q1,E0*E1,g0,g1,rfl,w5.mono dO,hq,(i4.mono dO).weak nq,(ni.mono dO).weak nq,by lia,by lia,W0.ok.mul W1.ok,bE W0.bD W1.bD,fun i j=>bF (W0.bf i) (W1.bf j),fun i j _ _=>B9 (W0.w i) (W1.w j),fun c1 H6 s6 Dt iY=>?_⟩
  obtain ⟨C1,z1,l1⟩:=sz.prod hq W0 W1 k0 k1;have p6:=p5.mono s6;have iY:=(iY.kZ z1).er p6 (p5.ne Dt);have uE:=aI.of (P:=P0) s6;have DN:=uE.at uD w9;dsimp only [b5];simp only [df,dg];refine ⟨_,rfl,_,rfl,D3,_,_,_,rfl,rfl,.of DN,rfl,_,rfl,D3,_,_,_,rfl,rfl,.of DN,rfl,td,r0,r2,q,q0,q2,E0*E2,g0,g2,rfl,(w5.mono uE).mono dO,hq,((i4.mono uE).mono dO).weak nq,((lF.mono uE).mono dO).weak nq,by lia,by lia,W0.ok.mul W2.ok,bE W0.bD W2.bD,fun i j=>bF (W0.bf i) (W2.bf j),fun i j _ _=>B9 (W0.w i) (W2.w j),fun c2 H7 s7 C6 nC=>?_⟩
  obtain ⟨C2,z2,l2⟩:=sz.prod hq W0 W2 k0 k2;have p7:=p6.mono s7;have nC:=(nC.kZ z2).er p7 (p6.ne C6);have DO:=aI.of (P:=P0) s7;have iY:=iY.mono DO;generalize aM (cU q q0.length q1.length g0 g1 (E0*E1) (q0.length+q1.length-1))=os at C1 z1 l1 iY;generalize aM (cU q q0.length q2.length g0 g2 (E0*E2) (q0.length+q2.length-1))=ts at C2 z2 l2 nC;dsimp only [b5];simp only [df,dg];have LC:=uE.trans DO;have LD:=w5.mono LC;have zeros:∀{ρ:St→St} {σ:St} {wi:TI} {te:TE} {Q':VK} {Hx:Hp} {m:Nat},m≤40→(∀R:It→Hp→Prop,(∀J H1,ah Hx H1→kW J ((List.range m).map fun i:Nat=>V.int (0+(i:Int))) H1→R J H1)→wi σ Hx R)→(∀(x:V) (Hc:Hp) (R:VK),ah Hx Hc→(∀u H',ah Hc H'→aQ (10 ^ 150) H' q u (cm q 0).1 (cm q 0).2→R u H')→te (some x::ρ σ) Hc R)→(∀(D:Addr) (Hy:Hp),ah Hx Hy→Hx D=none→aN (10 ^ 150) Hy q D (List.replicate m o1)→Q' (.ref D) Hy)→jV wi ρ (fun _ H Q=>Q true H) te σ Hx Q':=fun{ρ σ wi te Q' Hx m} hm h1 h2 h3=>by
   refine vE (xs:=(List.range m).map fun i:Nat=>V.int (0+(i:Int))) h1 (by rw [aW,lZ];exact jd (by lia)) (fun _ j y Hz=>aQ (10 ^ 150) Hz q y (cm q 0).1 (cm q 0).2) (fun _ _ _ _ _ _ h1 e f=>h1.aS e f) (fun D j x _ Hc R sc _ kc=>h2 x Hc R sc fun u H' s' hu=>kc u H' s' hu) fun D ys Hy nD sy ju hP eD=>?_
   rw [aW,lZ] at ju;refine h3 D Hy sy nD ⟨ys,eD,by rw [iw];exact ju,fun i v p e1 e2=>?_⟩
   have z:=hP i v e1;rw [kv] at e2
   split at e2
   ·cases e2
    rw [Vh] at z;exact z
   ·cases e2
  refine fY (dy (GB ⟨_,rfl,?_⟩));dsimp only;refine zeros (m:=wn) (by lia) (fun R h=>⟨_,rfl,(wn:Int),rfl,by lia,by lia,h _ _ (ah.refl _) (by rw [d_];exact BA)⟩) (fun x Hc R sc kc=>⟨_,rfl,td,q,0,rfl,(LD.mono dO).mono sc,hq,by decide +kernel,by decide +kernel,kc⟩) fun D4 H8 s8 nD4 hZ=>?_
  have DP:=aI.of (P:=P0) s8;have p8:=p7.mono s8;obtain ⟨tw,LF,LG,LH⟩:=(nC.mono DP).mono dO;obtain ⟨zw,LI,DQ,LJ⟩:=id hZ;rw [iw] at DQ;refine ⟨c2,D4,tw,zw,rfl,rfl,LF,LI,ai (show tw.length+zw.length≤100 by lia) (by decide),fun pn LK=>?_⟩
  have s9:=aC (o:=.lst (tw++zw)) LK;have LL:upd H8 pn (.lst (tw++zw)) pn=some (.lst (tw++zw)):=aq;have Vx:=p8.ne LK;generalize upd H8 pn (.lst (tw++zw))=H9 at s9 LL ⊢;have p9:=p8.mono s9;have LM:=DP.trans (aI.of (P:=P0) s9);have Vy:jy P0 H9 q pn W N (ts++List.replicate wn o1):=⟨aN.er (aN.cat LL LG (by rw [iw];exact DQ) (fun i v p h1 h2=>(LH i v p h1 h2).mono s9) (fun i v p h1 h2=>(LJ i v p h1 h2).mono s9)) p9 Vx,C2.more (by lia)⟩
  have Vz:jy P0 H9 q c1 W N os:=⟨iY.mono LM,C1⟩;have qA:=LC.trans LM;have VA:jy P0 H9 q r0 W N q0:=⟨i4.mono qA,sz.row W0 (by lia)⟩
  have VB:jy P0 H9 q r1 W N q1:=⟨ni.mono qA,sz.row W1 (by lia)⟩
  have DR:=qA.at uD w9;obtain ⟨VC,VD,VE,_⟩:=id (lF.mono qA);have DS:=w5.mono qA;have VF:=Vw.trans qA;have LN:∀{Hx:Hp},aI P0 H9 Hx→dE t.bo Hx z q:=fun s=>LB (qA.trans s);clear hZ LH LJ LF LI LG DQ iY nC i4 ni lF LD w5 Vv C1 C2 z1 z2 l1 l2 bE bF w9 DN s8 s9 DP DO uE s7 s6 LB;dsimp only [b5];simp only [df,dg];refine fY (B7 fun R hR=>?_);have rest:∀(on ot:Addr) (ps rs:aF) (Hx:Hp),aI P0 H9 Hx→cO Hx P0 a→jy P0 Hx q on W N ps→jy P0 Hx q ot W N rs→R [some (.ref a),some (.ref P0),some (.int (0+(i:Int))),some (.ref td),some (.ref z),some (.int wd),some (.ref D3),some (.int (wn:Int)),some (.ref on),some (.ref ot)] Hx:=by
   intro on ot ps rs Hx sx px hO hT;apply hR;dsimp only;refine fY (B7 fun R2 lF=>?_);have LO:∀(ot:Addr) (rs:aF),jy P0 Hx q ot W N rs→R2 [some (.ref a),some (.ref P0),some (.int (0+(i:Int))),some (.ref td),some (.ref z),some (.int wd),some (.ref D3),some (.int (wn:Int)),some (.ref on),some (.ref ot)] Hx:=by
    intro ot rs hT;apply lF;dsimp only;refine fY (B7 fun R3 VG=>?_);have LP:∀(ot:Addr) (rs:aF) (Hy:Hp),aI P0 Hx Hy→cO Hy P0 a→jy P0 Hy q ot W N rs→R3 [some (.ref a),some (.ref P0),some (.int (0+(i:Int))),some (.ref td),some (.ref z),some (.int wd),some (.ref D3),some (.int (wn:Int)),some (.ref on),some (.ref ot)] Hy:=by intro ot rs Hy sy py hT;apply VG;dsimp only;have DT:=sx.trans sy;have hO:=hO.mono sy;obtain ⟨D1,D2,f,g,I1⟩:=II hq sz hO.2 hT.2 hO.1.f9 hT.1.f9;obtain ⟨VH,Ap,f',g',I2⟩:=II hq sz hT.2 hO.2 hT.1.f9 hO.1.f9;refine ⟨_,rfl,_,rfl,_,rfl,_,rfl,td,z,on,ot,q,ps,rs,D1,D2,f,g,W,N,rfl,(DS.mono DT).mono dO,LN DT,hq,hO.1.mono dO,hT.1.mono dO,I1,sz.IG,fun Hw sw=>⟨true,rfl,dD ?_⟩⟩;dsimp only [iF];have DU:=DT.trans (aI.of (P:=P0) sw);refine ⟨_,rfl,_,rfl,_,rfl,_,rfl,td,z,ot,on,q,rs,ps,VH,Ap,f',g',W,N,rfl,(DS.mono DU).mono dO,LN DU,hq,(hT.1.mono dO).mono sw,(hO.1.mono dO).mono sw,I2,sz.IG,fun Hv sv=>⟨true,rfl,dD ?_⟩⟩;exact ⟨_,_,_,_,_,_,_,_,rfl,VF.trans (DU.trans (aI.of sv)),(py.mono sw).mono sv⟩
    refine ⟨_,rfl,rfl,_,rfl,bQ (fun _=>?_) (fun _=>?_)⟩
    ·refine dy (zeros (m:=q2.length) (by lia) (fun R h=>⟨_,rfl,D3,_,_,_,rfl,rfl,.of (sx.at uD DR),rfl,r2,VC,rfl,.inl (.of (dO _ _ (sx _ _ VD))),_,by rw [VE],by lia,by lia,h _ _ (ah.refl _) (by rw [d_];exact BA)⟩) (fun x Hc R sc kc=>⟨_,rfl,td,q,0,rfl,((DS.mono sx).mono dO).mono sc,hq,by decide +kernel,by decide +kernel,kc⟩) fun D5 Hy sy VI hZ=>?_)
     exact LP D5 _ Hy (aI.of sy) (px.mono sy) ⟨hZ.er (px.mono sy) (px.ne VI),sz.none (by lia)⟩
    ·exact LP ot rs Hx (aI.refl _) px hT
   refine ⟨_,rfl,rfl,_,rfl,bQ (fun _=>?_) (fun _=>?_)⟩;·exact ⟨_,rfl,LO on ps hO⟩
   ·exact LO ot rs hT
  refine ⟨_,rfl,rfl,_,rfl,bQ (fun _=>?_) (fun _=>?_)⟩;·exact ⟨_,rfl,D3,_,_,_,rfl,rfl,.of DR,rfl,_,rfl,D3,_,_,_,rfl,rfl,.of DR,rfl,rest r0 r1 q0 q1 H9 (aI.refl _) p9 VA VB⟩
  ·exact rest c1 pn os _ H9 (aI.refl _) p9 Vz Vy
 ·rintro σ Hc ⟨v2,v3,v4,v5,v6,v7,v8,v9,rfl,sT,pc⟩
  exact kQ _
theorem VJ{l:PySem.W.OpenLaw}(T:Txt K mg t):∃fd:FuncData,(∀(s:Shared) (v:Value),BindsTo s fd ⟨[v],[]⟩ [("script",v)])∧∀base:Heap,K.In base→base.Ns mainGlobals mg→a8 l.prog w K mg base bW 11 t.mM fd ["script"] (ye K):=by obtain ⟨oc,od,kV,doc,pm,an,aT,ct,eY,e,lk,eU⟩:=T.ug.ex;refine ⟨t.qe,fun s v=>?_,fun base _ _=>Vk T⟩;rw [e];exact .of_eq rfl
end
theorem walk{l:PySem.W.OpenLaw}{q:Program}{loose:List Str}{XP:(Str→Option Value)→Heap→Prop}{YP:World→Heap→Prop}{d:DefRec}{K:Params→PySem.W.Frag}(hn:l.most=some 63)(mw:d.params.defaults=[])
  (hY:∀(w:World) (h:Heap),YP w h→(K w.params).In h)
  (F:∀(w:World) (mg:dh) (fa:Addr) (h:Heap),(K w.params).In h→h.Ns mainGlobals mg→mg d.name=some (.ref fa)→
   ∃fd:FuncData,(∀(s:Shared) (u:Value),BindsTo s fd ⟨[u],[]⟩ [("script",u)])∧∀base:Heap,(K w.params).In base→base.Ns mainGlobals mg→a8 l.prog w (K w.params) mg base bW 11 fa fd ["script"] (ye (K w.params))) :
  PySem.W.WalkO q loose XP YP l.row.toRowW d [] (fun f vs=>PySem.call f vs):=
 L2.N0 (n:=63) (k:=11) (x:="script") (CX:=fun _=>bW) (sp:=fun w=>ye (K w.params)) hn (by decide) mw ⟨rfl,by decide,by decide⟩ hY F (fun _ _ a ns hl _ hS=>⟨a,ns,rfl,hS,hl,fun _=>rfl⟩) fun _ _ _ _ _ z=>z
theorem VL{K:ax}{h:Heap}{mg:dh}(X:K.In h)(G:h.Ns mainGlobals mg)
  {bo:Addr}
  {lq:Addr}
  {cF:Addr}
  {mO:Addr}
  {k_:Addr} {VM LQ:Option Addr} {VN:Array (Option Value)} {VO LR LS LU DV LV:Value}
  {DW:Addr} {VP:Tok} {VQ:Value} {VR:Option Addr} {VS:Nat} {VT:Array (Option Value)}
  {VU:Tok}
  {VV:Tok}
  {pd pe ph pj pk pz pA pB pC pD pE pF pG pH pI pJ pK pL pM pN pO pP pQ pR pS pV pW pX pY pZ p_ qa qb qc qd mM qf qg qh:Addr} {rZ r6 r9 r_ si sq su sC sD sE sG sI sJ sL sM sN sO sP sQ sR sS sU sV sW sY sZ s_ tf tj tq tx tD tE tF tG qe tH tI tJ:FuncData}
  (DX:PySem.W.nsIn K mainGlobals "World"=some (some (.ref bo)))
  (DY:PySem.W.nsIn K mainGlobals "NoWorld"=some (some (.ref lq)))
  (DZ:PySem.W.nsIn K mainGlobals "NoOver"=some (some (.ref cF)))
  (D6:PySem.W.nsIn K mainGlobals "WrightError"=some (some (.ref mO)))
  (VW:mg "whole_trimmed"=some (.ref pd))
  (qi:aP K "whole_trimmed" yG pd rZ)
  (VX:mg "whole_times"=some (.ref pe))
  (tK:aP K "whole_times" yH pe r6)
  (VY:mg "whole_less"=some (.ref ph))
  (tL:aP K "whole_less" yI ph r9)
  (VZ:mg "whole_parted"=some (.ref pj))
  (tM:aP K "whole_parted" yJ pj r_)
  (V0:mg "power"=some (.ref pk))
  (mP:aP K "power" yK pk si)
  (V1:mg "next_part"=some (.ref pz))
  (tO:aP K "next_part" yL pz sq)
  (V2:mg "whole_common"=some (.ref pA))
  (tP:aP K "whole_common" yM pA su)
  (V3:mg "trimmed"=some (.ref pB))
  (qj:aP K "trimmed" yN pB sC)
  (V4:mg "numbers_of"=some (.ref pC))
  (mQ:aP K "numbers_of" yO pC sD)
  (V5:mg "common"=some (.ref pD))
  (tQ:aP K "common" yP pD sE)
  (V6:mg "is_whole"=some (.ref pE))
  (tR:aP K "is_whole" yQ pE sG)
  (V7:mg "common_divisor"=some (.ref pF))
  (qk:aP K "common_divisor" yR pF sI)
  (V8:mg "is_prime"=some (.ref pG))
  (tS:aP K "is_prime" yS pG sJ)
  (V9:mg "ratio"=some (.ref pH))
  (tV:aP K "ratio" yT pH sL)
  (V_:mg "one_bottom"=some (.ref pI))
  (tW:aP K "one_bottom" yU pI sM)
  (Wa:mg "remainder_back"=some (.ref pJ))
  (tX:aP K "remainder_back" yV pJ sN)
  (Wb:mg "remainder_over"=some (.ref pK))
  (tY:aP K "remainder_over" yW pK sO)
  (Wc:mg "is_fractions"=some (.ref pL))
  (tZ:aP K "is_fractions" yX pL sP)
  (Wd:mg "is_wheel"=some (.ref pM))
  (t5:aP K "is_wheel" yY pM sQ)
  (We:mg "_law_e_fill"=some (.ref pN))
  (t6:aP K "_law_e_fill" yZ pN sR)
  (Wf:mg "_law_e_next"=some (.ref pO))
  (fg:aP K "_law_e_next" y3 pO sS)
  (Wg:mg "_law_e_low"=some (.ref pP))
  (kj:aP K "_law_e_low" y4 pP sU)
  (Wh:mg "_law_e_of"=some (.ref pQ))
  (iU:aP K "_law_e_of" y6 pQ sV)
  (Wi:mg "_law_e_plus"=some (.ref pR))
  (mT:aP K "_law_e_plus" y7 pR sW)
  (Wj:mg "_law_e_times"=some (.ref pS))
  (mU:aP K "_law_e_times" y8 pS sY)
  (Wk:mg "_law_e_is_number"=some (.ref pV))
  (t9:aP K "_law_e_is_number" y_ pV sZ)
  (Wl:mg "_law_e_is_row"=some (.ref pW))
  (t_:aP K "_law_e_is_row" za pW s_)
  (Wm:mg "_law_e_world"=some (.ref pX))
  (uc:aP K "_law_e_world" zb pX tf)
  (Wn:mg "_law_e_number"=some (.ref pY))
  (ud:aP K "_law_e_number" zc pY tj)
  (Wo:mg "_law_e_row"=some (.ref pZ))
  (ue:aP K "_law_e_row" zd pZ tq)
  (Wq:mg "_law_e_cut"=some (.ref p_))
  (iV:aP K "_law_e_cut" ze p_ tx)
  (Wr:mg "_law_e_sum"=some (.ref qa))
  (uf:aP K "_law_e_sum" zf qa tD)
  (Ws:mg "_law_e_product"=some (.ref qb))
  (lB:aP K "_law_e_product" zg qb tE)
  (Wt:mg "_law_e_left"=some (.ref qc))
  (ql:aP K "_law_e_left" zh qc tF)
  (Wu:mg "_law_e_common_right"=some (.ref qd))
  (qm:aP K "_law_e_common_right" zi qd tG)
  (Wv:mg "law"=some (.ref mM))
  (ug:aP K "law" zj mM qe)
  (zE:Mk K bo qf)
  (wc:eG K "__init__" "World.__init__" zk qf tH)
  (D7:PySem.W.findIn K (.ref bo) "of"=some (some (.ref k_)))
  (D8:PySem.W.isFn K (.ref k_)=true)
  (uF:K.lookup k_=some ⟨VO,VM,.func (PySem.W.fnOf "of" "World.of" (ik iT) (fm iT) (aR iT) (.ref DW) LR LS LU LQ DV LV),VN⟩)
  (uH:PySem.W.codeIn K DV "World.of"=true)
  (qB:PySem.W.keepIn K (.ref k_)=true)
  (uI:K.lookup DW=some ⟨VQ,VR,.seq #[.int 1 VP] VS,VT⟩)
  (wg:Meth K bo "as_wholes" qg)
  (we:eG K "as_wholes" "World.as_wholes" zm qg tI)
  (lE:Meth K bo "evenly" qh)
  (wj:eG K "evenly" "World.evenly" zo qh tJ)
  (D9:PySem.W.plainGet K bo Str.empty=true)
  (D_:PySem.W.hasDictIn K bo=true)
  (Ea:PySem.W.plainOver K bo=true)
  (Eb:PySem.W.findIn K (.ref bo) "__setattr__"=some (some (.builtin "object.__setattr__")))
  (Ec:PySem.W.findIn K (.ref bo) "prime"=some none)
  (Ed:PySem.W.nsIn K mainGlobals "ValueError"=some none)
  (Ef:PySem.W.nsIn K mainGlobals "abs"=some none)
  (Eg:PySem.W.nsIn K mainGlobals "all"=some none)
  (Eh:PySem.W.nsIn K mainGlobals "bool"=some none)
  (Ei:PySem.W.nsIn K mainGlobals "enumerate"=some none)
  (Ej:PySem.W.nsIn K mainGlobals "int"=some none)
  (Ek:PySem.W.nsIn K mainGlobals "isinstance"=some none)
  (El:PySem.W.nsIn K mainGlobals "len"=some none)
  (Em:PySem.W.nsIn K mainGlobals "list"=some none)
  (En:PySem.W.nsIn K mainGlobals "max"=some none)
  (Eo:PySem.W.nsIn K mainGlobals "min"=some none)
  (Ep:PySem.W.nsIn K mainGlobals "range"=some none)
  (Er:PySem.W.nsIn K mainGlobals "tuple"=some none)
  (Es:PySem.W.nsIn K mainGlobals "zip"=some none)
  (Et:PySem.W.nsIn K mainGlobals "GREATEST_PRIME"=some (some (.int 997 VU)))
  (Eu:PySem.W.nsIn K mainGlobals "LONG"=some (some (.int 2048 VV)))
  (Ew:PySem.W.excIn K lq [.type "ValueError",.type "Exception",.type "BaseException",.type "object"] "ValueError.__new__"=true)
  (Ex:PySem.W.excIn K cF [.type "ValueError",.type "Exception",.type "BaseException",.type "object"] "ValueError.__new__"=true)
  (Ey:PySem.W.excIn K mO [.type "ValueError",.type "Exception",.type "BaseException",.type "object"] "ValueError.__new__"=true)
  (Ez:PySem.W.mroIn K cF (.ref cF)=some true)
  (EA:PySem.W.mroIn K cF (.ref mO)=some true)
  (EB:PySem.W.kitOne K (.ref cF) (.type "ValueError")=some true)
  (EC:PySem.W.kitOne K (.ref cF) (.ref cF)=some true)
  (ED:PySem.W.kitOne K (.ref cF) (.ref lq)=some false)
  (EE:PySem.W.hasDictIn K cF=true)
  (EF:PySem.W.findIn K (.ref cF) "__getattribute__"=some (some (.builtin "BaseException.__getattribute__")))
  (EG:PySem.W.findIn K (.ref cF) "__getattr__"=some none)
  (EH:PySem.W.findIn K (.ref cF) "__class__"=some (some (.builtin "object.__class__")))
  (EI:PySem.W.mroIn K cF (.type "object")=some true)
  (EJ:PySem.W.mroIn K cF (.type "BaseException")=some true)
  : ∃t:Cs,Txt K mg t:=by
 refine ⟨⟨pd,rZ,pe,r6,ph,r9,pj,r_,pk,si,pz,sq,pA,su,pB,sC,pC,sD,pD,sE,pE,sG,pF,sI,pG,sJ,pH,sL,pI,sM,pJ,sN,pK,sO,pL,sP,pM,sQ,pN,sR,pO,sS,pP,sU,pQ,sV,pR,sW,pS,sY,pV,sZ,pW,s_,pX,tf,pY,tj,pZ,tq,p_,tx,qa,tD,qb,tE,qc,tF,qd,tG,mM,qe,qf,tH,k_,PySem.W.fnOf "of" "World.of" (ik iT) (fm iT) (aR iT) (.ref DW) LR LS LU LQ DV LV,qg,tI,qh,tJ,bo,lq,cF,mO⟩,?_⟩
 exact {
  qi:=qi
  Cu:=qi.cj
  Cv:=VW
  tK:=tK
  IJ:=tK.cj
  IK:=VX
  tL:=tL
  IL:=tL.cj
  IM:=VY
  tM:=tM
  IP:=tM.cj
  IQ:=VZ
  mP:=mP
  zp:=mP.cj
  zr:=V0
  tO:=tO
  IS:=tO.cj
  IT:=V1
  tP:=tP
  IU:=tP.cj
  IV:=V2
  qj:=qj
  Cw:=qj.cj
  Cy:=V3
  mQ:=mQ
  zt:=mQ.cj
  zu:=V4
  tQ:=tQ
  IW:=tQ.cj
  IY:=V5
  tR:=tR
  IZ:=tR.cj
  I_:=V6
  qk:=qk
  Cz:=qk.cj
  CA:=V7
  tS:=tS
  Ja:=tS.cj
  Jb:=V8
  tV:=tV
  Jc:=tV.cj
  Jd:=V9
  tW:=tW
  Je:=tW.cj
  Jf:=V_
  tX:=tX
  Jg:=tX.cj
  Jh:=Wa
  tY:=tY
  Ji:=tY.cj
  Jj:=Wb
  tZ:=tZ
  Jk:=tZ.cj
  Jl:=Wc
  t5:=t5
  Jm:=t5.cj
  Jn:=Wd
  t6:=t6
  Jo:=t6.cj
  Jp:=We
  fg:=fg
  gz:=fg.cj
  gA:=Wf
  kj:=kj
  t7:=kj.cj
  t8:=Wg
  iU:=iU
  mR:=iU.cj
  mS:=Wh
  mT:=mT
  zy:=mT.cj
  zA:=Wi
  mU:=mU
  zC:=mU.cj
  zD:=Wj
  t9:=t9
  Jq:=t9.cj
  Jr:=Wk
  t_:=t_
  Js:=t_.cj
  Jt:=Wl
  uc:=uc
  Ju:=uc.cj
  Jv:=Wm
  ud:=ud
  Jw:=ud.cj
  Jx:=Wn
  ue:=ue
  Jy:=ue.cj
  Jz:=Wo
  iV:=iV
  mV:=iV.cj
  mX:=Wq
  uf:=uf
  JA:=uf.cj
  JB:=Wr
  lB:=lB
  wa:=lB.cj
  wb:=Ws
  ql:=ql
  CB:=ql.cj
  CF:=Wt
  qm:=qm
  CH:=qm.cj
  CJ:=Wu
  ug:=ug
  Rt:=ug.cj
  JD:=Wv
  wc:=wc
  JE:=wc.cj
  zE:=zE
  JF:=(yg (st:=iT) (i:=1) uF uH qB uI)
  CK:=ip.binds (ps:=["self","top","bottom"]) (yg (st:=iT) (i:=1) uF uH qB uI) fun s dT kV doc pm an aT ct tk o n us ho hd hl=>match us,hl with | [_,_,_],_=>.of_defaults rfl ho hd rfl rfl
  JG:=ip.OP (ps:=["self","top","bottom"]) (yg (st:=iT) (i:=1) uF uH qB uI) fun s dT kV doc pm an aT ct tk o n us ho hd hl=>match us,hl with | [_,_],_=>.of_defaults rfl ho hd rfl rfl
  Ru:=ip.OQ (ps:=["self","top","bottom"]) (y:="bottom") (yg (st:=iT) (i:=1) uF uH qB uI) fun s dT kV doc pm an aT ct tk o n us ws ho hd hw hl=>match ws,us,hw,hl with | [_],[_,_],_,_=>.of_defaults rfl ho hd rfl rfl
  zF:=⟨D7,D8,qB⟩
  we:=we
  CL:=we.cj
  wg:=wg
  wj:=wj
  qo:=wj.cj
  lE:=lE
  d8:=⟨D9,D_,Ea,Eb⟩
  JH:=bY X G DX
  kl:=Ec
  JI:=bY X G DY
  CM:=bY X G DZ
  Rv:=bY X G D6
  Rw:=gK X G Ed
  wk:=gK X G Ef
  JJ:=gK X G Eg
  zG:=gK X G Eh
  CN:=gK X G Ei
  zH:=gK X G Ej
  iW:=gK X G Ek
  cq:=gK X G El
  mY:=gK X G Em
  CO:=gK X G En
  JK:=gK X G Eo
  gB:=gK X G Ep
  wm:=gK X G Er
  zI:=gK X G Es
  JL:=⟨_,bY X G Et,_,rfl⟩
  JM:=⟨_,bY X G Eu,_,rfl⟩
  JN:=Ew
  CP:=Ex
  Rx:=Ey
  Ry:=Ez
  Rz:=EA
  RA:=EB
  RB:=EC
  RC:=ED
  RD:=EE
  RE:=EF
  RF:=EG
  RG:=EH
  RH:=EI
  RI:=EJ
 }
end My
namespace PySem.W.Fast
def tw506371244486771400:Unit:=()
def tw15385290416125243006:Unit:=()
def tw14122951700410592209:Unit:=()
def tw13161882631694099909:Unit:=()
def tw5804762564931198206:Unit:=()
def tw7397221223991437522:Unit:=()
def tw14801695927569386607:Unit:=()
def tw11062997746332016946:Unit:=()
def tw12303431227766724215:Unit:=()
def tw327618083438434358:Unit:=()
def tw9248989441027385805:Unit:=()
def tw8349237336421215753:Unit:=()
def tw3528191796758306681:Unit:=()
def tw14216649257114710409:Unit:=()
def tw18068973476153211916:Unit:=()
def tw1349307563769376224:Unit:=()
def tw6797280906165557157:Unit:=()
def tw17851916925101502899:Unit:=()
def tw7902486977876141316:Unit:=()
def tw9458273066760087333:Unit:=()
def tw8729423519228660395:Unit:=()
def tw8279670169626688417:Unit:=()
def tw4065273369625150750:Unit:=()
def tw14391918013272420401:Unit:=()
def tw12487535962670335311:Unit:=()
def tw5375979679906041369:Unit:=()
def tw8835532932584593385:Unit:=()
def tw16434692495646372114:Unit:=()
def tw7403506093156506057:Unit:=()
def tw2003925869912050544:Unit:=()
def tw3837072133393031160:Unit:=()
def tw8109107005207634228:Unit:=()
def tw9992784183758330533:Unit:=()
def tw12362511900766155825:Unit:=()
def tw5876401481424148282:Unit:=()
def tw8819688577733386529:Unit:=()
def tw10758405839734221968:Unit:=()
def tw18002631701698188942:Unit:=()
def tw16317858940004670233:Unit:=()
def tw11268574010972031444:Unit:=()
def tw12855916862039028045:Unit:=()
def tw12027197371129656037:Unit:=()
def tw2805029613692182036:Unit:=()
def tw8423631430133155395:Unit:=()
def tw1051881354996794054:Unit:=()
def tw16781943257069068731:Unit:=()
def tw1694734375958543874:Unit:=()
def tw4301597861861030536:Unit:=()
def tw13134124209568881355:Unit:=()
def tw12308605438065149845:Unit:=()
def tw16833062858954962071:Unit:=()
def tw1427336592751614694:Unit:=()
def tw15769980082717582537:Unit:=()
def tw223030055859165534:Unit:=()
def tw13015215149718277199:Unit:=()
def tw17761113712283627811:Unit:=()
def tw4572417292046647374:Unit:=()
def tw14849488731541005871:Unit:=()
def tw17569089159297367777:Unit:=()
def tw15863206712545064148:Unit:=()
def tw12317025845605521792:Unit:=()
def tw6155024656723853614:Unit:=()
def tw5277872286562300725:Unit:=()
def tw2469027482079825580:Unit:=()
def tw3924234515656090064:Unit:=()
def tw13529323128382757631:Unit:=()
def tw12580697372571725721:Unit:=()
def tw3393323561758910482:Unit:=()
def tw11129481719416231330:Unit:=()
def tw5923330393910216934:Unit:=()
def tw5652539647928404771:Unit:=()
def tw14076558838215763950:Unit:=()
def tw2691511987768458784:Unit:=()
def tw10470614991156082855:Unit:=()
def tw3206398810576199145:Unit:=()
def tw5003888018693637200:Unit:=()
def tw7049766672967458410:Unit:=()
def tw5500593985989370712:Unit:=()
def tw6284046666124037626:Unit:=()
def tw5091593395651559614:Unit:=()
def tw6548515357432927545:Unit:=()
def tw16706693404348711093:Unit:=()
def tw14782771927621685486:Unit:=()
def tw8956231964671054512:Unit:=()
def tw16613549925383681789:Unit:=()
def tw3626981571207061712:Unit:=()
def tw16139893948630128101:Unit:=()
def tw11713343963999394387:Unit:=()
def tw1928427829149414822:Unit:=()
def tw15170730970806358107:Unit:=()
def tw4830213888260567562:Unit:=()
def tw12499618851318737091:Unit:=()
def tw3575590013167148121:Unit:=()
def tw4417155252974683255:Unit:=()
def tw15858079292694806888:Unit:=()
def tw5751246077068199887:Unit:=()
def tw1811349901221083930:Unit:=()
def tw17580106046529621814:Unit:=()
def tw1395358740027190200:Unit:=()
def tw15715673105071939291:Unit:=()
def tw1689231222290713867:Unit:=()
def tw6106695437787369553:Unit:=()
def tw3839971377075757153:Unit:=()
def tw10981149183340854396:Unit:=()
def tw1593745148905396898:Unit:=()
def tw12080533931674950018:Unit:=()
def tw11235390776542157535:Unit:=()
def tw11450918380263099461:Unit:=()
def tw4377990744597882916:Unit:=()
def tw15001156160973353040:Unit:=()
def tw7191378101285704126:Unit:=()
def tw4133421137411365672:Unit:=()
def tw6327782763977515781:Unit:=()
def tw5161568599808442324:Unit:=()
def tw5471566031131704650:Unit:=()
def tw17034599527997330443:Unit:=()
def tw14133868815956316735:Unit:=()
def tw3291814847664116082:Unit:=()
def tw9373696402780603231:Unit:=()
def tw5619123836422369412:Unit:=()
def tw1365371469360118866:Unit:=()
def tw2503791568240789985:Unit:=()
def tw3924824413666453054:Unit:=()
def tw1278453106525421191:Unit:=()
def tw6422754873967379393:Unit:=()
def tw13712530947079932322:Unit:=()
def tw10166792019326685631:Unit:=()
def tw1721506735718540880:Unit:=()
def tw10944212977236955082:Unit:=()
def tw13533153621207144248:Unit:=()
def tw1434512631776803629:Unit:=()
def tw7048876787783039341:Unit:=()
def tw12480914122781173677:Unit:=()
def tw16712720101669292608:Unit:=()
def tw3896270489539139655:Unit:=()
def tw7059336775462733:Unit:=()
def tw6926482364962108255:Unit:=()
def tw9089940400535832133:Unit:=()
def tw2318547970511390415:Unit:=()
def tw4056013648325408169:Unit:=()
def tw12541441868764382393:Unit:=()
def tw11187398764695951393:Unit:=()
def tw16140901923422391472:Unit:=()
def tw12451375455359065563:Unit:=()
def tw8323918412173197337:Unit:=()
def tw4341963559893703217:Unit:=()
def tw16823293312159304906:Unit:=()
def tw14893106411770723939:Unit:=()
def tw15711190676070372560:Unit:=()
def tw18439121049513819721:Unit:=()
def tw18333565468152254525:Unit:=()
def tw17378406043650165861:Unit:=()
def tw14152913268997026814:Unit:=()
def tw8387315964787231736:Unit:=()
def tw17276545124079804935:Unit:=()
def tw11842268567792865002:Unit:=()
def tw15222015743225528447:Unit:=()
def tw3114621199513036331:Unit:=()
def tw5912522805503396595:Unit:=()
def tw1391813696747621424:Unit:=()
def tw5373935755955299033:Unit:=()
def tw8306114134836404452:Unit:=()
def tw96264212354358523:Unit:=()
def tw18142746550618894416:Unit:=()
def tw17556032852626741773:Unit:=()
def tw12085002469727447320:Unit:=()
def tw7668352761371923140:Unit:=()
def tw17623678266835144625:Unit:=()
def tw10610575541478837361:Unit:=()
def tw9603261268232856360:Unit:=()
def tw15423403808785157490:Unit:=()
def tw2559861576209291945:Unit:=()
def tw15134791437552715639:Unit:=()
def tw5815683462507240465:Unit:=()
def tw5648898494419922924:Unit:=()
def tw15574425001484316708:Unit:=()
def tw8949023113036732558:Unit:=()
def tw14108583636693118552:Unit:=()
def tw17312901657404583420:Unit:=()
def tw9429206252397430142:Unit:=()
def tw4704631667765260398:Unit:=()
def tw6760465536293190355:Unit:=()
def tw10442341372863886376:Unit:=()
def tw2549528758093873578:Unit:=()
def tw12737406241053131931:Unit:=()
def tw3660326525087258883:Unit:=()
def tw7483974038728981308:Unit:=()
def tw5463086369340249264:Unit:=()
def tw7004891413054791195:Unit:=()
def tw10834982678259289700:Unit:=()
def tw3801043317207155793:Unit:=()
def tw17785819610507135754:Unit:=()
def tw17629304489611230120:Unit:=()
def tw893864601422105782:Unit:=()
def tw6361574323751917956:Unit:=()
def tw18341567776625327717:Unit:=()
def tw12177073770807462894:Unit:=()
def tw17776424435529734268:Unit:=()
def tw14718293512776947100:Unit:=()
def tw9177854690153224464:Unit:=()
def tw17219595670337644777:Unit:=()
def tw9712934709725295339:Unit:=()
def tw947225410457556835:Unit:=()
def tw17223964113182075112:Unit:=()
def tw6887799031944551201:Unit:=()
def tw10441923308941992055:Unit:=()
def tw213413176808730912:Unit:=()
def tw18077761497185441149:Unit:=()
def tw15024839920542114817:Unit:=()
def tw2546838563919071742:Unit:=()
def tw16017588105713299072:Unit:=()
def tw12930699650771744574:Unit:=()
def tw14795602478809699902:Unit:=()
def tw8337029658523391204:Unit:=()
def tw9544489537514286031:Unit:=()
def tw1896114848828058681:Unit:=()
def tw6313187011119634595:Unit:=()
def tw4799101355521250046:Unit:=()
def tw12509109929241384739:Unit:=()
def tw17373758266820581110:Unit:=()
def tw14151133971838563561:Unit:=()
def tw1701330721181126794:Unit:=()
def tw9351754677246213522:Unit:=()
def tw2678308780512441264:Unit:=()
def tw670799593636438079:Unit:=()
def tw13064562370148667821:Unit:=()
def tw8790865386457138394:Unit:=()
def tw13743730417723351827:Unit:=()
def tw17041897501705180843:Unit:=()
def tw14584260582739037893:Unit:=()
def tw1545319674773235512:Unit:=()
def tw2697613156297027823:Unit:=()
def tw3615248544729522727:Unit:=()
def tw16785978573707799518:Unit:=()
def tw14939580227600117176:Unit:=()
def tw15515255374985007444:Unit:=()
def tw15595810297020330882:Unit:=()
def tw6213066497080004508:Unit:=()
def tw15692636518615902595:Unit:=()
def tw3822263628544378497:Unit:=()
def tw14043827929135716496:Unit:=()
def tw15823373988661763607:Unit:=()
def tw85591505078042183:Unit:=()
def tw10665974054654126204:Unit:=()
def tw17686357501821471647:Unit:=()
def tw16533007088707432315:Unit:=()
def tw12838086967378461615:Unit:=()
def tw6229545337568688996:Unit:=()
def tw13324947478100196969:Unit:=()
def tw10159234263624618736:Unit:=()
def tw6602008323386612107:Unit:=()
def tw4452348378372576372:Unit:=()
end PySem.W.Fast
open PySem PySem.W PyProof.Rows
set_option maxRecDepth 100000 in
set_option maxHeartbeats 0 in
theorem PySem.Challenge.cw_bandwright_k54_what_two_rows_have_in_com_holds : PySem.Challenge.rw_bandwright_k54_what_two_rows_have_in_com.Holds := by
 w_on;o_law;k_head;(case hw=>w_witness2)
 k_fill
 refine My.walk (l:=PySem.Challenge.rw_bandwright_k54_what_two_rows_have_in_com) rfl rfl (fun w h Y=>PySem.W.kIn_of Y) ?F
 case F=>
  intro w mg fa h KX G vm
  have T:∃t,My.Txt (L2.F4 KX) mg t:=by
   dsimp only [L2.F4]
   refine' My.VL KX G ?DX ?DY ?DZ ?D6 (bY KX G ?Ww) (L2.ck (st:=My.yG) ?Wx ?Wy ?Wz) (bY KX G ?WA) (L2.ck (st:=My.yH) ?WB ?WC ?WD) (bY KX G ?WE) (L2.ck (st:=My.yI) ?WG ?WH ?WI) (bY KX G ?WJ) (L2.ck (st:=My.yJ) ?WK ?WL ?WM) (bY KX G ?WN) (L2.ck (st:=My.yK) ?WO ?WQ ?WR) (bY KX G ?WS) (L2.ck (st:=My.yL) ?WT ?WU ?WV) (bY KX G ?WX) (L2.ck (st:=My.yM) ?WY ?WZ ?W3) (bY KX G ?W4) (L2.ck (st:=My.yN) ?W5 ?W6 ?W7) (bY KX G ?W8) (L2.ck (st:=My.yO) ?W9 ?W_ ?Xa) (bY KX G ?Xb) (L2.ck (st:=My.yP) ?Xc ?Xd ?Xe) (bY KX G ?Xf) (L2.ck (st:=My.yQ) ?Xg ?Xh ?Xi) (bY KX G ?Xj) (L2.ck (st:=My.yR) ?Xk ?Xl ?Xm) (bY KX G ?Xn) (L2.ck (st:=My.yS) ?Xo ?Xp ?Xq) (bY KX G ?Xr) (L2.ck (st:=My.yT) ?Xs ?Xu ?Xv) (bY KX G ?Xw) (L2.ck (st:=My.yU) ?Xx ?Xy ?Xz) (bY KX G ?XA) (L2.ck (st:=My.yV) ?XC ?XD ?XE) (bY KX G ?XF) (L2.ck (st:=My.yW) ?XG ?XH ?XI) (bY KX G ?XJ) (L2.ck (st:=My.yX) ?XM ?XN ?XO) (bY KX G ?XQ) (L2.ck (st:=My.yY) ?XR ?XS ?XT) (bY KX G ?XU) (L2.ck (st:=My.yZ) ?XW ?XX ?XY) (bY KX G ?XZ) (L2.ck (st:=My.y3) ?X0 ?X3 ?X4) (bY KX G ?X5) (L2.ck (st:=My.y4) ?X6 ?X7 ?X8) (bY KX G ?X9) (L2.ck (st:=My.y6) ?X_ ?Yb ?Yc) (bY KX G ?Yd) (L2.ck (st:=My.y7) ?Ye ?Yg ?Yh) (bY KX G ?Yi) (L2.ck (st:=My.y8) ?Yj ?Yk ?Yl) (bY KX G ?Ym) (L2.ck (st:=My.y_) ?Yn ?Yo ?Yp) (bY KX G ?Yq) (L2.ck (st:=My.za) ?Yr ?Ys ?Yt) (bY KX G ?Yu) (L2.ck (st:=My.zb) ?Yv ?Yw ?Yx) (bY KX G ?Yy) (L2.ck (st:=My.zc) ?Yz ?YA ?YB) (bY KX G ?YC) (L2.ck (st:=My.zd) ?YD ?YE ?YF) (bY KX G ?YG) (L2.ck (st:=My.ze) ?YH ?YI ?YJ) (bY KX G ?YK) (L2.ck (st:=My.zf) ?YL ?YM ?YN) (bY KX G ?YO) (L2.ck (st:=My.zg) ?YQ ?YR ?YS) (bY KX G ?YT) (L2.ck (st:=My.zh) ?YU ?YV ?YW) (bY KX G ?YX) (L2.ck (st:=My.zi) ?YY ?YZ ?Y0) (bY KX G ?Y3) (L2.ck (st:=My.zj) ?Y4 ?Y5 ?Y6) ⟨?Y7,?Y8,?Y9,?Y_⟩ (L2.ck (st:=My.zk) ?Za ?Zb ?Zc) ?D7 ?D8 ?uF ?uH ?qB ?uI ⟨?Zd,?Ze,?Zf⟩ (L2.ck (st:=My.zm) ?Zg ?Zh ?Zi) ⟨?Zj,?Zk,?Zl⟩ (L2.ck (st:=My.zo) ?Zm ?Zn ?Zo) ?D9 ?D_ ?Ea ?Eb ?Ec ?Ed ?Ef ?Eg ?Eh ?Ei ?Ej ?Ek ?El ?Em ?En ?Eo ?Ep ?Er ?Es ?Et ?Eu ?Ew ?Ex ?Ey ?Ez ?EA ?EB ?EC ?ED ?EE ?EF ?EG ?EH ?EI ?EJ
   (case DX|DY|DZ|D6|Ww|Wx|Wy|Wz|WA|WB|WC|WD|WE|WG|WH|WI|WJ|WK|WL|WM|WN|WO|WQ|WR|WS|WT|WU|WV|WX|WY|WZ|W3|W4|W5|W6|W7|W8|W9|W_|Xa|Xb|Xc|Xd|Xe|Xf|Xg|Xh|Xi|Xj|Xk|Xl|Xm|Xn|Xo|Xp|Xq|Xr|Xs|Xu|Xv|Xw|Xx|Xy|Xz|XA|XC|XD|XE|XF|XG|XH|XI|XJ|XM|XN|XO|XQ|XR|XS|XT|XU|XW|XX|XY|XZ|X0|X3|X4|X5|X6|X7|X8|X9|X_|Yb|Yc|Yd|Ye|Yg|Yh|Yi|Yj|Yk|Yl|Ym|Yn|Yo|Yp|Yq|Yr|Ys|Yt|Yu|Yv|Yw|Yx|Yy|Yz|YA|YB|YC|YD|YE|YF|YG|YH|YI|YJ|YK|YL|YM|YN|YO|YQ|YR|YS|YT|YU|YV|YW|YX|YY|YZ|Y0|Y3|Y4|Y5|Y6|Y7|Y8|Y9|Y_|Za|Zb|Zc|D7|D8|uF|uH|qB|uI|Zd|Ze|Zf|Zg|Zh|Zi|Zj|Zk|Zl|Zm|Zn|Zo|D9|D_|Ea|Eb|Ec|Ed|Ef|Eg|Eh|Ei|Ej|Ek|El|Em|En|Eo|Ep|Er|Es|Et|Eu=>k_is)
   (case Ew|Ex|Ey=>k_exc)
   (case Ez|EA=>k_is)
   (case EB|EC|ED=>kit_is)
   (case EE|EF|EG|EH|EI|EJ=>k_is)
  obtain ⟨t,T⟩:=T
  have e0:=vm.symm.trans T.JD
  cases e0
  exact My.VJ T
#print axioms PySem.Challenge.cw_bandwright_k54_what_two_rows_have_in_com_holds
