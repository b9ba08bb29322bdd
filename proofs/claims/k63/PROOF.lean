import PyProof.Rows.All
import Wide.All
import OpenK.AllK
import Wide.FinOn
import Lean
import PyProof.EqAt
import PyProof.EqKinds
import PyProof.TupleCall
import PySem.Challenge.RW_bandwright_k63_backs_of_turned_rows
set_option Elab.async false
set_option linter.all false
set_option maxRecDepth 100000
abbrev fM:=@decide_eq_false
abbrev vv:=@beq_eq_false_iff_ne
abbrev ar:=@if_pos
abbrev ao:=@if_neg
abbrev b8:=@PySem.Heap.lt_size
abbrev dW:=@Nat.lt_of_lt_of_le
abbrev gN:=@Nat.lt_irrefl
abbrev ej:=@Nat.ne_of_lt
abbrev yh:=@PySem.W.hideAll_get
abbrev vw:=@List.mem_range
abbrev ae:=@Nat.le_trans
abbrev yi:=@List.filterMap_cons
abbrev kL:=@List.mem_cons_self
abbrev gO:=@List.mem_cons_of_mem
abbrev dX:=@List.mem_cons
abbrev h_:=@List.mem_append
abbrev cU:=@List.getElem?_eq_some_iff
abbrev vx:=@List.getElem?_set_self
abbrev vy:=@List.getElem?_set_ne
abbrev cS:=@PySem.wpAny_mono
abbrev kM:=@PySem.wpAny_truthy_bool
abbrev fN:=@congrArg
abbrev yj:=@PySem.wpAny_execs_nil
abbrev cI:=@PySem.wpAny_bind
abbrev eY:=@PySem.wpAny_pure
abbrev yk:=@PySem.wpAny_newObj_type
abbrev dD:=@PySem.Heap.get?_push_of_some
abbrev oq:=@PySem.wpAny_passesOwn
abbrev dm:=@Bool.false_ne_true
abbrev fO:=@Int.mul_one
abbrev gP:=@PySem.Heap.get?_push_size
abbrev aN:=@Nat.le_refl
abbrev vz:=@PyProof.Rows.callWith_type1
abbrev eZ:=@List.mem_append_right
abbrev b9:=@Nat.zero_le
abbrev vA:=@Int.fdiv_eq_ediv_of_nonneg
abbrev vB:=@Bool.eq_iff_iff
abbrev jT:=@beq_iff_eq
abbrev fi:=@List.length_cons
abbrev yl:=@PySem.W.looks_findIn
abbrev rB:=@List.map_cons
abbrev aT:=@List.length_map
abbrev iP:=@Nat.le_of_eq
abbrev ia:=@PySem.W.kia_one
abbrev ot:=@List.append_nil
abbrev ym:=@PySem.wpAny_Call_Name_kw
abbrev yn:=@List.nodup_cons
abbrev rC:=@List.of_mem_zip
abbrev l_:=@List.length_take
abbrev kO:=@PySem.mem_of_lookup
abbrev gQ:=@List.getElem?_append_right
abbrev kP:=@List.getElem?_replicate
abbrev ib:=@List.getElem?_append_left
abbrev fP:=@List.getElem?_map
abbrev B0:=@List.getElem?_take_of_lt
abbrev jh:=@List.length_append
abbrev gR:=@List.length_replicate
abbrev dI:=@Int.toNat_natCast
abbrev dN:=@List.size_toArray
abbrev kR:=@List.replicate_succ
abbrev vC:=@List.flatten_cons
abbrev ic:=@List.append_assoc
abbrev B4:=@List.length_singleton
abbrev fj:=@List.nil_append
abbrev ji:=@Nat.mul_comm
abbrev dE:=@decide_eq_true
abbrev bq:=@PySem.W.mg_of
abbrev fV:=@Nat.lt_of_le_of_lt
abbrev yo:=@Bool.and_eq_true
abbrev B5:=@PySem.F.typeOf_object_class
abbrev vD:=@PySem.wpAny_loadPart_at
abbrev ou:=@Nat.not_lt_zero
abbrev vE:=@List.all_eq_true
abbrev rD:=@decide_eq_true_eq
abbrev yp:=@List.forall_mem_cons
abbrev B6:=@PySem.wpAny_comprehension_free
abbrev ma:=@PySem.lookup_relabel_local
abbrev B7:=@PySem.codeAny_compStart_list
abbrev fk:=@List.getD_eq_getElem?_getD
abbrev iQ:=@List.mem_singleton
abbrev gj:=@List.getElem_mem
abbrev B8:=@Nat.gcd_pos_of_pos_right
abbrev gk:=@Int.natAbs_pos
abbrev dn:=@Nat.pow_le_pow_right
abbrev jU:=@Int.mul_le_mul_of_nonneg_left
abbrev cF:=@Int.mul_zero
abbrev vF:=@Int.gcd_dvd_left
abbrev ox:=@Int.gcd_dvd_right
abbrev a7:=@Int.natAbs_mul
abbrev md:=@Int.natAbs_ediv_le_natAbs
abbrev me:=@Int.mul_ediv_cancel_left
abbrev iR:=@Int.dvd_refl
abbrev jV:=@Int.mul_comm
abbrev rE:=@Int.le_of_dvd
abbrev dY:=@Nat.mul_le_mul_left
abbrev B9:=@Nat.le_of_mul_le_mul_right
abbrev B_:=@Int.emod_add_mul_ediv
abbrev dJ:=@Int.emod_lt_of_pos
abbrev du:=@Int.emod_nonneg
abbrev jj:=@Int.dvd_trans
abbrev vG:=@Int.dvd_mul_right
abbrev jW:=@Int.mul_add
abbrev ie:=@Int.mul_assoc
abbrev vH:=@Int.mul_emod
abbrev mh:=@Int.emod_eq_of_lt
abbrev rF:=@Int.zero_sub
abbrev yq:=@Int.fdiv_eq_ediv_of_dvd
abbrev gq:=@Int.mul_neg
abbrev yr:=@Int.gcd_one_right
abbrev Ca:=@Int.eq_of_mul_eq_mul_right
abbrev dw:=@Int.dvd_zero
abbrev Cb:=@Int.dvd_of_emod_eq_zero
abbrev kS:=@Nat.sub_self
abbrev jX:=@List.not_mem_nil
abbrev jY:=@or_false
abbrev oy:=@Nat.le_add_right
abbrev yt:=@PySem.Around.in1_units
abbrev Cc:=@List.getElem?_zip_eq_some
abbrev yu:=@List.ext_getElem?
abbrev kT:=@List.getElem?_eq_none
abbrev vI:=@Int.dvd_mul_left
abbrev fW:=@Nat.mul_le_mul_right
abbrev gr:=@Int.zero_dvd
abbrev iS:=@List.cons_append
abbrev fm:=@List.mem_map
abbrev fo:=@Nat.pow_succ
abbrev jk:=@Int.zero_mul
abbrev oz:=@Int.add_zero
abbrev vJ:=@Nat.zero_add
abbrev rH:=@Nat.pow_one
abbrev gu:=@Int.natAbs_pow
abbrev vK:=@Nat.eq_of_mul_eq_mul_left
abbrev jZ:=@Nat.pow_pos
abbrev mi:=@Nat.mul_assoc
abbrev kU:=@Int.one_mul
abbrev rJ:=@Nat.sub_zero
abbrev mj:=@List.length_eq_zero_iff
abbrev bE:=@Nat.mul_le_mul
abbrev Cd:=@Int.natAbs_dvd_natAbs
abbrev mq:=@Nat.add_sub_cancel
abbrev rK:=@List.map_append
abbrev vL:=@Int.natAbs_add_le
abbrev oA:=@Nat.add_le_add
abbrev mw:=@Int.mul_sub
abbrev jn:=@List.getElem_map
abbrev fQ:=@Nat.le_mul_of_pos_right
abbrev yv:=@List.length_zip
abbrev vM:=@Int.zero_add
abbrev yw:=@List.mem_replicate
abbrev oB:=@Nat.two_mul
abbrev rN:=@Int.mul_right_comm
abbrev ig:=@List.getElem_of_mem
abbrev vN:=@Int.pow_zero
abbrev vO:=@Int.pow_succ
abbrev Ce:=@Classical.byContradiction
abbrev oC:=@Int.sub_eq_zero
abbrev iT:=@List.length_pos_iff
abbrev fR:=@Nat.le_mul_of_pos_left
abbrev di:=@of_decide_eq_true
abbrev yx:=@Nat.mod_eq_of_lt
abbrev eo:=@PySem.PassesOwn.never
abbrev cm:=@PySem.boot_len
abbrev rO:=@PySem.F.excBase_ValueError
abbrev vP:=@Int.ediv_nonneg
abbrev dZ:=@List.set_cons_zero
abbrev d0:=@List.set_cons_succ
abbrev gw:=@List.length_range
abbrev gx:=@PySem.W.mg_none_of
abbrev Ya:=List (List (Int×Int))
abbrev aJ:=List (Int×Int)
abbrev Nh:=Nat→Nat→Int
abbrev dj:=PySem.Str→Option PySem.Value
abbrev b_:=PySem.Value→PySem.Shared→Prop
abbrev aE:=PySem.W.Frag
abbrev aY:=List (PySem.Addr×PySem.Obj)
namespace L2
open PySem PySem.Spec PyProof.Rows
abbrev Key:=Sum Int Str
def FV:Key→Value→Bool
 | .inl k,v=>Value.isInt k v
 | .inr x,v=>Value.isStrOf x v
def Ni(w:World):Key→Int
 | .inl k=>hashInt k
 | .inr x=>hashStr w x
theorem kW:∀{k:Key} {v:Value},FV k v=true→(∃i t,k=Sum.inl i∧v=Value.int i t)∨(∃x t,k=Sum.inr x∧v=Value.str x t)
 | .inl i,v,h=>by obtain ⟨t,e⟩:=Value.isInt_shape (k:=i) (v:=v) h;exact .inl ⟨i,t,rfl,e⟩
 | .inr x,v,h=>by obtain ⟨t,e⟩:=Value.isStrOf_shape (x:=x) (v:=v) h;exact .inr ⟨x,t,rfl,e⟩
theorem Nj(a b:Int):decide ((Sum.inl a:Key)=Sum.inl b)=(a == b):=by
 by_cases e:a=b;·subst e;simp
 ·have h:¬(Sum.inl a:Key)=Sum.inl b:=fun q=>e (Sum.inl.inj q)
  rw [fM h];exact (vv.mpr e).symm
theorem Nk(a b:Str):decide ((Sum.inr a:Key)=Sum.inr b)=decide (a=b):=by
 by_cases e:a=b;·subst e;simp
 ·have h:¬(Sum.inr a:Key)=Sum.inr b:=fun q=>e (Sum.inr.inj q)
  rw [fM h,fM e]
theorem Nl(a:Int)(b:Str):decide ((Sum.inl a:Key)=Sum.inr b)=false:=fM (fun q=>nomatch q)
theorem Nm(a:Str)(b:Int):decide ((Sum.inr a:Key)=Sum.inl b)=false:=fM (fun q=>nomatch q)
def FX(prog:Program)(w:World):PySem.KeyKind prog w Key where
 is:=FV
 hash:=Ni w
 inj:=fun v a b ha hb=>by
  rcases kW ha with ⟨i,t,rfl,rfl⟩ | ⟨x,t,rfl,rfl⟩
  ·rcases kW hb with ⟨j,u,rfl,e⟩ | ⟨y,u,rfl,e⟩
   ·injection e with e1 _;rw [e1]
   ·exact nomatch e
  ·rcases kW hb with ⟨j,u,rfl,e⟩ | ⟨y,u,rfl,e⟩
   ·exact nomatch e
   ·injection e with e1 _;rw [e1]
 byValue:=fun k v h=>by
  rcases kW h with ⟨i,t,rfl,rfl⟩ | ⟨x,t,rfl,rfl⟩ <;> rfl
 pyHash:=fun hv h=>by
  rcases kW hv with ⟨i,t,rfl,rfl⟩ | ⟨x,t,rfl,rfl⟩
  ·exact wpAny_pyHash_int h
  ·exact wpAny_pyHash_str h
 eqBool:=fun hu hv h=>by
  rcases kW hu with ⟨i,t,rfl,rfl⟩ | ⟨x,t,rfl,rfl⟩
  ·rcases kW hv with ⟨j,u,rfl,rfl⟩ | ⟨y,u,rfl,rfl⟩
   ·rw [Nj] at h;exact wpAny_eqBool_int h
   ·rw [Nl] at h;exact SeqAt.EqAt.int_str i t y u _ _ _ _ h
  ·rcases kW hv with ⟨j,u,rfl,rfl⟩ | ⟨y,u,rfl,rfl⟩
   ·rw [Nm] at h;exact SeqAt.EqAt.str_int x t j u _ _ _ _ h
   ·rw [Nk] at h;exact wpAny_eqBool_str h
 «strs»:=fun k x t v h=>by
  rcases kW h with ⟨i,u,rfl,e⟩ | ⟨y,u,rfl,e⟩
  ·exact nomatch e
  ·injection e with e1 _
   subst e1
   cases v <;> rfl
inductive V where
 | aV | bl (b:Bool) | int (i:Int) | str (x:Str) | iU (b:Array UInt8) | oE (b:UInt64) | ref (a:Addr) | ty (n:String)
 deriving DecidableEq
def RelV:V→Value→Prop
 | .aV,u=>u=Value.none
 | .bl b,u=>u=Value.bool b
 | .int i,u=>∃t,u=Value.int i t
 | .str x,u=>∃t,u=Value.str x t
 | .iU b,u=>∃t,u=Value.bytes b t
 | .oE b,u=>∃t,u=Value.float b t
 | .ref a,u=>u=Value.ref a
 | .ty n,u=>u=Value.type n
abbrev Vals:List V→List Value→Prop:=Paired RelV
variable {xs:List V} {us:List Value}
theorem Vals.length(r:Vals xs us):xs.length=us.length:=Paired.length r
theorem Vals.get:∀{xs:List V} {us:List Value} {i:Nat} {x:V},Vals xs us→xs[i]?=some x→∃u,us[i]?=some u∧RelV x u
 | _,_,_,_,.nil,e=>by simp at e
 | _,_,0,_,.cons r _,e=>by simp at e;subst e;exact ⟨_,rfl,r⟩
 | _,_,i+1,x,.cons _ t,e=>by
  obtain ⟨u,h1,h2⟩:=Vals.get (i:=i) (x:=x) t (by simpa using e)
  exact ⟨u,by simpa using h1,h2⟩
theorem Vals.set{x:V}{u:Value}(r:RelV x u):∀{xs:List V} {us:List Value} (i:Nat),Vals xs us→Vals (xs.set i x) (us.set i u)
 | _,_,_,.nil=>.nil
 | _,_,0,.cons _ t=>.cons r t
 | _,_,i+1,.cons q t=>.cons q (Vals.set r i t)
theorem Vals.append:∀{xs ys:List V} {us ws:List Value},Vals xs us→Vals ys ws→Vals (xs++ys) (us++ws)
 | _,_,_,_,.nil,s=>s
 | _,_,_,_,.cons r t,s=>.cons r (Vals.append t s)
theorem Vals.take:∀{xs:List V} {us:List Value} (n:Nat),Vals xs us→Vals (xs.take n) (us.take n)
 | _,_,0,_=>.nil
 | _,_,_+1,.nil=>.nil
 | _,_,n+1,.cons r t=>.cons r (Vals.take n t)
theorem Vals.drop:∀{xs:List V} {us:List Value} (n:Nat),Vals xs us→Vals (xs.drop n) (us.drop n)
 | _,_,0,r=>r
 | _,_,_+1,.nil=>.nil
 | _,_,n+1,.cons _ t=>Vals.drop n t
theorem Vals.none_of:∀{xs:List V} {us:List Value} {i:Nat},Vals xs us→xs[i]?=none→us[i]?=none:=fun{xs us i} r e=>by have h1:=r.length;have h2:xs.length≤i:=List.getElem?_eq_none_iff.mp e;exact List.getElem?_eq_none_iff.mpr (by lia)
def j4:Option V→Option Value→Prop
 | some v,some u=>RelV v u
 | none,none=>True
 | _,_=>False
def KV{κ:Type}:List (κ×V)→List (κ×Value)→Prop:=Paired fun(p:κ×V) (q:κ×Value)=>p.1=q.1∧RelV p.2 q.2
def kV:Key→V
 | .inl i=>.int i
 | .inr x=>.str x
inductive HO where
 | lst (xs:List V)
 | tup (xs:List V)
 | dK (dF:List (Key×V)) | dT (dF:List (List Key×V))
 | set (S:Int→Bool) (n:Nat)
 | ins (C dx:Addr) (fs:List (Str×V))
 | own (x:Addr)
 | xd (fs:List (Str×V))
 | met (f x:Addr)
 | Cf (lo hi:Int)
 | fX (o:Obj) (u:HO)
 | kX (ps:Array Value)
 | ext (φ:Heap→Prop)
abbrev Hp:=Addr→Option HO
def upd(H:Hp)(a:Addr)(o:HO):Hp:=fun b=>if b=a then some o else H b
variable {H:Hp} {o:HO}
theorem av{a:Addr}:upd H a o a=some o:=by unfold upd;rw [ar rfl]
variable {b:Addr}
theorem b7{a:Addr}(h:b≠a):upd H a o b=H b:=by unfold upd;rw [ao h]
theorem fq{a:Addr}(h:H a=some o)(h':H b=none):a≠b:=by intro e;subst e;rw [h] at h';cases h'
section
variable (P:Program) (w:World)
def d6(H:Hp)(h:Heap)(a:Addr):HO→Prop
 | .lst xs=>xs.length≤sizeLine∧∃(aq:List Value) (n:Nat),Vals xs aq∧h.get? a=some {cls:=.type "list",data:=.seq aq.toArray n}
 | .tup xs=>xs.length≤sizeLine∧∃aq:List Value,Vals xs aq∧IsTup h a aq.toArray
 | .dK dF=>dF.length≤sizeLine∧(a == sysModules)=false∧∃vs,KV dF vs∧h.DictOf (FX P w) a vs
 | .dT dF=>dF.length≤sizeLine∧(a == sysModules)=false∧∃xs:List (List Key×Addr×Value),
   Paired (fun(p:List Key×V) (q:List Key×Addr×Value)=>p.1=q.1∧H q.2.1=some (.tup (p.1.map kV))∧RelV p.2 q.2.2) dF xs ∧
   ∃o es ep,h.get? a=some o∧o.ExactDict∧o.data=.dict es ep∧es.toList=xs.map (entryOfKey (tupleKind (FX P w)))∧(xs.map (·.1)).Nodup
 | .set S n=>h.SetOf (intKind P w) a S n
 | .ins C dx fs=>H dx=some (.own a)∧fs.length≤1000∧dx≠a∧h.get? a=some (PySem.W.instObj C dx) ∧
   ∃mA,h.Ns1 dx mA∧(∀f,j4 (fs.lookup f) (mA f))∧PySem.Within mA (fs.map (·.1))
 | .own _=>∃o,h.get? a=some o
 | .xd fs=>∃mA,h.Ns1 a mA∧∀f,j4 (fs.lookup f) (mA f)
 | .Cf lo hi=>∃t u v,h.get? a=some {cls:=.type "range",data:=.fields #[.int lo t,.int hi u,.int 1 v]}
 | .fX o u=>h.get? a=some o∧d6 H h a u
 | .kX ps=>h.get? a=some {cls:=.none,data:=.fields ps}
 | .met f x=>h.get? a=some (PySem.W.methodObj (.ref f) (.ref x))
 | .ext φ=>φ h∧(∃o,h.get? a=some o)∧∀h1 h2:Heap,φ h1→(∀o,h1.get? a=some o→h2.get? a=some o)→φ h2
def cL(H:Hp)(h:Heap):Prop:=∀a o,H a=some o→d6 P w H h a o
end
section
variable {P:Program} {w:World} {H H':Hp} {h h':Heap} {a:Addr} {o:HO}
theorem d6.lt(x:d6 P w H h a o):a<h.objs.size:=by
 cases o with
 | lst xs=>obtain ⟨_,_,_,_,e⟩:=x;exact b8 e
 | tup xs=>obtain ⟨_,_,_,p⟩:=x;exact p.lt
 | dK dF=>obtain ⟨_,_,_,_,o,_,_,e,_⟩:=x;exact b8 e
 | dT dF=>obtain ⟨_,_,_,_,o,_,_,e,_⟩:=x;exact b8 e
 | set S n=>obtain ⟨o,_,_,_,e,_⟩:=x;exact b8 e
 | ins C dx fs=>obtain ⟨_,_,_,e,_⟩:=x;exact b8 e
 | own y=>obtain ⟨_,e⟩:=x;exact b8 e
 | xd fs=>obtain ⟨_,⟨_,_,_,e,_⟩,_⟩:=x;exact b8 e
 | Cf lo hi=>obtain ⟨_,_,_,e⟩:=x;exact b8 e
 | fX ob u=>obtain ⟨e,_⟩:=x;exact b8 e
 | kX ps=>exact b8 (show h.get? a=some _ from x)
 | met f y=>exact b8 (show h.get? a=some _ from x)
 | ext φ=>obtain ⟨_,⟨_,e⟩,_⟩:=x;exact b8 e
theorem Paired.Gy{α β:Type}{F G:α→β→Prop}:∀{l₁:List α} {l₂:List β},Paired F l₁ l₂→(∀a b,F a b→G a b)→Paired G l₁ l₂
 | _,_,.nil,_=>.nil
 | _,_,.cons r t,f=>.cons (f _ _ r) (Paired.Gy t f)
theorem d6.ik(x:d6 P w H h a o)(k:∀b u,(b=a∨H b=some (.own a))→h.get? b=some u→h'.get? b=some u)
  (ho:∀b,H b=some (.own a)→H' b=some (.own a)) (ht:∀b xs,H b=some (.tup xs)→H' b=some (.tup xs)):d6 P w H' h' a o:=by
 induction o with
 | lst xs=>obtain ⟨z,aq,n,r,e⟩:=x;exact ⟨z,aq,n,r,k _ _ (.inl rfl) e⟩
 | tup xs=>obtain ⟨z,aq,r,ob,e,c⟩:=x;exact ⟨z,aq,r,ob,k _ _ (.inl rfl) e,c⟩
 | dK dF=>obtain ⟨z,y,vs,r,ob,es,ep,e,c⟩:=x;exact ⟨z,y,vs,r,ob,es,ep,k _ _ (.inl rfl) e,c⟩
 | dT dF=>obtain ⟨z,y,xs,r,ob,es,ep,e,c⟩:=x;exact ⟨z,y,xs,Paired.Gy r fun p q z=>⟨z.1,ht _ _ z.2.1,z.2.2⟩,ob,es,ep,k _ _ (.inl rfl) e,c⟩
 | set S n=>obtain ⟨ob,es,ep,t,e,c⟩:=x;exact ⟨ob,es,ep,t,k _ _ (.inl rfl) e,c⟩
 | ins C dx fs=>obtain ⟨d,z,ne,e,mA,⟨od,es,ep,e2,c⟩,r⟩:=x;exact ⟨ho _ d,z,ne,k _ _ (.inl rfl) e,mA,⟨od,es,ep,k _ _ (.inr d) e2,c⟩,r⟩
 | own y=>obtain ⟨ob,e⟩:=x;exact ⟨ob,k _ _ (.inl rfl) e⟩
 | xd fs=>obtain ⟨mA,⟨od,es,ep,e,c⟩,r⟩:=x;exact ⟨mA,⟨od,es,ep,k _ _ (.inl rfl) e,c⟩,r⟩
 | Cf lo hi=>obtain ⟨t,u,v,e⟩:=x;exact ⟨t,u,v,k _ _ (.inl rfl) e⟩
 | fX ob u ih=>obtain ⟨e,q⟩:=x;exact ⟨k _ _ (.inl rfl) e,ih q⟩
 | kX ps=>have e:h.get? a=some {cls:=.none,data:=.fields ps}:=x;show h'.get? a=some {cls:=.none,data:=.fields ps};exact k a _ (.inl rfl) e
 | met f y=>have e:h.get? a=some (PySem.W.methodObj (.ref f) (.ref y)):=x;show h'.get? a=some (PySem.W.methodObj (.ref f) (.ref y));exact k a _ (.inl rfl) e
 | ext φ=>obtain ⟨p,⟨o,e⟩,st⟩:=x;exact ⟨st _ _ p fun o q=>k _ _ (.inl rfl) q,⟨o,k _ _ (.inl rfl) e⟩,st⟩
theorem cL.lt(x:cL P w H h)(e:H a=some o):a<h.objs.size:=(x a o e).lt
theorem cL.fresh(x:cL P w H h)(e:h.objs.size≤a):H a=none:=by
 cases q:H a with
 | none=>rfl
 | some u=>exact absurd (dW (x.lt q) e) (gN _)
theorem cL.kept(x:cL P w H h)(k:∀b u,h.get? b=some u→h'.get? b=some u):cL P w H h':=fun a o e=>(x a o e).ik (fun b u _ q=>k b u q) (fun _ q=>q) fun _ _ q=>q
theorem cL.laid(x:cL P w H h)(k:∀b u,h.get? b=some u→h'.get? b=some u)(hp:h.objs.size≤a)(new:d6 P w (upd H a o) h' a o):cL P w (upd H a o) h':=fun b u e=>by
 have hn:=x.fresh hp;by_cases hb:b=a;·subst hb;rw [av] at e;cases e;exact new
 ·rw [b7 hb] at e
  exact (x b u e).ik (fun c v _ q=>k c v q) (fun c q=>by rw [b7 (fq q hn)];exact q) fun c xs q=>by rw [b7 (fq q hn)];exact q
end
def Rd(H:Hp)(a:Addr)(u:HO):Prop:=H a=some u∨∃o,H a=some (.fX o u)
variable {P:Program} {w:World} {h:Heap}
theorem Rd.ok{a:Addr}{u:HO}(r:Rd H a u)(x:cL P w H h):d6 P w H h a u:=by
 rcases r with r | ⟨o,r⟩;·exact x a u r
 ·obtain ⟨_,q⟩:=x a _ r
  exact q
def yy:Option HO→Prop
 | some (.lst _)=>True
 | some (.dK _)=>True
 | some (.dT _)=>True
 | some (.set _ _)=>True
 | some (.ins _ _ _)=>True
 | some (.ext _)=>True
 | _=>False
section
variable {P:Program} {w:World} {H:Hp} {h h':Heap} {x e:Addr} {o':HO}
theorem cL.write(ok:cL P w H h)(mu:yy (H x))(he:e=x∨H e=some (.own x))(k:∀b u,b≠e→h.get? b=some u→h'.get? b=some u)(rP:∃u,h'.get? e=some u)
  (new:d6 P w (upd H x o') h' x o'):cL P w (upd H x o') h':=fun b u q=>by
 have Gz:∀c y,H c=some (.own y)→c≠x:=fun c y r z=>by subst z;rw [r] at mu;exact mu
 have Nn:∀c xs,H c=some (.tup xs)→c≠x:=fun c xs r z=>by subst z;rw [r] at mu;exact mu
 by_cases hb:b=x;·subst hb;rw [av] at q;cases q;exact new
 ·rw [b7 hb] at q
  by_cases oF:b=e
  ·have q':H b=some (.own x):=by
    rcases he with z | z;·exact absurd (oF.trans z) hb
    ·rw [oF];exact z
   rw [q] at q';cases q';obtain ⟨v,hv⟩:=rP;exact ⟨v,by rw [oF];exact hv⟩
  ·refine (ok b u q).ik (fun c v hc r=>k c v ?_ r) (fun c r=>by rw [b7 (Gz c b r)];exact r) fun c xs r=>by rw [b7 (Nn c xs r)];exact r
   rcases hc with rfl | hc;·exact oF
   ·rintro rfl
    rcases he with z | z;·exact Gz c b hc z
    ·rw [hc] at z;cases z;exact hb rfl
end
structure Un (fs ex:List Addr) (H H':Hp) (h h':Heap):Prop where
 keep:∀b o,h.get? b=some o→H b=none→b∉fs→b∉ex→h'.get? b=some o
 slot:∀b o,h.get? b=some o→H b=none→b∈fs→b∉ex→∃sl,h'.get? b=some {o with slots:=sl}
 free:∀b o,h.get? b=some o→H b=none→b∉ex→H' b=none
 there:∀b o,h.get? b=some o→b∉ex→∃o',h'.get? b=some o'
 gy:∀b xs,H b=some (.tup xs)→H' b=some (.tup xs)
 fY:∀b o u,H b=some (.fX o u)→H' b=some (.fX o u)
 gz:∀b ps,H b=some (.kX ps)→∃more,H' b=some (.kX (ps++more))
section
variable {fs Np ex my:List Addr} {H H1 H2:Hp} {h h1 h2 h':Heap} {a x e:Addr} {o:HO}
theorem Un.any(u:Un fs ex H H1 h h1){ob:Obj}(q:h.get? b=some ob)(n:H b=none)(hx:b∉ex):∃sl,h1.get? b=some {ob with slots:=sl}:=by
 by_cases hb:b∈fs;·exact u.slot b ob q n hb hx
 ·exact ⟨ob.slots,u.keep b ob q n hb hx⟩
theorem Un.kept(k:∀b u,h.get? b=some u→h'.get? b=some u):Un fs ex H H h h':=
 ⟨fun b ob q _ _ _=>k b ob q,fun b ob q _ _ _=>⟨ob.slots,k b ob q⟩,fun _ _ _ n _=>n,fun b ob q _=>⟨ob,k b ob q⟩,fun _ _ q=>q,fun _ _ _ q=>q,fun _ ps q=>⟨#[],by rw [q];simp⟩⟩
theorem Un.refl:Un fs ex H H h h:=Un.kept fun _ _ q=>q
theorem Un.laid(k:∀b u,h.get? b=some u→h'.get? b=some u)(hp:h.objs.size≤a)(hn:H a=none):Un fs ex H (upd H a o) h h' where
 keep:=fun b u q _ _ _=>k b u q
 slot:=fun b u q _ _ _=>⟨u.slots,k b u q⟩
 free:=fun b u q n _=>by rw [b7 (ej (dW (b8 q) hp))];exact n
 there:=fun b u q _=>⟨u,k b u q⟩
 gy:=fun b xs q=>by rw [b7 (fq q hn)];exact q
 fY:=fun b u xs q=>by rw [b7 (fq q hn)];exact q
 gz:=fun b ps q=>⟨#[],by rw [b7 (fq q hn),q];simp⟩
theorem Un.write(mu:yy (H x))(he:e=x∨H e=some (.own x))(k:∀b u,b≠e→h.get? b=some u→h'.get? b=some u)(rP:∃u,h'.get? e=some u):Un fs ex H (upd H x o) h h':=by
 have hx:∀b,H b=none→b≠x:=fun b n z=>by subst z;rw [n] at mu;exact mu
 have hb:∀b,H b=none→b≠e:=fun b n z=>by
  subst z;rcases he with r | r;·exact hx b n r
  ·rw [n] at r;cases r
 have hm:∀b u,H b=some u→¬yy (some u)→b≠x:=fun b u q nm z=>by subst z;rw [q] at mu;exact nm mu
 refine ⟨fun b u q n _ _=>k b u (hb b n) q,fun b u q n _ _=>⟨u.slots,k b u (hb b n) q⟩,fun b u q n _=>by rw [b7 (hx b n)];exact n,fun b u q _=>?_,
  fun b xs q=>by rw [b7 (hm b _ q fun z=>z)];exact q,fun b u xs q=>by rw [b7 (hm b _ q fun z=>z)];exact q,fun b ps q=>⟨#[],by rw [b7 (hm b _ q fun z=>z),q];simp⟩⟩
 by_cases oF:b=e;·subst oF;exact rP
 ·exact ⟨u,k b u oF q⟩
end
def yz(h:Heap)(H:Hp):List Addr:=(List.range h.objs.size).filter fun a=>(H a).isSome
def kY(h:Heap)(H:Hp):Heap:=PySem.W.hideAll h (yz h H)
theorem Nq(h:Heap)(H:Hp):(kY h H).objs.size=h.objs.size:=PySem.W.hideAll_size _ _
theorem Nr{o:Obj}(e:h.get? b=some o)(n:H b=none):(kY h H).get? b=some o:=
 yh _ e fun hm=>by have q:(H b).isSome=true:=(List.mem_filter.mp hm).2;rw [n] at q;simp at q
theorem Nt{o:Obj}(e:(kY h H).get? b=some o):h.get? b=some o∧H b=none:=by
 have e':h.get? b=some o:=PySem.W.of_hideAll (yz h H) e;refine ⟨e',?_⟩;cases q:H b with
 | none=>rfl
 | some x=>
  have hm:b∈yz h H:=List.mem_filter.mpr ⟨vw.mpr (b8 e'),by simp [q]⟩
  have z:(kY h H).get? b=none:=PySem.W.hideAll_none (yz h H) hm;rw [z] at e;cases e
structure Mod (K:aE) (mg:dj) (base:Heap):Prop where
 cT:K.In base
 glob:base.Ns mainGlobals mg
 blt:∃mb,base.Ns builtinsNs mb∧∀x:Str,x ≠ "__name__"→mb x=bootBuiltins x
 nolimit:base.NoLimit
structure Cx where
 prog:Program
 w:World
 K:PySem.W.Frag
 mg:Str→Option Value
 base:Heap
 A:Around
 N:List Str
 s₀:Shared
 H₀:Hp
 env:Env
 outer:List Env
 stack:List Env
 ex:List Addr
 fn:Str→Bool
 calm:Bool
 pn:List (Addr×Obj)
 xe:Value→Shared→Prop
def cJ(l:List Env):List Addr:=l.filterMap (·.frame)
abbrev Cx.fs (X:Cx):List Addr:=cJ X.outer
def mz(sc:Scope)(x:Str):Prop:=sc.names.lookup x=some .local∨sc.names.lookup x=some .cell∨sc.names.lookup x=some .free
def Loc(sc:Scope)(x:Str):Prop:=sc.names.lookup x=some .local∨sc.names.lookup x=some .cell
def Look(env:Env)(h:Heap)(m:dj)(x:Str)(u:Value):Prop:=
 (env.kindOf x=some .local∧m x=some u)∨((env.kindOf x=some .cell∨env.kindOf x=some .free)∧∃c,env.cells.lookup x=some c∧h.IsCell c (some u))
structure Cx.Ok (X:Cx):Prop where
 mod:Mod X.K X.mg X.base
 kind:X.env.scope.kind=.function
 glob:X.env.globals=mainGlobals
 blt:X.env.builtins=builtinsNs
 above:X.s₀.heap.objs.size≤X.env.locals
 inj:∀x y c,X.env.cells.lookup x=some c→X.env.cells.lookup y=some c→x=y
 has:∀x,(X.env.kindOf x=some .cell∨X.env.kindOf x=some .free)→∃c,X.env.cells.lookup x=some c
 vQ:∀x c,X.fn x=true→X.env.cells.lookup x=some c→X.s₀.heap.objs.size≤c
 hd:X.calm=true→X.A.handled=none
 frames:X.A.frames=some X.stack
 il:X.stack=X.outer∨(X.stack=X.env::X.outer∧X.env.frame=some X.env.locals)
 GA:∀b∈X.ex,b≠X.env.locals∧∀x c,X.env.cells.lookup x=some c→c≠b
 bs:∀b o,X.base.get? b=some o→X.s₀.heap.get? b=some o∧X.H₀ b=none
 ip:X.base.objs.size≤X.s₀.heap.objs.size
 oG:∀b o,X.base.get? b=some o→b∉X.ex
 oH:∀b∈X.ex,b∉X.fs
 iV:X.s₀.heap.FunFrames X.base X.outer
 kZ:∀b∈X.fs,X.H₀ b=none
structure Inv (X:Cx) (pins:aY) (σ:List (Option V)) (H:Hp) (s:Shared):Prop where
 ok:X.Ok
 os:s.os=X.s₀.os
 bare:AllBare s.gens
 base:Un X.fs X.ex X.H₀ H X.s₀.heap s.heap
 loc:∃m,s.heap.Ns X.env.locals m∧∀(i:Nat) (x:Str) (v:V),X.N[i]?=some x→σ[i]?=some (some v)→mz X.env.scope x→∃u,RelV v u∧Look X.env s.heap m x u
 cell:∀x c,X.env.cells.lookup x=some c→∃v,s.heap.IsCell c v
 free:H X.env.locals=none
 iW:∀x c,X.env.cells.lookup x=some c→H c=none
 pin:∀p∈X.pn++pins,s.heap.get? p.1=some p.2∧H p.1=none∧p.1≠X.env.locals∧p.1∉X.fs∧∀v,p.2.data≠.cell v
 aF:cL X.prog X.w H s.heap
 len:σ.length=X.N.length
section
variable {X:Cx} {pins:aY} {σ:List (Option V)} {H H':Hp} {s:Shared} {h':Heap}
theorem Cx.Ok.Nu(ok:X.Ok){o:Obj}(e:X.base.get? b=some o):b∉X.fs:=fun hb=>by have:=(ok.iV.mem hb).1;rw [e] at this;cases this
theorem Inv.bs(I:Inv X pins σ H s):∀b o,X.base.get? b=some o→s.heap.get? b=some o∧H b=none:=fun b o e=>⟨I.base.keep b o (I.ok.bs b o e).1 (I.ok.bs b o e).2 (I.ok.Nu e) (I.ok.oG b o e),I.base.free b o (I.ok.bs b o e).1 (I.ok.bs b o e).2 (I.ok.oG b o e)⟩
theorem Inv.bk(I:Inv X pins σ H s):∀b o,X.base.get? b=some o→s.heap.get? b=some o:=fun b o e=>(I.bs b o e).1
theorem Inv.mod(I:Inv X pins σ H s):Mod X.K X.mg X.base:=I.ok.mod
theorem Inv.dy(I:Inv X pins σ H s):X.K.In s.heap:=I.ok.mod.cT.keeps I.bk
theorem Inv.lt(I:Inv X pins σ H s):X.env.locals<s.heap.objs.size:=let ⟨_,hn,_⟩:=I.loc;hn.lt
theorem Inv.sz(I:Inv X pins σ H s):X.s₀.heap.objs.size≤s.heap.objs.size:=ae I.ok.above (Nat.le_of_lt I.lt)
theorem Inv.Nv(I:Inv X pins σ H s){a:Addr}(h:s.heap.objs.size≤a):a∉X.fs:=fun hb=>by obtain ⟨_,o,ho,_⟩:=I.ok.iV.mem hb;exact absurd (dW (b8 ho) (ae I.sz h)) (gN _)
theorem Inv.oI(I:Inv X pins σ H s):∀x c,X.env.cells.lookup x=some c→c≠X.env.locals:=fun x c e z=>by obtain ⟨v,o,ho,hd⟩:=I.cell x c e;obtain ⟨m,⟨o',es,ep,jo,k4,_⟩,_⟩:=I.loc;rw [z,jo] at ho;cases ho;rw [k4] at hd;cases hd
theorem Inv.iV(I:Inv X pins σ H s):s.heap.FunFrames X.base X.outer:=by
 have all:∀(l:List Env),(∀b∈cJ l,b∈X.fs)→X.s₀.heap.FunFrames X.base l→s.heap.FunFrames X.base l:=by
  intro l
  induction l with
  | nil=>intro _ _;trivial
  | cons env r ih=>
   intro hs hl;obtain ⟨hk,⟨L,o,hf,hn,ho,hd⟩,hr⟩:=hl;have hL:L∈X.fs:=hs L (by unfold cJ;rw [yi,hf];exact kL)
   obtain ⟨sl,e⟩:=I.base.slot L o ho (I.ok.kZ L hL) hL fun z=>I.ok.oH L z hL;exact ⟨hk,⟨L,_,hf,hn,e,hd⟩,ih (fun b hb=>hs b (by unfold cJ;rw [yi,hf];exact gO _ hb)) hr⟩
 exact all X.outer (fun _ hb=>hb) I.ok.iV
theorem Inv.stack(I:Inv X pins σ H s):s.heap.FunFrames X.base X.stack:=by
 rcases I.ok.il with e | ⟨e,hf⟩;·rw [e];exact I.iV
 ·rw [e]
  obtain ⟨m,hn,_⟩:=I.loc;refine .cons (by rw [I.ok.kind];decide) hf hn ?_ I.iV
  exact Heap.get?_none_of_le (ae I.ok.ip I.ok.above)
theorem Inv.vR(I:Inv X pins σ H s):∀b∈cJ X.stack,b∈X.env.locals::X.fs:=fun b hb=>by
 rcases I.ok.il with e | ⟨e,hf⟩;·rw [e] at hb;exact gO _ hb
 ·rw [e] at hb
  unfold cJ at hb;rw [yi,hf] at hb;exact hb
theorem Inv.vS(I:Inv X pins σ H s):∀b∈cJ X.stack,H b=none:=fun b hb=>by
 rcases dX.mp (I.vR b hb) with e | hb;·rw [e];exact I.free
 ·obtain ⟨_,o,ho,_⟩:=I.ok.iV.mem hb
  exact I.base.free b o ho (I.ok.kZ b hb) fun z=>I.ok.oH b z hb
variable {g':Array GenState} {t':Nat} {d':Drawn} {ch:List Addr}
theorem Inv.step(I:Inv X pins σ H s)
  (j6:∀b∈ch,(b∈X.ex∨X.s₀.heap.objs.size≤b)∧b≠X.env.locals∧(∀x c,X.env.cells.lookup x=some c→c≠b)∧∀p∈X.pn++pins,p.1≠b)
  (keep:∀b o,b≠X.env.locals→b∉X.fs→b∉ch→s.heap.get? b=some o→H b=none→h'.get? b=some o)
  (slot:∀b o,b≠X.env.locals→b∈X.fs→b∉ch→s.heap.get? b=some o→H b=none→∃sl,h'.get? b=some {o with slots:=sl}) (free:∀b o,b∉ch→s.heap.get? b=some o→H b=none→H' b=none)
  (there:∀b o,b∉ch→s.heap.get? b=some o→∃o',h'.get? b=some o')
  (gy:∀b xs,H b=some (.tup xs)→H' b=some (.tup xs)) (fY:∀b o u,H b=some (.fX o u)→H' b=some (.fX o u)) (gz:∀b ps,H b=some (.kX ps)→∃more,H' b=some (.kX (ps++more)))
  (ns:∀m,s.heap.Ns X.env.locals m→h'.Ns X.env.locals m) (aF:cL X.prog X.w H' h') (hg:AllBare g') :
  Inv X pins σ H' {s with heap:=h',gens:=g',drawn:=d',toks:=t'}:=by
 have GB:∀b o,X.s₀.heap.get? b=some o→b≠X.env.locals:=fun b o e=>ej (dW (b8 e) I.ok.above);have yA:∀b o,X.s₀.heap.get? b=some o→b∉X.ex→b∉ch:=fun b o e hx hb=>by
  rcases (j6 b hb).1 with z | z;·exact hx z
  ·exact absurd (dW (b8 e) z) (gN _)
 have cellK:∀x c,X.env.cells.lookup x=some c→∀v,s.heap.IsCell c v→h'.IsCell c v:=fun x c e v ⟨o,ho,hd⟩=>by
  have vT:c∉ch:=fun z=>(j6 c z).2.2.1 x c e rfl;by_cases hc:c∈X.fs
  ·obtain ⟨sl,q⟩:=slot c o (I.oI x c e) hc vT ho (I.iW x c e)
   exact ⟨_,q,hd⟩
  ·exact ⟨o,keep c o (I.oI x c e) hc vT ho (I.iW x c e),hd⟩
 refine ⟨I.ok,I.os,hg,⟨fun b o e n hb hx=>?_,fun b o e n hb hx=>?_,fun b o e n hx=>?_,fun b o e hx=>?_,fun b xs e=>gy b xs (I.base.gy b xs e),fun b o xs e=>fY b o xs (I.base.fY b o xs e),fun b ps e=>?_⟩,?_,fun x c e=>?_,?_,fun x c e=>?_,fun p hp=>?_,aF,I.len⟩;·exact keep b o (GB b o e) hb (yA b o e hx) (I.base.keep b o e n hb hx) (I.base.free b o e n hx)
 ·obtain ⟨sl,e1⟩:=I.base.slot b o e n hb hx
  obtain ⟨Ci,e2⟩:=slot b _ (GB b o e) hb (yA b o e hx) e1 (I.base.free b o e n hx);exact ⟨Ci,e2⟩
 ·obtain ⟨o',e1⟩:=I.base.there b o e hx
  exact free b o' (yA b o e hx) e1 (I.base.free b o e n hx)
 ·obtain ⟨o',e1⟩:=I.base.there b o e hx
  exact there b o' (yA b o e hx) e1
 ·obtain ⟨m1,e1⟩:=I.base.gz b ps e
  obtain ⟨m2,e2⟩:=gz b _ e1;exact ⟨m1++m2,by rw [e2,Array.append_assoc]⟩
 ·obtain ⟨m,hn,hl⟩:=I.loc
  refine ⟨m,ns m hn,fun i x v e1 e2 e3=>?_⟩;obtain ⟨u,r,l⟩:=hl i x v e1 e2 e3;refine ⟨u,r,?_⟩;rcases l with l | ⟨k,c,e,z⟩;·exact .inl l
  ·exact .inr ⟨k,c,e,cellK x c e _ z⟩
 ·obtain ⟨v,z⟩:=I.cell x c e
  exact ⟨v,cellK x c e v z⟩
 ·obtain ⟨m,⟨o,_,_,ho,_⟩,_⟩:=I.loc
  exact free _ o (fun z=>(j6 _ z).2.1 rfl) ho I.free
 ·obtain ⟨v,o,ho,hd⟩:=I.cell x c e
  exact free c o (fun z=>(j6 c z).2.2.1 x c e rfl) ho (I.iW x c e)
 ·obtain ⟨e,n,ne,nf,d⟩:=I.pin p hp
  have vT:p.1∉ch:=fun z=>(j6 p.1 z).2.2.2 p hp rfl;exact ⟨keep p.1 p.2 ne nf vT e n,free p.1 p.2 vT e n,ne,nf,d⟩
theorem Inv.un(I:Inv X pins σ H s)(u:Un X.fs [] H H' s.heap h')(aF:cL X.prog X.w H' h'):Inv X pins σ H' {s with heap:=h',toks:=t'}:=by
 obtain ⟨m,⟨o,es,ep,ho,r⟩,_⟩:=id I.loc;obtain ⟨sl,hL⟩:=u.any ho I.free (by simp)
 exact I.step (g':=s.gens) (d':=s.drawn) (ch:=[]) (fun _ z=>nomatch z) (fun b o _ hb _ e n=>u.keep b o e n hb (by simp)) (fun b o _ hb _ e n=>u.slot b o e n hb (by simp)) (fun b o _ e n=>u.free b o e n (by simp)) (fun b o _ e=>u.there b o e (by simp)) u.gy u.fY u.gz (fun m' hm=>by obtain ⟨o',Cj,Ck,jo,r'⟩:=hm;rw [ho] at jo;cases jo;exact ⟨_,Cj,Ck,hL,r'⟩) aF I.bare
theorem Inv.call(I:Inv X pins σ H s)(u:Un (cJ X.stack) ch H H' s.heap h')(aF:cL X.prog X.w H' h')(hg:AllBare g')
  (j6:∀b∈ch,(b∈X.ex∨X.s₀.heap.objs.size≤b)∧b≠X.env.locals∧(∀x c,X.env.cells.lookup x=some c→c≠b)∧∀p∈X.pn++pins,p.1≠b) :
  Inv X pins σ H' {s with heap:=h',gens:=g',drawn:=d',toks:=t'}:=by
 obtain ⟨m,⟨o,es,ep,ho,r⟩,_⟩:=id I.loc;obtain ⟨sl,hL⟩:=u.any ho I.free fun z=>(j6 _ z).2.1 rfl;exact I.step (ch:=ch) j6 (fun b o hL hb hc e n=>u.keep b o e n (fun z=>(dX.mp (I.vR b z)).elim hL hb) hc) (fun b o _ _ hc e n=>u.any e n hc) (fun b o hc e n=>u.free b o e n hc) (fun b o hc e=>u.there b o e hc) u.gy u.fY u.gz (fun m' hm=>by obtain ⟨o',Cj,Ck,jo,r'⟩:=hm;rw [ho] at jo;cases jo;exact ⟨_,Cj,Ck,hL,r'⟩) aF hg
theorem Inv.turned{it:Addr}(I:Inv X pins σ H s)(k:∀b o,b≠it→s.heap.get? b=some o→h'.get? b=some o)(hn:H it=none)(hL:it≠X.env.locals)
  (h1:it∈X.ex∨X.s₀.heap.objs.size≤it) (h2:∀x c,X.env.cells.lookup x=some c→c≠it) (h3:∀p∈X.pn++pins,p.1≠it):Inv X pins σ H {s with heap:=h',toks:=t'}:=by
 have GC:∀b u,H b=some u→b≠it:=fun b u e z=>by rw [z,hn] at e;cases e
 refine I.step (g':=s.gens) (d':=s.drawn) (ch:=[it]) (fun b hb=>?_) (fun b o _ _ hc e _=>k b o (fun z=>hc (by simp [z])) e) (fun b o _ _ hc e _=>⟨o.slots,k b o (fun z=>hc (by simp [z])) e⟩) (fun _ _ _ _ n=>n)
  (fun b o hc e=>⟨o,k b o (fun z=>hc (by simp [z])) e⟩) (fun _ _ e=>e) (fun _ _ _ e=>e) (fun b ps e=>⟨#[],by rw [e];simp⟩) (fun m hm=>?_) (fun b u e=>?_) I.bare
 ·have e:b=it:=by simpa using hb
  subst e;exact ⟨h1,hL,h2,h3⟩
 ·obtain ⟨o,es,ep,ho,r⟩:=hm
  exact ⟨o,es,ep,k _ o (Ne.symm hL) ho,r⟩
 ·refine (I.aF b u e).ik (fun c v hc q=>k c v ?_ q) (fun _ q=>q) fun _ _ q=>q
  rcases hc with z | z;·rw [z];exact GC b u e
  ·exact GC c _ z
theorem Inv.tok(I:Inv X pins σ H s)(t:Nat):Inv X pins σ H {s with toks:=t}:=I.un (h':=s.heap) (t':=t) Un.refl I.aF
theorem Inv.kept(I:Inv X pins σ H s)(k:∀b u,s.heap.get? b=some u→h'.get? b=some u):Inv X pins σ H {s with heap:=h',toks:=t'}:=I.un (Un.kept k) (I.aF.kept k)
theorem Inv.laid{a:Addr}(I:Inv X pins σ H s)(k:∀b u,s.heap.get? b=some u→h'.get? b=some u)(hp:s.heap.objs.size≤a)(new:d6 X.prog X.w (upd H a o) h' a o) :
  Inv X pins σ (upd H a o) {s with heap:=h',toks:=t'}:=I.un (Un.laid k hp (I.aF.fresh hp)) (I.aF.laid k hp new)
theorem Inv.write{x e:Addr}(I:Inv X pins σ H s)(mu:yy (H x))(he:e=x∨H e=some (.own x))(k:∀b u,b≠e→s.heap.get? b=some u→h'.get? b=some u)(rP:∃u,h'.get? e=some u)
  (new:d6 X.prog X.w (upd H x o) h' x o):Inv X pins σ (upd H x o) {s with heap:=h',toks:=t'}:=I.un (Un.write mu he k rP) (I.aF.write mu he k rP new)
theorem Inv.GD{GF:aY}(I:Inv X pins σ H s)(h:∀p∈GF,s.heap.get? p.1=some p.2∧H p.1=none∧p.1≠X.env.locals∧p.1∉X.fs∧∀v,p.2.data≠.cell v):Inv X GF σ H s:=
 ⟨I.ok,I.os,I.bare,I.base,I.loc,I.cell,I.free,I.iW,fun p hp=>(h_.mp hp).elim (fun z=>I.pin p (List.mem_append_left _ z)) (h p),I.aF,I.len⟩
variable {i:Nat} {x:Str}
theorem GG{N:List Str}(hN:N.Nodup){j:Nat}(a:N[i]?=some x)(b:N[j]?=some x):i=j:=by obtain ⟨h1,e1⟩:=cU.mp a;obtain ⟨h2,e2⟩:=cU.mp b;exact (List.getElem_inj hN).mp (e1.trans e2.symm)
variable {M:Model} {A:Around} {E:b_} {v:V} {Q:Unit→Shared→Prop}
theorem GH{u:Value}(I:Inv X pins σ H s)(hN:X.N.Nodup)(hi:X.N[i]?=some x)(hx:Loc X.env.scope x)(r:RelV v u)
  (h:∀s',Inv X pins (σ.set i (some v)) H s'→(∃a,Heap.SameBut a s.heap s'.heap∧(a=X.env.locals∨X.env.cells.lookup x=some a))→Q () s') (hf:X.fn x=true∨X.env.scope.names.lookup x=some .local:=by first | exact .inl rfl | exact .inr rfl | assumption):wpAny M A (storeName X.env x u) Q E s:=by
 obtain ⟨m,hn,hl⟩:=id I.loc;have Nw:(X.env.scope.kind == .class || (X.env.scope.kind == .module && X.env.locals != X.env.globals))=false:=by rw [I.ok.kind];rfl
 have GI:i<σ.length:=by rw [I.len];exact (cU.mp hi).1
 have oI:=I.oI;have tracked:∀{a:Addr} {h':Heap},(∃o,s.heap.get? a=some o∧H a=none)→Heap.SameBut a s.heap h'→cL X.prog X.w H h':=fun{a h'} ha hs b ob e=>by
  obtain ⟨_,_,GJ⟩:=ha;refine (I.aF b ob e).ik (fun c w' hc q=>(hs.2 c ?_).trans q) (fun _ q=>q) fun _ _ q=>q;rintro rfl;rcases hc with rfl | hc;·rw [GJ] at e;cases e
  ·rw [GJ] at hc;cases hc
 rcases hx with hk | hk
 ·refine wpAny_storeName_local hk hn (fun h' Nx hs=>?_) Nw
  obtain ⟨oL,_,_,Ny,_⟩:=id hn;refine h _ ⟨I.ok,I.os,I.bare,⟨fun b o e n hb hx=>?_,fun b o e n hb hx=>?_,I.base.free,fun b o e hx=>?_,I.base.gy,I.base.fY,I.base.gz⟩,⟨_,Nx,fun j y v' e1 e2 e3=>?_⟩,fun y c e=>?_,I.free,I.iW,fun p hp=>?_,tracked ⟨oL,Ny,I.free⟩ hs,by simpa using I.len⟩ ⟨_,hs,.inl rfl⟩
  ·exact (hs.2 b (ej (dW (b8 e) I.ok.above))).trans (I.base.keep b o e n hb hx)
  ·obtain ⟨sl,e1⟩:=I.base.slot b o e n hb hx
   exact ⟨sl,(hs.2 b (ej (dW (b8 e) I.ok.above))).trans e1⟩
  ·obtain ⟨o',e1⟩:=I.base.there b o e hx
   exact ⟨o',(hs.2 b (ej (dW (b8 e) I.ok.above))).trans e1⟩
  ·by_cases hj:j=i
   ·subst hj
    rw [hi] at e1;cases e1;rw [vx GI] at e2;cases e2;exact ⟨u,r,.inl ⟨hk,by simp⟩⟩
   ·rw [vy (Ne.symm hj)] at e2
    obtain ⟨u',r',q⟩:=hl j y v' e1 e2 e3;refine ⟨u',r',?_⟩;rcases q with ⟨k,e⟩ | ⟨k,c,e,z⟩
    ·refine .inl ⟨k,?_⟩
     have:y≠x:=fun e=>hj (GG hN e1 (e▸hi));simp [this,e]
    ·exact .inr ⟨k,c,e,z.sameBut hs (oI y c e)⟩
  ·obtain ⟨w',z⟩:=I.cell y c e
   exact ⟨w',z.sameBut hs (oI y c e)⟩
  ·obtain ⟨e,n,ne,nf,d⟩:=I.pin p hp
   exact ⟨(hs.2 p.1 ne).trans e,n,ne,nf,d⟩
 ·have Cm:X.fn x=true:=by
   rcases hf with z | z;·exact z
   ·rw [z] at hk;cases hk
  obtain ⟨c,hc⟩:=I.ok.has x (.inl hk);obtain ⟨w',z⟩:=I.cell x c hc;refine wpAny_storeName_cell I.ok.kind hk hc z (fun h' d4 hs=>?_);obtain ⟨oc,GK,Nz⟩:=id z;refine h {s with heap:=h'} ⟨I.ok,I.os,I.bare,⟨fun b o e n hb hx=>?_,fun b o e n hb hx=>?_,I.base.free,fun b o e hx=>?_,I.base.gy,I.base.fY,I.base.gz⟩,⟨m,hn.sameBut hs (Ne.symm (oI x c hc)),fun j y v' e1 e2 e3=>?_⟩,fun y c' e=>?_,I.free,I.iW,fun p hp=>?_,tracked ⟨oc,GK,I.iW x c hc⟩ hs,by simpa using I.len⟩ ⟨c,hs,.inr hc⟩
  ·exact (hs.2 b (ej (dW (b8 e) (I.ok.vQ x c Cm hc)))).trans (I.base.keep b o e n hb hx)
  ·obtain ⟨sl,e1⟩:=I.base.slot b o e n hb hx
   exact ⟨sl,(hs.2 b (ej (dW (b8 e) (I.ok.vQ x c Cm hc)))).trans e1⟩
  ·obtain ⟨o',e1⟩:=I.base.there b o e hx
   exact ⟨o',(hs.2 b (ej (dW (b8 e) (I.ok.vQ x c Cm hc)))).trans e1⟩
  ·by_cases hj:j=i
   ·subst hj
    rw [hi] at e1;cases e1;rw [vx GI] at e2;cases e2;exact ⟨u,r,.inr ⟨.inl hk,c,hc,d4⟩⟩
   ·rw [vy (Ne.symm hj)] at e2
    obtain ⟨u',r',q⟩:=hl j y v' e1 e2 e3;refine ⟨u',r',?_⟩;rcases q with q | ⟨k,c',e,z'⟩;·exact .inl q
    ·refine .inr ⟨k,c',e,z'.sameBut hs ?_⟩
     rintro rfl;exact hj (GG hN e1 (I.ok.inj _ _ _ e hc▸hi))
  ·by_cases GL:c'=c
   ·subst GL;exact ⟨_,d4⟩
   ·obtain ⟨w2,z2⟩:=I.cell y c' e
    exact ⟨w2,z2.sameBut hs GL⟩
  ·obtain ⟨e,n,ne,nf,d⟩:=I.pin p hp
   refine ⟨(hs.2 p.1 ?_).trans e,n,ne,nf,d⟩;intro q;rw [q,GK] at e;have q':oc=p.2:=Option.some.inj e;exact d w' (by rw [←q'];exact Nz)
theorem vU{u:Value}(I:Inv X pins σ H s)(hN:X.N.Nodup)(hi:X.N[i]?=some x)(hx:Loc X.env.scope x)(r:RelV v u)
  (h:∀s',Inv X pins (σ.set i (some v)) H s'→Q () s') (hf:X.fn x=true∨X.env.scope.names.lookup x=some .local:=by first | exact .inl rfl | exact .inr rfl | assumption):wpAny M A (storeName X.env x u) Q E s:=
 GH I hN hi hx r (fun s' I' _=>h s' I') hf
theorem Inv.mB{s':Shared}(I:Inv X pins σ H s)(ho:s'.os=s.os)(u:Un (cJ X.stack) ch H H' s.heap s'.heap)(aF:cL X.prog X.w H' s'.heap)(hg:AllBare s'.gens)
  (j6:∀b∈ch,(b∈X.ex∨X.s₀.heap.objs.size≤b)∧b≠X.env.locals∧(∀x c,X.env.cells.lookup x=some c→c≠b)∧∀p∈X.pn++pins,p.1≠b):Inv X pins σ H' s':=by
 obtain ⟨h',g',d',t',o'⟩:=s';have e:o'=s.os:=ho;subst e;exact I.call (g':=g') (t':=t') (d':=d') u aF hg j6
end
abbrev XK:=Value→Option Addr→Hp→Prop
abbrev St:=List (Option V)
abbrev VK:=V→Hp→Prop
abbrev TE:=St→Hp→VK→Prop
abbrev TT:=St→Hp→(Bool→Hp→Prop)→Prop
abbrev TA:=St→Hp→(List V→Hp→Prop)→Prop
structure Ends where
 nx:St→Hp→Prop
 rt:VK
 bk:St→Hp→Prop:=fun _ _=>False
 ct:St→Hp→Prop:=fun _ _=>False
abbrev TS:=Ends→St→Hp→Prop
def EP(X:Cx)(pins:aY)(σ:St)(Q:VK)(u:Value)(s':Shared):Prop:=∃v H',Inv X pins σ H' s'∧RelV v u∧Q v H'
def TP(X:Cx)(pins:aY)(σ:St)(Q:Bool→Hp→Prop)(b:Bool)(s':Shared):Prop:=∃H',Inv X pins σ H' s'∧Q b H'
def AP(X:Cx)(pins:aY)(σ:St)(Q:List V→Hp→Prop)(us:List Value)(s':Shared):Prop:=∃vs H',Inv X pins σ H' s'∧Vals vs us∧Q vs H'
def SP(X:Cx)(pins:aY)(D:Ends)(f:Flow)(s':Shared):Prop:=
 match f with
 | .next=>∃σ' H',Inv X pins σ' H' s'∧D.nx σ' H'
 | .brk=>∃σ' H',Inv X pins σ' H' s'∧D.bk σ' H'
 | .cont=>∃σ' H',Inv X pins σ' H' s'∧D.ct σ' H'
 | .ret u=>∃v σ' H',Inv X pins σ' H' s'∧RelV v u∧D.rt v H'
def PE(X:Cx)(e:Expr)(t:TE):Prop:=
 ∀(pins:aY) (s:Shared) (σ:St) (H:Hp) (Q:VK),Inv X pins σ H s→t σ H Q→wpAny (model X.prog X.w) X.A (eval e X.env) (EP X pins σ Q) X.xe s
def PT(X:Cx)(e:Expr)(t:TT):Prop:=
 ∀(pins:aY) (s:Shared) (σ:St) (H:Hp) (Q:Bool→Hp→Prop),Inv X pins σ H s→t σ H Q→wpAny (model X.prog X.w) X.A (isTrue e X.env (eval e X.env)) (TP X pins σ Q) X.xe s
def PW(X:Cx)(e:Expr)(t:TT):Prop:=
 ∀(whole:Sem Value) (pins:aY) (s:Shared) (σ:St) (H:Hp) (Q:Bool→Hp→Prop),Inv X pins σ H s→t σ H Q→wpAny (model X.prog X.w) X.A (isTrue e X.env whole) (TP X pins σ Q) X.xe s
variable {X:Cx}
theorem PW.pt{e:Expr}{t:TT}(h:PW X e t):PT X e t:=h _
def PA(X:Cx)(es:List Expr)(t:TA):Prop:=
 ∀(pos:Pos) (pins:aY) (s:Shared) (σ:St) (H:Hp) (Q:List V→Hp→Prop),Inv X pins σ H s→t σ H Q→wpAny (model X.prog X.w) X.A (spliced (backTo pos (starEach es X.env))) (AP X pins σ Q) X.xe s
def PS(X:Cx)(st:Stmt)(t:TS):Prop:=
 ∀(pins:aY) (s:Shared) (σ:St) (H:Hp) (D:Ends),Inv X pins σ H s→t D σ H→wpAny (model X.prog X.w) X.A (exec st X.env) (SP X pins D) X.xe s
def eE(X:Cx)(st:List Stmt)(t:TS):Prop:=
 ∀(pins:aY) (s:Shared) (σ:St) (H:Hp) (D:Ends),Inv X pins σ H s→t D σ H→wpAny (model X.prog X.w) X.A (execs st X.env) (SP X pins D) X.xe s
variable {M:Model} {A:Around} {E:b_} {s:Shared}
theorem aG{α:Type}{t:Sem α}{Q Q':α→Shared→Prop}(h:wpAny M A t Q E s)(hQ:∀a s,Q a s→Q' a s):wpAny M A t Q' E s:=cS h hQ fun _ _ x=>x
section
variable {X:Cx}
variable {pins:aY} {σ:St}
theorem bin{a b:Expr}{ta tb:TE}(ha:PE X a ta)(hb:PE X b tb){R:V→V→Hp→Prop}(I:Inv X pins σ H s)(h:ta σ H fun x H1=>tb σ H1 fun y H2=>R x y H2)
  {α:Type} {Q:α→Shared→Prop} {f:Value→Value→Sem α}
  (hf:∀v u s2 x y H2,Inv X pins σ H2 s2→RelV x v→RelV y u→R x y H2→wpAny (model X.prog X.w) X.A (f v u) Q X.xe s2) :
  wpAny (model X.prog X.w) X.A (eval a X.env) (fun v s₁=>wpAny (model X.prog X.w) X.A (eval b X.env) (fun u s₂=>wpAny (model X.prog X.w) X.A (f v u) Q X.xe s₂) X.xe s₁) X.xe s:=by
 refine aG (ha pins s σ H _ I h) fun v s1 ⟨x,H1,I1,r1,q1⟩=>?_;refine aG (hb pins s1 σ H1 _ I1 q1) fun u s2 ⟨y,H2,I2,r2,q2⟩=>?_;exact hf v u s2 x y H2 I2 r1 r2 q2
def gA(i:Nat):TE:=fun σ H Q=>∃v,σ[i]?=some (some v)∧Q v H
def tC(v:V):TE:=fun _ H Q=>Q v H
variable {x:Str} {pos:Pos}
theorem NA{i:Nat}(hN:X.N[i]?=some x)(hv:mz X.env.scope x)(hd:(x == ("__debug__":Str))=false:=by decide)(e7:(x == ("__classdict__":Str))=false:=by decide):PE X (.Name x pos) (gA i):=by
 intro pins s σ H Q I h;obtain ⟨v,e,h⟩:=h;obtain ⟨m,hn,hl⟩:=I.loc;obtain ⟨u,r,l⟩:=hl i x v hN e hv;have fin:EP X pins σ Q u s:=⟨v,H,I,r,h⟩;rcases l with ⟨hk,hm⟩ | ⟨hk,c,hc,yB⟩;·exact wpAny_Name (wpAny_loadName_local I.ok.kind hk hn hm fin) hd
 ·rcases hk with hk | hk
  ·exact wpAny_Name (wpAny_loadName_cell I.ok.kind hk hc yB fin) hd
  ·exact wpAny_Name (wpAny_loadName_free I.ok.kind hk hc yB fin e7) hd
theorem ah{i j pos}:PE X (.Constant (.int i) j pos) (tC (.int i)):=fun _ _ _ H _ I h=>wpAny_Constant_int ⟨.int i,H,I.tok _,⟨_,rfl⟩,h⟩
theorem iX{b j pos}:PE X (.Constant (.bool b) j pos) (tC (.bl b)):=fun _ _ _ H _ I h=>Constant_bool ⟨.bl b,H,I,rfl,h⟩
theorem jq{j pos}:PE X (.Constant .none j pos) (tC .aV):=fun _ _ _ H _ I h=>Constant_none ⟨.aV,H,I,rfl,h⟩
theorem eF{x j pos}:PE X (.Constant (.str x) j pos) (tC (.str x)):=fun _ _ _ H _ I h=>Calls.Constant_str ⟨.str x,H,I.tok _,⟨_,rfl⟩,h⟩
def Gl(X:Cx)(x:Str):Prop:=X.env.kindOf x=some .globalImplicit
variable {Q:b_}
theorem yC{u:Value}(I:Inv X pins σ H s)(hg:Gl X x)(hm:X.mg x=some u)(h:Q u s)
  (hd:(x == ("__debug__":Str))=false:=by decide):wpAny (model X.prog X.w) X.A (eval (.Name x pos) X.env) Q E s:=
 Calls.Name_function_global I.ok.kind hg (Calls.loadGlobal_global (by rw [I.ok.glob];exact I.mod.glob.keeps I.bk) hm h) hd
theorem oJ{u:Value}(I:Inv X pins σ H s)(hg:Gl X x)(hm:X.mg x=none)(hv:bootBuiltins x=some u)(h:Q u s)
  (hn:x ≠ "__name__":=by decide) (hd:(x == ("__debug__":Str))=false:=by decide):wpAny (model X.prog X.w) X.A (eval (.Name x pos) X.env) Q E s:=by
 obtain ⟨mb,h1,h2⟩:=I.mod.blt;exact Calls.Name_function_global I.ok.kind hg (Calls.loadGlobal_builtin (by rw [I.ok.glob];exact I.mod.glob.keeps I.bk) hm (by rw [I.ok.blt];exact h1.keeps I.bk) ((h2 x hn).trans hv) h) hd
variable {v:V}
theorem Cn{u:Value}(hg:Gl X x)(hm:X.mg x=some u)(r:RelV v u)(hd:(x == ("__debug__":Str))=false:=by decide):PE X (.Name x pos) (tC v):=
 fun _ _ _ H _ I h=>yC I hg hm ⟨v,H,I,r,h⟩ hd
theorem j7{u:Value}(hg:Gl X x)(hm:X.mg x=none)(hv:bootBuiltins x=some u)(r:RelV v u)(hn:x ≠ "__name__":=by decide)(hd:(x == ("__debug__":Str))=false:=by decide):PE X (.Name x pos) (tC v):=
 fun _ _ _ H _ I h=>oJ I hg hm hv ⟨v,H,I,r,h⟩ hn hd
variable {a b:Expr} {ta tb:TE} {pos:Pos}
def PC(X:Cx)(op:CmpOp)(a b:Expr)(t:TE):Prop:=
 ∀(pins:aY) (s:Shared) (σ:St) (H:Hp) (Q:VK),Inv X pins σ H s→t σ H Q→
  wpAny (model X.prog X.w) X.A (eval a X.env) (fun v s₁=>wpAny (model X.prog X.w) X.A (eval b X.env) (fun u s₂=>wpAny (model X.prog X.w) X.A (compareOp op v u) (EP X pins σ Q) X.xe s₂) X.xe s₁) X.xe s
def tB(t:TE):TT:=fun σ H Q=>t σ H fun x H1=>∃c,x=.bl c∧Q c H1
variable {t:TE}
theorem Yf{op:CmpOp}(h:PC X op a b t)(h1:behindInMarks op b=false:=by first | exact abr _ (by decide) (by decide) | rfl):PT X (.Compare a [op] [b] pos) (tB t):=by intro pins s σ H Q I hw;refine wpAny_isTrue_Compare1 (aG (h pins s σ H _ I hw) fun v s1 h1=>aG h1 fun u s2 h2=>aG h2 fun c s3 ⟨x,H1,I1,r1,q1⟩=>?_) h1;obtain ⟨d,rfl,q⟩:=q1;cases r1;exact kM ⟨H1,I1,q⟩
theorem mC{e:Expr}(h:PE X e t)(he:∀whole,isTrue e X.env whole=(do let v ←whole;standAt e.pos;holding [v] (truthy v)):=by intro _;rfl):PT X e (tB t):=by
 intro pins s σ H Q I hw
 refine isTrue_plain (aG (h pins s σ H _ I hw) fun v s1 ⟨x,H1,I1,r1,q1⟩=>?_) (he _)
 obtain ⟨d,rfl,q⟩:=q1
 cases r1
 exact kM ⟨H1,I1,q⟩
variable {tA yE:TT} {rest:List Expr}
def NB(t u:TT):TT:=fun σ H Q=>t σ H fun c H1=>if c=true then u σ H1 Q else Q false H1
def NC(t u:TT):TT:=fun σ H Q=>t σ H fun c H1=>if c=true then Q true H1 else u σ H1 Q
def GN(t:TT):TT:=fun σ H Q=>t σ H fun c H1=>Q (!c) H1
theorem pw_and1(ha:PT X a tA):PW X (.BoolOp .And [a] pos) tA:=by
 intro wh pins s σ H Q I h;refine isTrue_and (aG (ha pins s σ H Q I h) fun c s1 e=>?_);cases c with
 | true=>exact isTrue_and_nil e
 | false=>exact e
theorem pw_or1(ha:PT X a tA):PW X (.BoolOp .Or [a] pos) tA:=by
 intro wh pins s σ H Q I h;refine isTrue_or (aG (ha pins s σ H Q I h) fun c s1 e=>?_);cases c with
 | false=>exact isTrue_or_nil e
 | true=>exact e
theorem pw_and(ha:PT X a tA)(hb:PW X (.BoolOp .And (b::rest) pos) yE):PW X (.BoolOp .And (a::b::rest) pos) (NB tA yE):=by
 intro wh pins s σ H Q I h;refine isTrue_and (aG (ha pins s σ H _ I h) fun c s1 ⟨H1,I1,q1⟩=>?_);cases c with
 | true=>exact hb wh pins s1 σ H1 Q I1 q1
 | false=>exact ⟨H1,I1,q1⟩
theorem pw_or(ha:PT X a tA)(hb:PW X (.BoolOp .Or (b::rest) pos) yE):PW X (.BoolOp .Or (a::b::rest) pos) (NC tA yE):=by
 intro wh pins s σ H Q I h;refine isTrue_or (aG (ha pins s σ H _ I h) fun c s1 ⟨H1,I1,q1⟩=>?_);cases c with
 | true=>exact ⟨H1,I1,q1⟩
 | false=>exact hb wh pins s1 σ H1 Q I1 q1
theorem rQ(ha:PT X a tA):PT X (.UnaryOp .Not a pos) (GN tA):=by intro pins s σ H Q I h;exact isTrue_not (ha pins s σ H (fun c H1=>Q (!c) H1) I h)
def ND(ta tb:TE):TE:=fun σ H Q=>ta σ H fun x H1=>∃c,x=.bl c∧if c=true then tb σ H1 Q else Q (.bl false) H1
def NF(ta:TE):TE:=fun σ H Q=>ta σ H fun x H1=>∃c,x=.bl c∧Q (.bl (!c)) H1
theorem rR{op}(h:PE X a t):PE X (.BoolOp op [a] pos) t:=fun pins s σ H Q I hw=>BoolOp_one (h pins s σ H Q I hw)
theorem k6(ha:PE X a ta)(hb:PE X (.BoolOp .And (b::rest) pos) tb):PE X (.BoolOp .And (a::b::rest) pos) (ND ta tb):=by
 intro pins s σ H Q I h;refine BoolOp_and (aG (ha pins s σ H _ I h) fun v s1 ⟨x,H1,I1,r1,q1⟩=>?_);obtain ⟨c,rfl,q1⟩:=q1;cases r1;refine kM ?_;cases c with
 | true=>exact hb pins s1 σ H1 Q I1 q1
 | false=>exact ⟨.bl false,H1,I1,rfl,q1⟩
theorem GO(ha:PE X a ta):PE X (.UnaryOp .Not a pos) (NF ta):=by intro pins s σ H Q I h;refine UnaryOp_ (aG (ha pins s σ H _ I h) fun v s1 ⟨x,H1,I1,r1,q1⟩=>?_);obtain ⟨c,rfl,q1⟩:=q1;cases r1;exact not_of (kM ⟨.bl (!c),H1,I1,rfl,q1⟩)
end
def a_(K:aE)(H:Hp)(a:Addr)(xs:List V):Prop:=
 Rd H a (.lst xs) ∨
  ∃(o:Obj) (aq:Array Value) (n:Nat),K.lookup a=some o∧o.cls=.type "list"∧o.dict=none∧o.data=.seq aq n∧aq.size≤sizeLine∧Vals xs aq.toList
def d7(K:aE)(H:Hp)(a:Addr)(xs:List V):Prop:=
 Rd H a (.tup xs) ∨
  ∃(o:Obj) (aq:Array Value) (n:Nat),K.lookup a=some o∧o.cls=.type "tuple"∧o.data=.seq aq n∧aq.size≤sizeLine∧Vals xs aq.toList
def NG:Value→Option V
 | .none=>some .aV
 | .bool b=>some (.bl b)
 | .int i _=>some (.int i)
 | .str x _=>some (.str x)
 | .bytes b _=>some (.iU b)
 | .float b _=>some (.oE b)
 | .ref a=>some (.ref a)
 | .type n=>some (.ty n)
 | _=>none
variable {x:V}
theorem RelV.abs{u:Value}(r:RelV x u):NG u=some x:=by
 cases x with
 | aV=>cases r;rfl
 | bl _=>cases r;rfl
 | int _=>obtain ⟨t,rfl⟩:=r;rfl
 | str _=>obtain ⟨t,rfl⟩:=r;rfl
 | iU _=>obtain ⟨t,rfl⟩:=r;rfl
 | oE _=>obtain ⟨t,rfl⟩:=r;rfl
 | ref _=>cases r;rfl
 | ty _=>cases r;rfl
theorem RelV.inj{y:V}{u:Value}(r:RelV x u)(q:RelV y u):x=y:=Option.some.inj (r.abs.symm.trans q.abs)
theorem Vals.inj:∀{xs ys:List V} {us:List Value},Vals xs us→Vals ys us→xs=ys
 | _,_,_,.nil,.nil=>rfl
 | _,_,_,.cons r t,.cons r' t'=>by rw [r.inj r',Vals.inj t t']
section
variable {X:Cx} {pins:aY} {σ:St} {H:Hp} {s:Shared} {a:Addr} {xs ys:List V}
variable {K:aE}
theorem a_.of(h:H a=some (.lst xs)):a_ K H a xs:=.inl (.inl h)
theorem d7.of(h:H a=some (.tup xs)):d7 K H a xs:=.inl (.inl h)
theorem Inv.list(I:Inv X pins σ H s)(h:a_ X.K H a xs):∃aq:List Value,Vals xs aq∧PlainL s.heap a aq.toArray∧xs.length≤sizeLine:=by
 rcases h with h | ⟨o,aq,n,hk,hc,hd,hs,hz,r⟩
 ·obtain ⟨z,aq,n,r,e⟩:=h.ok I.aF
  exact ⟨aq,r,⟨_,n,e,rfl,rfl,rfl⟩,z⟩
 ·refine ⟨aq.toList,r,⟨o,n,I.dy a o hk,hc,hd,by simpa using hs⟩,?_⟩
  have e:=r.length;simp only [Array.length_toList] at e;lia
theorem Inv.tuple(I:Inv X pins σ H s)(h:d7 X.K H a xs):∃aq:List Value,Vals xs aq∧IsTup s.heap a aq.toArray∧xs.length≤sizeLine:=by
 rcases h with h | ⟨o,aq,n,hk,hc,hs,hz,r⟩
 ·obtain ⟨z,aq,r,p⟩:=h.ok I.aF
  exact ⟨aq,r,p,z⟩
 ·refine ⟨aq.toList,r,⟨o,I.dy a o hk,hc,n,by simpa using hs⟩,?_⟩
  have e:=r.length;simp only [Array.length_toList] at e;lia
theorem Inv.yF(I:Inv X pins σ H s)(h:a_ X.K H a xs)(h':a_ X.K H a ys):xs=ys:=by
 obtain ⟨aq,r,⟨o,n,e,_,_,d⟩,_⟩:=I.list h;obtain ⟨its',r',⟨o',n',e',_,_,d'⟩,_⟩:=I.list h';rw [e] at e';cases e';rw [d] at d';injection d' with d1 _;have:aq=its':=by simpa using fN Array.toList d1
 subst this;exact r.inj r'
theorem Inv.NH(I:Inv X pins σ H s)(h:d7 X.K H a xs)(h':d7 X.K H a ys):xs=ys:=by
 obtain ⟨aq,r,⟨o,e,_,n,d⟩,_⟩:=I.tuple h;obtain ⟨its',r',⟨o',e',_,n',d'⟩,_⟩:=I.tuple h';rw [e] at e';cases e';rw [d] at d';injection d' with d1 _;have:aq=its':=by simpa using fN Array.toList d1
 subst this;exact r.inj r'
end
abbrev Cx.j8 (X:Cx) (E:b_):Cx:={X with xe:=E}
abbrev Cx.oK (X:Cx):Cx:=X.j8 fun _ _=>False
theorem Cx.Ok.j8(ok:X.Ok)(E:b_):(X.j8 E).Ok:=
 ⟨ok.mod,ok.kind,ok.glob,ok.blt,ok.above,ok.inj,ok.has,ok.vQ,ok.hd,ok.frames,ok.il,ok.GA,ok.bs,ok.ip,ok.oG,ok.oH,ok.iV,ok.kZ⟩
theorem Cx.Ok.mD(ok:(X.j8 E).Ok):X.Ok:=
 ⟨ok.mod,ok.kind,ok.glob,ok.blt,ok.above,ok.inj,ok.has,ok.vQ,ok.hd,ok.frames,ok.il,ok.GA,ok.bs,ok.ip,ok.oG,ok.oH,ok.iV,ok.kZ⟩
section
variable {X:Cx} {pins:aY} {σ:St} {H:Hp} {s:Shared} {E:b_}
theorem Inv.j8(I:Inv X pins σ H s)(E:b_):Inv (X.j8 E) pins σ H s:=⟨I.ok.j8 E,I.os,I.bare,I.base,I.loc,I.cell,I.free,I.iW,I.pin,I.aF,I.len⟩
theorem Inv.mD(I:Inv (X.j8 E) pins σ H s):Inv X pins σ H s:=⟨I.ok.mD,I.os,I.bare,I.base,I.loc,I.cell,I.free,I.iW,I.pin,I.aF,I.len⟩
theorem SP.mD{D:Ends}{f:Flow}{s':Shared}(h:SP (X.j8 E) pins D f s'):SP X pins D f s':=by
 cases f with
 | next=>obtain ⟨σ',H',I,q⟩:=h;exact ⟨σ',H',I.mD,q⟩
 | brk=>obtain ⟨σ',H',I,q⟩:=h;exact ⟨σ',H',I.mD,q⟩
 | cont=>obtain ⟨σ',H',I,q⟩:=h;exact ⟨σ',H',I.mD,q⟩
 | ret u=>obtain ⟨v,σ',H',I,r,q⟩:=h;exact ⟨v,σ',H',I.mD,r,q⟩
theorem eE.oK{st:List Stmt}{t:TS}(h:eE X.oK st t):eE X st t:=fun pins s σ H D I hw=>cS (h pins s σ H D (I.j8 _) hw) (fun _ _ q=>q.mD) fun _ _ z=>False.elim z
end
section
variable {X:Cx} {st:Stmt} {rest:List Stmt} {t u:TS} {e:Expr} {te:TE} {pos:Pos}
def iq:TS:=fun D σ H=>D.nx σ H
def Co(t u:TS):TS:=fun D σ H=>t {D with nx:=u D} σ H
theorem b6:eE X [] iq:=fun _ _ σ H _ I h=>yj ⟨σ,H,I,h⟩
theorem ak(h1:PS X st t)(h2:eE X rest u):eE X (st::rest) (Co t u):=by
 intro pins s σ H D I h;refine wpAny_execs_cons (aG (h1 pins s σ H {D with nx:=u D} I h) fun f s1 q=>?_);cases f with
 | next=>obtain ⟨σ',H',I',q⟩:=q;exact h2 pins s1 σ' H' D I' q
 | ret v=>exact q
 | brk=>exact q
 | cont=>exact q
theorem aw(h1:PS X st t):eE X [st] t:=by
 intro pins s σ H D I h;refine wpAny_execs_cons (aG (h1 pins s σ H D I h) fun f s1 q=>?_);cases f with
 | next=>exact yj q
 | ret v=>exact q
 | brk=>exact q
 | cont=>exact q
def NI:TS:=fun D σ H=>D.bk σ H
theorem NJ:PS X (.Break pos) NI:=fun _ _ σ H _ I h=>wpAny_Break ⟨σ,H,I,h⟩
theorem Inv.quiet{pins:aY}{σ:St}(I:Inv X pins σ H s):interactive X.env=false:=by simp [interactive,I.ok.kind]
def NK(te:TE):TS:=fun D σ H=>te σ H fun _ H1=>D.nx σ H1
theorem GP(he:PE X e te)(hs:swapsWith e none pos.line X.env=pure false:=by rfl):PS X (.Expr e pos) (NK te):=by intro pins s σ H D I h;exact wpAny_Expr_any (aG (he pins s σ H _ I h) fun v s1 ⟨x,H1,I1,r1,q1⟩=>⟨σ,H1,I1,q1⟩) I.quiet hs
def Cp(te:TE):TS:=fun D σ H=>te σ H D.rt
theorem aR(he:PE X e te):PS X (.Return (some e) pos) (Cp te):=by intro pins s σ H D I h;exact wpAny_Return_some (aG (he pins s σ H _ I h) fun v s1 ⟨x,H1,I1,r1,q1⟩=>⟨x,σ,H1,I1,r1,q1⟩)
def vV(c:TT)(t u:TS):TS:=fun D σ H=>c σ H fun b H1=>if b=true then t D σ H1 else u D σ H1
theorem bG{c:Expr}{a b:List Stmt}{tc:TT}(hc:PT X c tc)(ha:eE X a t)(hb:eE X b u):PS X (.If c a b pos) (vV tc t u):=by
 intro pins s σ H D I h;refine wpAny_If (aG (hc pins s σ H _ I h) fun d s1 ⟨H1,I1,q1⟩=>?_);cases d with
 | true=>exact ha pins s1 σ H1 D I1 q1
 | false=>exact hb pins s1 σ H1 D I1 q1
def NL:TS:=fun _ _ _=>False
theorem NM{NN:List Stmt}:eE X NN NL:=fun _ _ _ _ _ _ h=>h.elim
end
abbrev TG:=V→St→Hp→(St→Hp→Prop)→Prop
abbrev oM:=List V→St→Hp→(St→Hp→Prop)→Prop
def PG(X:Cx)(target:Expr)(t:TG):Prop:=
 ∀(pins:aY) (s:Shared) (σ:St) (H:Hp) (v:V) (u:Value) (Q:St→Hp→Prop),Inv X pins σ H s→RelV v u→t v σ H Q→
  wpAny (model X.prog X.w) X.A (assign target X.env u) (fun _ s'=>∃σ' H',Inv X pins σ' H' s'∧Q σ' H') X.xe s
def yG(X:Cx)(ts:List Expr)(t:oM):Prop:=
 ∀(pins:aY) (s:Shared) (σ:St) (H:Hp) (vs:List V) (us:List Value) (Q:St→Hp→Prop),Inv X pins σ H s→Vals vs us→t vs σ H Q→
  wpAny (model X.prog X.w) X.A (assignInOrder ((assignEach ts X.env).map (·.2)) us) (fun _ s'=>∃σ' H',Inv X pins σ' H' s'∧Q σ' H') X.xe s
abbrev vW:=V→V→V→Hp→(Hp→Prop)→Prop
def Cq(X:Cx)(t:vW):Prop:=
 ∀(pins:aY) (s:Shared) (σ:St) (H:Hp) (o i v:V) (ov iv u:Value) (Q:Hp→Prop),Inv X pins σ H s→RelV o ov→RelV i iv→RelV v u→t o i v H Q→
  wpAny (model X.prog X.w) X.A (setItem ov iv u) (fun _ s'=>∃H',Inv X pins σ H' s'∧Q H') X.xe s
abbrev rS:=V→V→Hp→VK→Prop
def vX(X:Cx)(op:Operator)(t:rS):Prop:=
 ∀(pins:aY) (s:Shared) (σ:St) (H:Hp) (x y:V) (v u:Value) (Q:VK),Inv X pins σ H s→RelV x v→RelV y u→t x y H Q→
  wpAny (model X.prog X.w) X.A (inplaceOp op v u) (EP X pins σ Q) X.xe s
section
variable {X:Cx} {pos:Pos}
def bH(i:Nat):TG:=fun v σ H Q=>Q (σ.set i (some v)) H
variable {i:Nat}
theorem e_{x:Str}(hN:X.N.Nodup)(hi:X.N[i]?=some x)(hx:Loc X.env.scope x)(hf:X.fn x=true∨X.env.scope.names.lookup x=some .local:=by first | exact .inl rfl | exact .inr rfl | assumption):PG X (.Name x pos) (bH i):=by intro pins s σ H v u Q I r h;exact wpAny_assign_Name (vU I hN hi hx r (fun s' I'=>⟨_,H,I',h⟩) hf)
def GQ:oM:=fun vs σ H Q=>vs=[]∧Q σ H
def Cr(t:TG)(u:oM):oM:=fun vs σ H Q=>∃v r,vs=v::r∧t v σ H fun σ' H'=>u r σ' H' Q
theorem yH:yG X [] GQ:=by intro pins s σ H vs us Q I r h;obtain ⟨e,h⟩:=h;subst e;cases r;exact assignInOrder_nil ⟨σ,H,I,h⟩
variable {e:Expr} {es:List Expr}
theorem mE{t:TG}{u:oM}(h1:PG X e t)(h2:yG X es u)
  (hs:(assignEach (e::es) X.env).map (·.2)=assign e X.env::(assignEach es X.env).map (·.2):=by rfl):yG X (e::es) (Cr t u):=by
 intro pins s σ H vs us Q I r h;obtain ⟨v,vr,e1,h⟩:=h;subst e1;cases r with
 | cons r rr=>rw [hs];refine assignInOrder_cons (aG (h1 pins s σ H _ _ _ I r h) fun _ s1 ⟨σ1,H1,I1,q1⟩=>?_);exact h2 pins s1 σ1 H1 _ _ Q I1 rr q1
def GR(K:aE)(n:Nat)(t:oM):TG:=fun v σ H Q=>∃a xs,v=.ref a∧d7 K H a xs∧xs.length=n∧t xs σ H Q
theorem yI{k:Nat}{t:oM}{n:Nat}(hc:X.calm=true)(h:yG X es t)
  (hn:(assignEach es X.env).length=n:=by rfl) (Cs:(assignEach es X.env).findIdx? (·.1)=none:=by rfl):PG X (.Tuple es k pos) (GR X.K n t):=by
 intro pins s σ H v u Q I r hw;obtain ⟨a,xs,e1,hq,hl,hw⟩:=hw;subst e1;cases r;obtain ⟨aq,rv,ht,hz⟩:=I.tuple hq;refine assign_Tuple_tuple (I.ok.hd hc) ht (by simp [hn,←hl,rv.length]) Cs fun h' hx=>?_
 have I1:Inv X pins σ H {s with heap:=h'}:=I.kept (t':=s.toks) fun b o e=>hx b o (ej (b8 e)) e;exact h pins _ σ H xs _ Q I1 (by simpa using rv) hw
def NO(to ti:TE)(t:vW):TG:=fun v σ H Q=>to σ H fun o H1=>ti σ H1 fun i H2=>t o i v H2 fun H3=>Q σ H3
theorem vY{o i:Expr}{to ti:TE}{t:vW}(ho:PE X o to)(hi:PE X i ti)(hs:Cq X t)
  (ha:∀v,assign (.Subscript o i pos) X.env v=(do
   let ov ←holding [v] (eval o X.env)
   let iv ←holding [v,ov] (eval i X.env)
   standAt pos
   holding [v,ov,iv] (setItem ov iv v)
   release [v,ov,iv] []):=by intro _;rfl):PG X (.Subscript o i pos) (NO to ti t):=by
 intro pins s σ H v u Q I r h
 rw [ha]
 refine cI (wpAny_holding (aG (ho pins s σ H _ I h) fun ov s1 ⟨x,H1,I1,r1,q1⟩=>?_))
 refine cI (wpAny_holding (aG (hi pins s1 σ H1 _ I1 q1) fun iv s2 ⟨y,H2,I2,r2,q2⟩=>?_))
 refine cI (wpAny_standAt (cI (wpAny_holding (aG (hs pins s2 σ H2 x y v ov iv u _ I2 r1 r2 r q2) fun _ s3 ⟨H3,I3,q3⟩=>?_))))
 exact wpAny_release ⟨σ,H3,I3,q3⟩
def mF(te:TE)(g:TG):TS:=fun D σ H=>te σ H fun x H1=>g x σ H1 D.nx
theorem vZ{tg e:Expr}{te:TE}{g:TG}(he:PE X e te)(hg:PG X tg g)(hs:swapsWithSole [tg] e pos.line X.env=pure false:=by rfl)(hw:swappedStores [tg] e X.env=pure none:=by rfl)
  (h1:(assignEach [tg] X.env).map (·.2)=[assign tg X.env]:=by rfl):PS X (.Assign [tg] e pos) (mF te g):=by
 intro pins s σ H D I h;refine wpAny_Assign_stores (aG (he pins s σ H _ I h) fun v s1 ⟨x,H1,I1,r1,q1⟩=>?_) hs hw;rw [h1];exact aG (hg pins s1 σ H1 x v _ I1 r1 q1) fun _ s2 q=>q
variable {te:TE} {pos':Pos}
theorem NP{x:Str}(hN:X.N.Nodup)(hi:X.N[i]?=some x)(hx:Loc X.env.scope x)(he:PE X e te)(hs:swapsWith e (some (.Name x pos')) pos.line X.env=pure false:=by rfl)(hf:X.fn x=true∨X.env.scope.names.lookup x=some .local:=by first | exact .inl rfl | exact .inr rfl | assumption) :
  PS X (.Assign [.Name x pos'] e pos) (mF te (bH i)):=by
 intro pins s σ H D I h;refine wpAny_Assign_Name (aG (he pins s σ H _ I h) fun v s1 ⟨y,H1,I1,r1,q1⟩=>?_) hs;exact vU I1 hN hi hx r1 (fun s2 I2=>⟨_,H1,I2,q1⟩) hf
def NQ(i j:Nat)(ta:TA):TS:=fun D σ H=>ta σ H fun vs H1=>∃v w,vs=[v,w]∧D.nx ((σ.set i (some v)).set j (some w)) H1
theorem NR{j:Nat}{x y:Str}{a b:Expr}{ta:TA}{px py pt:Pos}{kt k2 Ct}(hc:X.calm=true)(hN:X.N.Nodup)(hi:X.N[i]?=some x)(hj:X.N[j]?=some y)(NS:i≠j)
  (hx:X.env.scope.names.lookup x=some .local) (hy:X.env.scope.names.lookup y=some .local) (ha:PA X [a,b] ta)
  (hw:swappedStores [.Tuple [.Name x px,.Name y py] kt pt] (.Tuple [a,b] k2 Ct) X.env=pure (some [x,y]))
  (hs:swapsWithSole [.Tuple [.Name x px,.Name y py] kt pt] (.Tuple [a,b] k2 Ct) pos.line X.env=pure false:=by rfl) :
  PS X (.Assign [.Tuple [.Name x px,.Name y py] kt pt] (.Tuple [a,b] k2 Ct) pos) (NQ i j ta):=by
 intro pins s σ H D I h
 rw [exec_Assign_arm]
 refine cI (wpAny_standAt ?_)
 rw [hs]
 refine cI (eY ?_)
 rw [ao (by decide)]
 refine cI (Tuple_ (aG (ha _ pins s σ H _ I h) fun us s1 ⟨vs,H1,I1,r1,q1⟩=>?_))
 obtain ⟨v,w,e1,q1⟩:=q1
 subst e1
 obtain ⟨u1,u2,rfl,rv,oN⟩:∃u1 u2,us=[u1,u2]∧RelV v u1∧RelV w u2:=by
  cases r1 with
  | cons p q=>
   cases q with
   | cons p' q'=>
    cases q'
    exact ⟨_,_,rfl,p,p'⟩
 refine yk ?_ (by show 2≤sizeLine;decide)
 have I2:Inv X pins σ H1 {s1 with heap:=s1.heap.push {cls:=.type "tuple",data:=.seq [u1,u2].toArray}}:=I1.kept (t':=s1.toks) fun b o e=>dD _ e
 rw [hw]
 refine cI (eY ?_)
 show wpAny (model X.prog X.w) X.A (do rule "assign.swapped-stores";let items ←unpackItems (.ref s1.heap.objs.size) 2 none;assignInOrder [fun v=>bindName X.env y v,fun v=>bindName X.env x v] items.reverse;pure Flow.next) _ _ _
 refine cI (wpAny_rule (cI (unpackItems_tuple (items:=#[u1,u2]) (I.ok.hd hc) (IsTup.new s1.heap _) fun h' NT=>?_)))
 have I3:=I2.kept (h':=h') (t':=s1.toks) fun b o e=>NT b o (ej (b8 e)) e
 show wpAny _ _ (assignInOrder [fun v=>bindName X.env y v,fun v=>bindName X.env x v] [u2,u1] >>= fun _=>pure Flow.next) _ _ _
 refine cI (assignInOrder_cons (wpAny_bindName (vU I3 hN hj (.inl hy) oN (fun s2 I4=>?_) (.inr hy))))
 refine assignInOrder_cons (wpAny_bindName (vU I4 hN hi (.inl hx) rv (fun s3 I5=>assignInOrder_nil (eY ?_)) (.inr hx)))
 rw [List.set_comm _ _ (Ne.symm NS)] at I5
 exact ⟨_,H1,I5,q1⟩
def NU(i:Nat)(te:TE)(ti:rS):TS:=fun D σ H=>∃x,σ[i]?=some (some x)∧te σ H fun y H1=>ti x y H1 fun z H2=>D.nx (σ.set i (some z)) H2
theorem yJ{x:Str}{op:Operator}{ti:rS}(hN:X.N.Nodup)(hi:X.N[i]?=some x)(hx:Loc X.env.scope x)(he:PE X e te)(ho:vX X op ti)(hf:X.fn x=true∨X.env.scope.names.lookup x=some .local:=by first | exact .inl rfl | exact .inr rfl | assumption) :
  PS X (.AugAssign (.Name x pos') op e pos) (NU i te ti):=by
 intro pins s σ H D I h;obtain ⟨v,e1,h⟩:=h;obtain ⟨m,hn,hl⟩:=I.loc;have NV:mz X.env.scope x:=by rcases hx with k | k;exact .inl k;exact .inr (.inl k)
 obtain ⟨u,r,l⟩:=hl i x v hi e1 NV;refine wpAny_AugAssign_Name ?_;have go:wpAny (model X.prog X.w) X.A (eval e X.env) (fun w s₂=>wpAny (model X.prog X.w) X.A (inplaceOp op u w) (fun r s₃=>wpAny (model X.prog X.w) X.A (storeName X.env x r) (fun _=>SP X pins D .next) X.xe s₃) X.xe s₂) X.xe s:=by refine aG (he pins s σ H _ I h) fun w s1 ⟨y,H1,I1,r1,q1⟩=>?_;refine aG (ho pins s1 σ H1 v y u w _ I1 r r1 q1) fun z s2 ⟨zv,H2,I2,r2,q2⟩=>?_;exact vU I2 hN hi hx r2 (fun s3 I3=>⟨_,H2,I3,q2⟩) hf
 rcases l with ⟨hk,hm⟩ | ⟨hk,c,hc,yB⟩;·exact wpAny_loadName_local I.ok.kind hk hn hm go
 ·rcases hk with hk | hk
  ·exact wpAny_loadName_cell I.ok.kind hk hc yB go
  ·rcases hx with k | k
   ·have:X.env.scope.names.lookup x=some .free:=hk
    rw [k] at this;cases this
   ·have:X.env.scope.names.lookup x=some .free:=hk
    rw [k] at this;cases this
def NW(to ti te:TE)(yK:V→V→Hp→VK→Prop)(yL:rS)(yM:vW):TS:=fun D σ H=>to σ H fun o H1=>ti σ H1 fun i H2=>yK o i H2 fun x H3=>te σ H3 fun y H4=>yL x y H4 fun z H5=>yM o i z H5 fun H6=>D.nx σ H6
def GS(X:Cx)(t:V→V→Hp→VK→Prop):Prop:=
 ∀(pins:aY) (s:Shared) (σ:St) (H:Hp) (o i:V) (ov iv:Value) (Q:VK),Inv X pins σ H s→RelV o ov→RelV i iv→t o i H Q→
  wpAny (model X.prog X.w) X.A (getItem ov iv) (EP X pins σ Q) X.xe s
theorem NX{o i e:Expr}{to ti te:TE}{yK:V→V→Hp→VK→Prop}{yL:rS}{yM:vW}{op:Operator}{rT:Pos}(ho:PE X o to)(hi:PE X i ti)(hg:GS X yK)(he:PE X e te)(hp:vX X op yL)(hs:Cq X yM)
  (ha:∀ov iv new,augStore i ov iv new=(do holding [new,ov,iv] (setItem ov iv new);release [new,ov,iv] [];pure .next):=by intros;rfl):PS X (.AugAssign (.Subscript o i rT) op e pos) (NW to ti te yK yL yM):=by
 intro pins s σ H D I h
 refine wpAny_AugAssign_SubscriptAny (aG (ho pins s σ H _ I h) fun ov s1 ⟨x1,H1,I1,r1,q1⟩=>?_) ha
 refine aG (hi pins s1 σ H1 _ I1 q1) fun iv s2 ⟨x2,H2,I2,r2,q2⟩=>?_
 refine aG (hg pins s2 σ H2 x1 x2 ov iv _ I2 r1 r2 q2) fun old s3 ⟨x3,H3,I3,r3,q3⟩=>?_
 refine aG (he pins s3 σ H3 _ I3 q3) fun v s4 ⟨x4,H4,I4,r4,q4⟩=>?_
 refine aG (hp pins s4 σ H4 x3 x4 old v _ I4 r3 r4 q4) fun new s5 ⟨x5,H5,I5,r5,q5⟩=>?_
 exact aG (hs pins s5 σ H5 x1 x2 x5 ov iv new _ I5 r1 r2 r5 q5) fun _ s6 ⟨H6,I6,q6⟩=>⟨σ,H6,I6,q6⟩
def GU(f:Int→Int→Int):rS:=fun x y H Q=>∃i j,x=.int i∧y=.int j∧Q (.int (f i j)) H
theorem GV:vX X .Add (GU fun i j=>i+j):=by intro pins s σ H x y v u Q I r1 r2 h;obtain ⟨i,j,e1,e2,q⟩:=h;subst e1;subst e2;obtain ⟨t,rfl⟩:=r1;obtain ⟨t',rfl⟩:=r2;exact iadd_int ⟨.int _,H,I.tok _,⟨_,rfl⟩,q⟩
theorem GW:vX X .Sub (GU fun i j=>i-j):=by intro pins s σ H x y v u Q I r1 r2 h;obtain ⟨i,j,e1,e2,q⟩:=h;subst e1;subst e2;obtain ⟨t,rfl⟩:=r1;obtain ⟨t',rfl⟩:=r2;exact isub_int ⟨.int _,H,I.tok _,⟨_,rfl⟩,q⟩
end
section
variable {X:Cx} {pos:Pos}
def NY(c:TT)(tb:TS):TS:=fun D σ H=>∃W:Nat→St→Hp→Prop,(∃m,W m σ H)∧∀m σ H,W m σ H→
 c σ H fun b H1=>if b=true then ∃N:St→Hp→Prop,(∀σ' H',N σ' H'→∃m',m'<m∧W m' σ' H')∧tb {D with nx:=N,ct:=N,bk:=D.nx} σ H1 else D.nx σ H1
theorem mG{c:Expr}{body:List Stmt}{tc:TT}{tb:TS}(hp:PassesOwn (model X.prog X.w) X.A X.env X.xe)(hc:PT X c tc)(hb:eE X body tb):PS X (.While c body [] pos) (NY tc tb):=by
 intro pins s σ H D I h;obtain ⟨W,⟨m0,w0⟩,turn⟩:=h;refine wpAny_While (codeAny_whileLoop (fun n s'=>∃σ' H',Inv X pins σ' H' s'∧W n σ' H') ?_ m0 ⟨σ,H,I,w0⟩);rintro n s1 ⟨σ1,H1,I1,w1⟩;refine oq hp (aG (hc pins s1 σ1 H1 _ I1 (turn n σ1 H1 w1)) fun b s2 ⟨H2,I2,q2⟩=>?_);cases b with
 | true=>
  obtain ⟨N,hN,q2⟩:=q2;rw [ar rfl];refine oq hp (aG (hb pins s2 σ1 H2 _ I2 q2) fun f s3 q3=>?_);cases f with
  | next=>obtain ⟨σ3,H3,I3,n3⟩:=q3;obtain ⟨m',hm,w3⟩:=hN σ3 H3 n3;exact ⟨m',hm,σ3,H3,I3,w3⟩
  | cont=>obtain ⟨σ3,H3,I3,n3⟩:=q3;obtain ⟨m',hm,w3⟩:=hN σ3 H3 n3;exact ⟨m',hm,σ3,H3,I3,w3⟩
  | brk=>exact q3
  | ret v=>exact q3
 | false=>rw [ao dm];exact yj ⟨σ1,H2,I2,q2⟩
end
structure It where
 go:Nat→Hp→Prop
 eI:Nat→Hp→V→Hp→Prop
 stop:Nat→Hp→Prop
def k7(X:Cx)(pins:aY)(H:Hp)(b:Addr):Prop:=
 H b=none∧b≠X.env.locals∧b∉X.fs∧(b∈X.ex∨X.s₀.heap.objs.size≤b)∧(∀x c,X.env.cells.lookup x=some c→c≠b)∧∀p∈X.pn++pins,p.1≠b
variable {σ:St}
theorem Inv.rV{pins:aY}{H':Hp}(I:Inv X pins σ H s)(hb:s.heap.objs.size≤b)(hn:H' b=none):k7 X pins H' b:=by
 refine ⟨hn,Nat.ne_of_gt (dW I.lt hb),I.Nv hb,.inr (ae I.sz hb),fun x c e z=>?_,fun p hp z=>?_⟩
 ·obtain ⟨v,q⟩:=I.cell x c e
  exact absurd (dW q.lt (by rw [z];exact hb)) (gN _)
 ·exact absurd (dW (b8 (I.pin p hp).1) (by rw [z];exact hb)) (gN _)
structure Turn (P:Program) (w:World) (K:aE) (tg:Expr) (J:It) (fp:List Addr) (it:Addr) (tn:Nat→Heap→Prop):Prop where
 mem:it∈fp
 obj:∀i h,tn i h→∀b∈fp,∃o,h.get? b=some o∧∀v,o.data≠.cell v
 keep:∀i h h',tn i h→(∀b∈fp,∀o,h.get? b=some o→h'.get? b=some o)→tn i h'
 item:∀(X:Cx),X.prog=P→X.w=w→X.K=K→X.calm=true→∀(i:Nat) (pins:aY) (s:Shared) (σ:St) (H:Hp) (E:b_),Inv X pins σ H s→(∀b∈fp,k7 X pins H b)→tn i s.heap→J.go i H→
  wpAny (model P w) X.A (pyNext (.ref it)) (fun r s1=>∃u,r=some u ∧
   wpAny (model P w) X.A (letOwnedTupleGo tg (.ref it) u) (fun _ s2=>∃x H',Inv X pins σ H' s2∧RelV x u∧J.eI i H x H'∧tn (i+1) s2.heap∧∀b∈fp,H' b=none) E s1) E s
 done:∀(X:Cx),X.prog=P→X.w=w→X.K=K→X.calm=true→∀(i:Nat) (pins:aY) (s:Shared) (σ:St) (H:Hp) (E:b_),Inv X pins σ H s→(∀b∈fp,k7 X pins H b)→tn i s.heap→J.stop i H→
  wpAny (model P w) X.A (pyNext (.ref it)) (fun r s1=>r=none∧Inv X pins σ H s1) E s
 self:∀(A:Around) (i:Nat) (s:Shared) (Q:b_) (E:b_),tn i s.heap→Q (.ref it) s→wpAny (model P w) A (pyIter (.ref it)) Q E s
abbrev TI:=St→Hp→(It→Hp→Prop)→Prop
def Cu(X:Cx)(pins:aY)(σ:St)(tg:Expr)(R:It→Hp→Prop)(v_:Value)(s2:Shared):Prop:=
 ∃(it:Addr) (fp:List Addr) (tn:Nat→Heap→Prop) (J:It) (H':Hp),v_=.ref it∧Inv X pins σ H' s2∧Turn X.prog X.w X.K tg J fp it tn∧tn 0 s2.heap∧(∀b∈fp,k7 X pins H' b)∧R J H'
def PI(X:Cx)(tg iter:Expr)(wi:TI):Prop:=
 ∀(pins:aY) (s:Shared) (σ:St) (H:Hp) (R:It→Hp→Prop),Inv X pins σ H s→wi σ H R→
  wpAny (model X.prog X.w) X.A (eval iter X.env) (fun v s1=>wpAny (model X.prog X.w) X.A (pyIter v) (Cu X pins σ tg R) X.xe s1) X.xe s
variable {tg:Expr}
theorem yN{it:Addr}{u:Value}{o:Obj}{n:String}{vs:Array Value}{Q:Unit→Shared→Prop}(ho:s.heap.get? it=some o)(hc:o.cls=.type n)(hd:o.data=.fields vs)
    (hn:["enumerate","zip","dict_itemiterator","dict_reverseitemiterator","odict_iterator","itertools.zip_longest","itertools.pairwise"].contains n=false) (hQ:Q () s):wpAny M A (letOwnedTupleGo tg (.ref it) u) Q E s:=by
  unfold letOwnedTupleGo
  cases tg <;> first
    | exact eY hQ
    | (cases u <;> first
        | exact eY hQ
        | (refine cI (wpAny_load ho ?_)
           rw [hc,hd];show wpAny M A (if (["enumerate","zip","dict_itemiterator","dict_reverseitemiterator","odict_iterator","itertools.zip_longest","itertools.pairwise"].contains n && vs[0]? == some (rawInt _))=true then _ else _) Q E s
           rw [ao (by intro h;rw [hn,Bool.false_and] at h;cases h)]
           exact eY hQ))
def rX(K:aE)(a:Addr):It:=
 ⟨fun i H=>∃xs x,a_ K H a xs∧xs[i]?=some x,fun i H x H'=>H'=H∧∀xs,a_ K H a xs→xs[i]?=some x,fun i H=>∃xs,a_ K H a xs∧xs.length≤i⟩
def wa(K:aE)(a:Addr):It:=
 ⟨fun i H=>∃xs x,d7 K H a xs∧xs[i]?=some x,fun i H x H'=>H'=H∧∀xs,d7 K H a xs→xs[i]?=some x,fun i H=>∃xs,d7 K H a xs∧xs.length≤i⟩
def mH(lo:Int)(n:Nat):It:=⟨fun i _=>i<n,fun i H x H'=>H'=H∧x=.int (lo+i),fun i _=>n≤i⟩
variable {K:aE}
theorem NZ(a it:Addr):Turn P w K tg (rX K a) [it] it (fun i h=>h.IsListIter it a i) where
 mem:=by simp
 obj:=fun i h st b hb=>by
  have e:b=it:=by simpa using hb
  subst e;obtain ⟨o,e,c,d⟩:=st;exact ⟨o,e,fun v z=>by rw [d] at z;cases z⟩
 keep:=fun i h h' st k=>st.at fun o e=>k it (by simp) o e
 item:=by
  intro X hP hw hK hc i pins s σ H E I hf st hg;subst hP hw hK;obtain ⟨xs,x,hq,hx⟩:=hg;obtain ⟨aq,rv,p,hz⟩:=I.list hq;obtain ⟨u,hu,ru⟩:=rv.get hx;obtain ⟨f0,f1,f2,f3,f4,f5⟩:=hf it (by simp)
  refine wpAny_pyNext_list_item st p.isList (x:=u) (by simpa using hu) fun h' jr sb=>?_
  have I1:Inv X pins σ H {s with heap:=h'}:=I.turned (t':=s.toks) (fun b o hb e=>(sb.2 b hb).trans e) f0 f1 f3 f4 f5;obtain ⟨o,e,c,d⟩:=id jr;exact ⟨u,rfl,yN (s:={s with heap:=h'}) e c d (by decide) ⟨x,H,I1,ru,⟨rfl,fun ys hy=>by rw [I.yF hy hq];exact hx⟩,jr,fun b hb=>(hf b hb).1⟩⟩
 done:=by
  intro X hP hw hK hc i pins s σ H E I hf st hg;subst hP hw hK;obtain ⟨xs,hq,hx⟩:=hg;obtain ⟨aq,rv,p,hz⟩:=I.list hq;obtain ⟨f0,f1,f2,f3,f4,f5⟩:=hf it (by simp)
  have hl:=rv.length;exact wpAny_pyNext_list_end (I.ok.hd hc) st p.isList (by simp;lia) fun h' eb=>⟨rfl,I.turned (t':=s.toks) (fun b o hb e=>eb b o hb e) f0 f1 f3 f4 f5⟩
 self:=fun _ _ _ _ _ st h=>wpAny_pyIter_listiter st h
theorem N0(a it:Addr):Turn P w K tg (wa K a) [it] it (fun i h=>h.IsTupleIter it a i) where
 mem:=by simp
 obj:=fun i h st b hb=>by
  have e:b=it:=by simpa using hb
  subst e;obtain ⟨o,e,c,d⟩:=st;exact ⟨o,e,fun v z=>by rw [d] at z;cases z⟩
 keep:=fun i h h' st k=>st.at fun o e=>k it (by simp) o e
 item:=by
  intro X hP hw hK hc i pins s σ H E I hf st hg;subst hP hw hK;obtain ⟨xs,x,hq,hx⟩:=hg;obtain ⟨aq,rv,p,hz⟩:=I.tuple hq;obtain ⟨u,hu,ru⟩:=rv.get hx;obtain ⟨f0,f1,f2,f3,f4,f5⟩:=hf it (by simp)
  refine wpAny_pyNext_tuple_item st (show s.heap.IsTuple a aq.toArray from p) (x:=u) (by simpa using hu) fun h' jr sb=>?_
  have I1:Inv X pins σ H {s with heap:=h'}:=I.turned (t':=s.toks) (fun b o hb e=>(sb.2 b hb).trans e) f0 f1 f3 f4 f5;obtain ⟨o,e,c,d⟩:=id jr;exact ⟨u,rfl,yN (s:={s with heap:=h'}) e c d (by decide) ⟨x,H,I1,ru,⟨rfl,fun ys hy=>by rw [I.NH hy hq];exact hx⟩,jr,fun b hb=>(hf b hb).1⟩⟩
 done:=by
  intro X hP hw hK hc i pins s σ H E I hf st hg;subst hP hw hK;obtain ⟨xs,hq,hx⟩:=hg;obtain ⟨aq,rv,p,hz⟩:=I.tuple hq;obtain ⟨f0,f1,f2,f3,f4,f5⟩:=hf it (by simp)
  have hl:=rv.length;exact wpAny_pyNext_tuple_end (I.ok.hd hc) st (show s.heap.IsTuple a aq.toArray from p) (by simp;lia) fun h' eb=>⟨rfl,I.turned (t':=s.toks) (fun b o hb e=>eb b o hb e) f0 f1 f3 f4 f5⟩
 self:=fun _ _ _ _ _ st h=>wpAny_pyIter_tupleiter st h
theorem N3(it:Addr)(lo:Int)(n:Nat):Turn P w K tg (mH lo n) [it] it (fun i h=>IsRangeIter h it (lo+(i:Nat)*1) ((n:Int)-(i:Nat)) 1) where
 mem:=by simp
 obj:=fun i h st b hb=>by
  have e:b=it:=by simpa using hb
  subst e;exact ⟨_,st,fun v z=>by have z':Data.fields _=Data.cell v:=z;cases z'⟩
 keep:=fun i h h' st k=>k it (by simp) _ st
 item:=by
  intro X hP hw hK hc i pins s σ H E I hf st hg;subst hP hw hK;obtain ⟨f0,f1,f2,f3,f4,f5⟩:=hf it (by simp)
  have W:=Walks.range (prog:=X.prog) (w:=X.w) (I.ok.hd hc) it lo 1 n;refine W.item i s _ _ hg st fun v h' tk hv jr kk=>?_;obtain ⟨t,rfl⟩:=hv;have I1:Inv X pins σ H {s with heap:=h',toks:=tk}:=I.turned (fun b o hb e=>kk b o (by simpa using hb) e) f0 f1 f3 f4 f5
  refine ⟨_,rfl,yN (s:={s with heap:=h',toks:=tk}) (n:="range_iterator") jr rfl rfl (by decide) ⟨.int (lo+i),H,I1,⟨t,?_⟩,⟨rfl,rfl⟩,jr,fun b hb=>(hf b hb).1⟩⟩
  rw [fO]
 done:=by
  intro X hP hw hK hc i pins s σ H E I hf st hg;subst hP hw hK;obtain ⟨f0,f1,f2,f3,f4,f5⟩:=hf it (by simp)
  exact wpAny_pyNext_range_end (I.ok.hd hc) st (by have:n≤i:=hg;lia) fun h' eb=>⟨rfl,I.turned (t':=s.toks) (fun b o hb e=>eb b o hb e) f0 f1 f3 f4 f5⟩
 self:=fun _ _ _ _ _ st h=>wpAny_pyIter_rangeiter st h
section
variable {X:Cx} {tg:Expr}
def N4(K:aE)(tl:TE):TI:=fun σ H R=>tl σ H fun x H1=>∃a,x=.ref a∧(∃xs,a_ K H1 a xs)∧R (rX K a) H1
def N5(K:aE)(tl:TE):TI:=fun σ H R=>tl σ H fun x H1=>∃a,x=.ref a∧(∃xs,d7 K H1 a xs)∧R (wa K a) H1
variable {l:Expr} {tl:TE}
theorem j9(hl:PE X l tl):PI X tg l (N4 X.K tl):=by
 intro pins s σ H R I h;refine aG (hl pins s σ H _ I h) fun v s1 ⟨x,H1,I1,r1,q1⟩=>?_;obtain ⟨a,e,⟨xs,hq⟩,q⟩:=q1;subst e;cases r1;obtain ⟨aq,rv,p,hz⟩:=I1.list hq;refine wpAny_pyIter_list p.isList ?_;refine ⟨s1.heap.objs.size,[s1.heap.objs.size],_,_,H1,rfl,I1.kept (t':=s1.toks) fun b o e=>dD _ e,NZ a _,⟨_,gP _ rfl,rfl,rfl⟩,fun b hb=>?_,q⟩;have e:b=s1.heap.objs.size:=by simpa using hb
 subst e;exact I1.rV (aN _) (I1.aF.fresh (aN _))
theorem N6(hl:PE X l tl):PI X tg l (N5 X.K tl):=by
 intro pins s σ H R I h;refine aG (hl pins s σ H _ I h) fun v s1 ⟨x,H1,I1,r1,q1⟩=>?_;obtain ⟨a,e,⟨xs,hq⟩,q⟩:=q1;subst e;cases r1;obtain ⟨aq,rv,p,hz⟩:=I1.tuple hq;refine wpAny_pyIter_tuple (show s1.heap.IsTuple a aq.toArray from p) ?_;refine ⟨s1.heap.objs.size,[s1.heap.objs.size],_,_,H1,rfl,I1.kept (t':=s1.toks) fun b o e=>dD _ e,N0 a _,⟨_,gP _ rfl,rfl,rfl⟩,fun b hb=>?_,q⟩;have e:b=s1.heap.objs.size:=by simpa using hb
 subst e;exact I1.rV (aN _) (I1.aF.fresh (aN _))
variable {pins:aY}
theorem N7{R:It→Hp→Prop}{lo hi:Int}{t u v:Tok}{tk:Nat}(I:Inv X pins σ H s)(h1:-(2 ^ 62)≤lo)(h2:lo<2 ^ 62)(h3:-(2 ^ 62)≤hi)(h4:hi<2 ^ 62)
  (q:R (mH lo (hi-lo).toNat) H):wpAny (model X.prog X.w) X.A (pyIter (.ref s.heap.objs.size)) (Cu X pins σ tg R) E {s with heap:=s.heap.push {cls:=.type "range",data:=.fields #[.int lo t,.int hi u,.int 1 v]},toks:=tk}:=by
 refine wpAny_pyIter_range (IsRange.new ..) (small_one h1 h2 h3 h4) ?_;have I1:Inv X pins σ H {s with heap:=s.heap.push {cls:=.type "range",data:=.fields #[.int lo t,.int hi u,.int 1 v]},toks:=tk}:=I.kept fun b o e=>dD _ e
 refine ⟨(s.heap.push {cls:=.type "range",data:=.fields #[.int lo t,.int hi u,.int 1 v]}).objs.size,[(s.heap.push {cls:=.type "range",data:=.fields #[.int lo t,.int hi u,.int 1 v]}).objs.size],_,_,H,rfl,
  I1.kept (t':=tk) fun b o e=>dD _ e,N3 _ lo (hi-lo).toNat,?_,fun b hb=>?_,q⟩
 ·have e1:lo+((0:Nat):Int)*1=lo:=by simp
  have e2:(((hi-lo).toNat:Nat):Int)-((0:Nat):Int)=Builtin.Range.rangeSize lo hi 1:=by rw [rangeSize_one];split <;> lia
  show IsRangeIter _ _ (lo+((0:Nat):Int)*1) ((((hi-lo).toNat:Nat):Int)-((0:Nat):Int)) 1;rw [e1,e2];exact gP _ rfl
 ·have e:b=(s.heap.push {cls:=.type "range",data:=.fields #[.int lo t,.int hi u,.int 1 v]}).objs.size:=by simpa using hb
  subst e;exact I1.rV (aN _) (I1.aF.fresh (aN _))
def N8(ta:TA):TI:=fun σ H R=>ta σ H fun vs H1=>∃j:Int,vs=[.int j]∧-(2 ^ 62)≤j∧j<2 ^ 62∧R (mH 0 j.toNat) H1
variable {pos:Pos}
theorem gS{a:Expr}{ta:TA}{p:Pos}(hg:Gl X "range")(hm:X.mg "range"=none)(ha:PA X [a] ta)(hs:starEach [a] X.env=[(false,eval a X.env)]:=by rfl):PI X tg (.Call (.Name "range" p) [a] [] pos) (N8 ta):=by
 intro pins s σ H R I h;refine Call_ (oJ I hg hm boot_range (vz (aG (ha pos pins s σ H _ I h) fun us s1 ⟨vs,H1,I1,r1,q1⟩=>?_) hs rfl));obtain ⟨j,e,q1,q2,q⟩:=q1;subst e;cases r1 with
 | cons r rr=>cases rr;obtain ⟨t,rfl⟩:=r;exact call_range_1 (N7 I1 (by lia) (by lia) q1 q2 (by simpa using q))
def N9(wi:TI)(g:TG)(tb:TS):TS:=fun D σ H=>wi σ H fun J H1=>∃W:Nat→Nat→St→Hp→Prop,(∃m,W 0 m σ H1)∧∀i m σ H,W i m σ H→
 (J.stop i H∧D.nx σ H)∨(J.go i H∧∃N:St→Hp→Prop,(∀σ' H',N σ' H'→∃m',m'<m∧W (i+1) m' σ' H')∧∀x H',J.eI i H x H'→g x σ H' fun σ2 H2=>tb {D with nx:=N,ct:=N,bk:=D.nx} σ2 H2)
def j_(fp:List Addr)(h:Heap):List (Addr×Obj):=fp.filterMap fun b=>(h.get? b).map fun o=>(b,o)
variable {fp:List Addr}
theorem mI{o:Obj}(hb:b∈fp)(e:h.get? b=some o):(b,o)∈j_ fp h:=List.mem_filterMap.mpr ⟨b,hb,by rw [e];rfl⟩
theorem N_{p:Addr×Obj}(hp:p∈j_ fp h):p.1∈fp∧h.get? p.1=some p.2:=by
 obtain ⟨b,hb,e⟩:=List.mem_filterMap.mp hp;cases q:h.get? b with
 | none=>rw [q] at e;cases e
 | some o=>rw [q] at e;have e':(b,o)=p:=Option.some.inj e;subst e';exact ⟨hb,q⟩
theorem Inv.pinned(I:Inv X pins σ H s)(hf:∀b∈fp,k7 X pins H b)(ho:∀b∈fp,∃o,s.heap.get? b=some o∧∀v,o.data≠.cell v):Inv X (pins++j_ fp s.heap) σ H s:=
 I.GD fun p hp=>(h_.mp hp).elim (fun z=>I.pin p (eZ _ z)) fun z=>by obtain ⟨hb,e⟩:=N_ z;obtain ⟨f0,f1,f2,_⟩:=hf p.1 hb;obtain ⟨o,e',d⟩:=ho p.1 hb;rw [e] at e';cases e';exact ⟨e,f0,f1,f2,d⟩
theorem Inv.rY{pl:aY}(I:Inv X (pins++pl) σ H s):Inv X pins σ H s:=I.GD fun p hp=>I.pin p (eZ _ (List.mem_append_left _ hp))
theorem iY{iter:Expr}{body:List Stmt}{wi:TI}{g:TG}{tb:TS}(hp:PassesOwn (model X.prog X.w) X.A X.env X.xe)(hc:X.calm=true)(hi:PI X tg iter wi)(hg:PG X tg g)(hb:eE X body tb)
  (hs:∀x,foldedSetIterable iter X.env x=pure x:=by intro _;rfl):PS X (.For tg iter body [] pos) (N9 wi g tb):=by
 intro pins s σ H D I h;refine wpAny_For (aG (hi pins s σ H _ I h) fun v s1 h1=>aG h1 fun v_ s2 h2=>?_) hs;obtain ⟨it,fp,tn,J,H2,e,I2,T,ir,f2,W,⟨m0,w0⟩,turn⟩:=h2;subst e;have gB:∀{H':Hp},(∀b∈fp,H' b=none)→∀b∈fp,k7 X pins H' b:=fun hn b hb=>⟨hn b hb,(f2 b hb).2⟩;refine codeAny_forLoop_any (fun n s'=>∃i σ' H',Inv X pins σ' H' s'∧tn i s'.heap∧(∀b∈fp,H' b=none)∧W i n σ' H') ?_ m0 ⟨0,σ,H2,I2,ir,fun b hb=>(f2 b hb).1,w0⟩;rintro n s3 ⟨i,σ3,H3,I3,GX,GY,w3⟩;rcases turn i n σ3 H3 w3 with ⟨stop,qn⟩ | ⟨go,N,hN,step⟩
 ·refine oq hp (aG (T.done X rfl rfl rfl hc i pins s3 σ3 H3 X.xe I3 (gB GY) GX stop) fun r s4 ⟨hr,I4⟩=>?_)
  subst hr;exact yj ⟨σ3,H3,I4,qn⟩
 ·refine oq hp (aG (T.item X rfl rfl rfl hc i pins s3 σ3 H3 X.xe I3 (gB GY) GX go) fun r s4 ⟨u,hr,h4⟩=>?_)
  subst hr;refine oq hp (aG h4 fun _ s5 ⟨x,H5,I5,r5,y5,gC,oO⟩=>?_);have oP:=I5.pinned (gB oO) (T.obj _ _ gC);refine oq hp (aG (hg _ s5 σ3 H5 x u _ oP r5 (step x H5 y5)) fun _ s6 ⟨σ6,H6,I6,q6⟩=>?_);refine oq hp (aG (hb _ s6 σ6 H6 _ I6 q6) fun f s7 q7=>?_);have again:∀{σ7:St} {H7:Hp},Inv X (pins++j_ fp s5.heap) σ7 H7 s7→N σ7 H7→∃m,m<n∧∃i σ' H',Inv X pins σ' H' s7∧tn i s7.heap∧(∀b∈fp,H' b=none)∧W i m σ' H':=fun{σ7 H7} I7 n7=>by obtain ⟨m',hm,w7⟩:=hN σ7 H7 n7;refine ⟨m',hm,i+1,σ7,H7,I7.rY,T.keep _ _ _ gC fun b hb o e=>(I7.pin (b,o) (eZ _ (eZ _ (mI hb e)))).1,fun b hb=>?_,w7⟩;obtain ⟨o,e,d⟩:=T.obj _ _ gC b hb;exact (I7.pin (b,o) (eZ _ (eZ _ (mI hb e)))).2.1
  cases f with
  | next=>obtain ⟨σ7,H7,I7,n7⟩:=q7;exact again I7 n7
  | cont=>obtain ⟨σ7,H7,I7,n7⟩:=q7;exact again I7 n7
  | brk=>obtain ⟨σ7,H7,I7,q7⟩:=q7;exact ⟨σ7,H7,I7.rY,q7⟩
  | ret v=>obtain ⟨x7,σ7,H7,I7,r7,q7⟩:=q7;exact ⟨x7,σ7,H7,I7.rY,r7,q7⟩
end
variable {g:TG} {tb:TS} {D:Ends}
theorem GZ{a:Addr}(Pv:Nat→St→Hp→Prop)(h0:Pv 0 σ H)(hl:∀i σ H,i≤xs.length→Pv i σ H→a_ K H a xs)
  (hs:∀i x σ H,xs[i]?=some x→Pv i σ H→g x σ H fun σ2 H2=>tb {D with nx:=Pv (i+1),ct:=Pv (i+1),bk:=D.nx} σ2 H2) (hd:∀σ H,Pv xs.length σ H→D.nx σ H) :
  ∃W:Nat→Nat→St→Hp→Prop,(∃m,W 0 m σ H)∧∀i m σ H,W i m σ H→
   ((rX K a).stop i H∧D.nx σ H)∨((rX K a).go i H∧∃N:St→Hp→Prop,(∀σ' H',N σ' H'→∃m',m'<m∧W (i+1) m' σ' H')∧∀x H',(rX K a).eI i H x H'→g x σ H' fun σ2 H2=>tb {D with nx:=N,ct:=N,bk:=D.nx} σ2 H2):=by
 refine ⟨fun i m σ H=>m=xs.length-i∧i≤xs.length∧Pv i σ H,⟨xs.length,by simp,b9 _,h0⟩,?_⟩
 rintro i m σ H ⟨rfl,hi,p⟩;have q:=hl i σ H hi p;by_cases cK:i<xs.length
 ·refine .inr ⟨⟨xs,xs[i],q,by simp [cK]⟩,Pv (i+1),fun σ' H' p'=>⟨xs.length-(i+1),by lia,rfl,cK,p'⟩,fun x H' y=>?_⟩
  obtain ⟨e,y⟩:=y;subst e;exact hs i x σ _ (y xs q) p
 ·have e:i=xs.length:=by lia
  subst e;exact .inl ⟨⟨xs,q,aN _⟩,hd σ H p⟩
theorem Oa{a:Addr}(Pv:Nat→St→Hp→Prop)(h0:Pv 0 σ H)(hl:∀i σ H,i≤xs.length→Pv i σ H→d7 K H a xs)
  (hs:∀i x σ H,xs[i]?=some x→Pv i σ H→g x σ H fun σ2 H2=>tb {D with nx:=Pv (i+1),ct:=Pv (i+1),bk:=D.nx} σ2 H2) (hd:∀σ H,Pv xs.length σ H→D.nx σ H) :
  ∃W:Nat→Nat→St→Hp→Prop,(∃m,W 0 m σ H)∧∀i m σ H,W i m σ H→
   ((wa K a).stop i H∧D.nx σ H)∨((wa K a).go i H∧∃N:St→Hp→Prop,(∀σ' H',N σ' H'→∃m',m'<m∧W (i+1) m' σ' H')∧∀x H',(wa K a).eI i H x H'→g x σ H' fun σ2 H2=>tb {D with nx:=N,ct:=N,bk:=D.nx} σ2 H2):=by
 refine ⟨fun i m σ H=>m=xs.length-i∧i≤xs.length∧Pv i σ H,⟨xs.length,by simp,b9 _,h0⟩,?_⟩
 rintro i m σ H ⟨rfl,hi,p⟩;have q:=hl i σ H hi p;by_cases cK:i<xs.length
 ·refine .inr ⟨⟨xs,xs[i],q,by simp [cK]⟩,Pv (i+1),fun σ' H' p'=>⟨xs.length-(i+1),by lia,rfl,cK,p'⟩,fun x H' y=>?_⟩
  obtain ⟨e,y⟩:=y;subst e;exact hs i x σ _ (y xs q) p
 ·have e:i=xs.length:=by lia
  subst e;exact .inl ⟨⟨xs,q,aN _⟩,hd σ H p⟩
variable {n:Nat}
theorem rZ{lo:Int}(Pv:Nat→St→Hp→Prop)(h0:Pv 0 σ H)
  (hs:∀i σ H,i<n→Pv i σ H→g (.int (lo+i)) σ H fun σ2 H2=>tb {D with nx:=Pv (i+1),ct:=Pv (i+1),bk:=D.nx} σ2 H2) (hd:∀σ H,Pv n σ H→D.nx σ H) :
  ∃W:Nat→Nat→St→Hp→Prop,(∃m,W 0 m σ H)∧∀i m σ H,W i m σ H→
   ((mH lo n).stop i H∧D.nx σ H)∨((mH lo n).go i H∧∃N:St→Hp→Prop,(∀σ' H',N σ' H'→∃m',m'<m∧W (i+1) m' σ' H')∧∀x H',(mH lo n).eI i H x H'→g x σ H' fun σ2 H2=>tb {D with nx:=N,ct:=N,bk:=D.nx} σ2 H2):=by
 refine ⟨fun i m σ H=>m=n-i∧i≤n∧Pv i σ H,⟨n,by simp,b9 _,h0⟩,?_⟩
 rintro i m σ H ⟨rfl,hi,p⟩;by_cases cK:i<n
 ·refine .inr ⟨cK,Pv (i+1),fun σ' H' p'=>⟨n-(i+1),by lia,rfl,cK,p'⟩,fun x H' y=>?_⟩
  obtain ⟨e,y⟩:=y;subst e y;exact hs i σ _ cK p
 ·have e:i=n:=by lia
  subst e;exact .inl ⟨aN _,hd σ H p⟩
abbrev R2:=V→V→Hp→VK→Prop
def cz(X:Cx)(f:Value→Value→Sem Value)(r:R2):Prop:=
 ∀(pins:aY) (s:Shared) (σ:St) (H:Hp) (x y:V) (v u:Value) (Q:VK),Inv X pins σ H s→RelV x v→RelV y u→r x y H Q→
  wpAny (model X.prog X.w) X.A (f v u) (EP X pins σ Q) X.xe s
def Cv(X:Cx)(f:Value→Sem Value)(r:V→Hp→VK→Prop):Prop:=
 ∀(pins:aY) (s:Shared) (σ:St) (H:Hp) (x:V) (v:Value) (Q:VK),Inv X pins σ H s→RelV x v→r x H Q→
  wpAny (model X.prog X.w) X.A (f v) (EP X pins σ Q) X.xe s
def ka(X:Cx)(f:Value)(r:List V→Hp→VK→Prop):Prop:=
 ∀(pins:aY) (s:Shared) (σ:St) (H:Hp) (xs:List V) (us:List Value) (Q:VK),Inv X pins σ H s→Vals xs us→r xs H Q→
  wpAny (model X.prog X.w) X.A (call f us) (EP X pins σ Q) X.xe s
def oQ(r:R2)(ta tb:TE):TE:=fun σ H Q=>ta σ H fun x H1=>tb σ H1 fun y H2=>r x y H2 Q
def Ob(r:V→Hp→VK→Prop)(ta:TE):TE:=fun σ H Q=>ta σ H fun x H1=>r x H1 Q
def rI(C:Int→Int→Prop)(g:Int→Int→V):R2:=fun x y H Q=>∃i j,x=.int i∧y=.int j∧C i j∧Q (g i j) H
def mJ(g:Int→Int→V):R2:=fun x y H Q=>∃i j,x=.int i∧y=.int j∧Q (g i j) H
def rU(g:Int→V):V→Hp→VK→Prop:=fun x H Q=>∃i,x=.int i∧Q (g i) H
section
variable {X:Cx} {a b c:Expr} {ta tb tc:TE} {pos:Pos}
variable {f:Value→Value→Sem Value}
theorem Cw(ha:PE X a ta)(hb:PE X b tb){pins:aY}{R:V→V→Hp→Prop}(I:Inv X pins σ H s)
  (h:ta σ H fun x H1=>tb σ H1 fun y H2=>R x y H2) {Q:b_}
  (hf:∀v u s2 x y H2,Inv X pins σ H2 s2→RelV x v→RelV y u→R x y H2→wpAny (model X.prog X.w) X.A (f v u) Q X.xe s2) :
  wpAny (model X.prog X.w) X.A (eval a X.env) (fun v s₁=>wpAny (model X.prog X.w) X.A (eval b X.env) (fun u s₂=>wpAny (model X.prog X.w) X.A (f v u) Q X.xe s₂) X.xe s₁) X.xe s:=by
 refine aG (ha pins s σ H _ I h) fun v s1 ⟨x,H1,I1,r1,q1⟩=>?_;refine aG (hb pins s1 σ H1 _ I1 q1) fun u s2 ⟨y,H2,I2,r2,q2⟩=>?_;exact hf v u s2 x y H2 I2 r1 r2 q2
theorem au{op:Operator}{r:R2}(ho:cz X (binaryOp op) r)(ha:PE X a ta)(hb:PE X b tb):PE X (.BinOp a op b pos) (oQ r ta tb):=by intro pins s σ H Q I h;exact wpAny_BinOp (Cw ha hb I h fun v u s2 x y H2 I2 rx ry q=>ho pins s2 σ H2 x y v u Q I2 rx ry q)
theorem jt{op:UnaryOp}{r:V→Hp→VK→Prop}(ho:Cv X (unaryOp op) r)(ha:PE X a ta):PE X (.UnaryOp op a pos) (Ob r ta):=by intro pins s σ H Q I h;exact UnaryOp_ (aG (ha pins s σ H _ I h) fun v s1 ⟨x,H1,I1,r1,q1⟩=>ho pins s1 σ H1 x v Q I1 r1 q1)
theorem oR{C:Int→Int→Prop}{g:Int→Int→Int}
  (rule:∀(i j:Int) (t u:Tok) (s:Shared) (Q:b_) (E:b_),C i j→Q (.int (g i j) s.toks) {s with toks:=s.toks+1}→wpAny (model X.prog X.w) X.A (f (.int i t) (.int j u)) Q E s) :
  cz X f (rI C fun i j=>.int (g i j)):=by
 intro pins s σ H x y v u Q I rx ry h;obtain ⟨i,j,rfl,rfl,hc,q⟩:=h;obtain ⟨t,rfl⟩:=rx;obtain ⟨t',rfl⟩:=ry;exact rule i j t t' s _ _ hc ⟨.int (g i j),H,I.tok _,⟨_,rfl⟩,q⟩
theorem G3{g:Int→Int→Int}
  (rule:∀(i j:Int) (t u:Tok) (s:Shared) (Q:b_) (E:b_),Q (.int (g i j) s.toks) {s with toks:=s.toks+1}→wpAny (model X.prog X.w) X.A (f (.int i t) (.int j u)) Q E s) :
  cz X f (mJ fun i j=>.int (g i j)):=by
 intro pins s σ H x y v u Q I rx ry h;obtain ⟨i,j,rfl,rfl,q⟩:=h;obtain ⟨t,rfl⟩:=rx;obtain ⟨t',rfl⟩:=ry;exact rule i j t t' s _ _ ⟨.int (g i j),H,I.tok _,⟨_,rfl⟩,q⟩
theorem yO{g:Int→Int→Bool}
  (rule:∀(i j:Int) (t u:Tok) (s:Shared) (Q:b_) (E:b_),Q (.bool (g i j)) s→wpAny (model X.prog X.w) X.A (f (.int i t) (.int j u)) Q E s) :
  cz X f (mJ fun i j=>.bl (g i j)):=by
 intro pins s σ H x y v u Q I rx ry h;obtain ⟨i,j,rfl,rfl,q⟩:=h;obtain ⟨t,rfl⟩:=rx;obtain ⟨t',rfl⟩:=ry;exact rule i j t t' s _ _ ⟨.bl (g i j),H,I,rfl,q⟩
def Oc(i j:Int):Prop:=0<j∧j<1073741824
def Od(i j:Int):Prop:=0≤j∧j≤1000000∧i.natAbs<2 ^ 64
def Cy(i j:Int):Prop:=(-(2 ^ 64)<i∧i<2 ^ 64)∨(-(2 ^ 64)<j∧j<2 ^ 64)
theorem Cy.ok{i j:Int}(h:Cy i j):IntMulOk i j:=by
 rcases h with ⟨h1,h2⟩ | ⟨h1,h2⟩;·exact .of_left (intBits_le_64 h1 h2)
 ·exact .of_right (intBits_le_64 h1 h2)
theorem d5:cz X (binaryOp .Add) (mJ fun i j=>.int (i+j)):=G3 fun _ _ _ _ _ _ _ q=>add_int q
theorem d8:cz X (binaryOp .Sub) (mJ fun i j=>.int (i-j)):=G3 fun _ _ _ _ _ _ _ q=>sub_int q
theorem fS:cz X (binaryOp .Mult) (rI Cy fun i j=>.int (i*j)):=oR fun _ _ _ _ _ _ _ hc q=>mul_int q hc.ok
theorem Oe:cz X (binaryOp .FloorDiv) (rI Oc fun i j=>.int (i / j)):=oR fun i j _ _ _ _ _ hc q=>by have h1:(0:Int)<j:=hc.1;have h2:j<1073741824:=hc.2;exact floordiv_int (by lia) (by rw [vA i (by lia)];exact q) (.inl (PyProof.noPylong_small (by lia)))
theorem eJ:cz X (binaryOp .Mod) (rI (fun _ j=>0<j) fun i j=>.int (i % j)):=oR fun i j _ _ _ _ _ hc q=>by have h1:(0:Int)<j:=hc;exact mod_int' (by lia) (by rw [Int.fmod_eq_emod_of_nonneg i (by lia)];exact q)
theorem Cz:cz X (binaryOp .Pow) (rI Od fun i j=>.int (i ^ j.toNat)):=oR fun _ _ _ _ _ _ _ hc q=>pow_int_small hc.1 hc.2.1 hc.2.2 q
theorem Of{f:Value→Sem Value}{g:Int→Int}
  (rule:∀(i:Int) (t:Tok) (s:Shared) (Q:b_) (E:b_),Q (.int (g i) s.toks) {s with toks:=s.toks+1}→wpAny (model X.prog X.w) X.A (f (.int i t)) Q E s) :
  Cv X f (rU fun i=>.int (g i)):=by
 intro pins s σ H x v Q I rx h;obtain ⟨i,rfl,q⟩:=h;obtain ⟨t,rfl⟩:=rx;exact rule i t s _ _ ⟨.int (g i),H,I.tok _,⟨_,rfl⟩,q⟩
theorem ju:Cv X (unaryOp .USub) (rU fun i=>.int (-i)):=Of fun _ _ _ _ _ q=>neg_int q
end
def CA:V→V→Bool
 | .aV,.aV=>true | .aV,.int _=>true | .int _,.aV=>true | .aV,.bl _=>true | .bl _,.aV=>true | .aV,.str _=>true | .str _,.aV=>true
 | .int _,.int _=>true | .bl _,.bl _=>true | .str _,.str _=>true | .iU _,.iU _=>true
 | .int _,.str _=>true | .str _,.int _=>true | .bl _,.str _=>true | .str _,.bl _=>true
 | _,_=>false
def G4:R2:=fun x y H Q=>CA x y=true∧Q (.bl (decide (x=y))) H
def Og:R2:=fun x y H Q=>CA x y=true∧Q (.bl (!decide (x=y))) H
theorem G5{i j:Int}:decide (V.int i=V.int j)=(i == j):=by rw [vB];simp
theorem G6{i j:Bool}:decide (V.bl i=V.bl j)=(i == j):=by rw [vB];simp
theorem G7{i j:Str}:decide (V.str i=V.str j)=(i == j):=by rw [vB];simp
theorem G8{i j:Array UInt8}:decide (V.iU i=V.iU j)=(i.toList == j.toList):=by rw [vB];cases i;cases j;simp
section
variable {X:Cx} {a b c:Expr} {ta tb tc:TE} {pos:Pos}
theorem cN{pins:aY}{Q:VK}{k k':Bool}(I:Inv X pins σ H s)(q:Q (.bl k) H)(e:k=k'):EP X pins σ Q (.bool k') s:=by subst e;exact ⟨.bl k,H,I,rfl,q⟩
theorem dO:cz X (compareOp .Eq) G4:=by
 intro pins s σ H x y v u Q I rx ry h;obtain ⟨hs,q⟩:=h;cases x with
 | aV=>
  cases rx;cases y with
  | aV=>cases ry;exact PySem.EqNone.eq_none_none (cN I q (by simp))
  | bl j=>cases ry;exact PySem.EqNone.eq_none_bool (cN I q (by simp))
  | int j=>obtain ⟨t',rfl⟩:=ry;exact PySem.EqNone.eq_none_int (cN I q (by simp))
  | str j=>obtain ⟨t',rfl⟩:=ry;exact PySem.EqNone.eq_none_str (cN I q (by simp))
  | _=>exact absurd (show false=true from hs) dm
 | bl i=>
  cases rx;cases y with
  | aV=>cases ry;exact PySem.EqNone.eq_bool_none (cN I q (by simp))
  | bl j=>cases ry;exact eq_bool (cN I q G6)
  | str j=>obtain ⟨t',rfl⟩:=ry;exact PySem.EqMixed.eq_bool_str (cN I q (by simp))
  | _=>exact absurd (show false=true from hs) dm
 | int i=>
  obtain ⟨t,rfl⟩:=rx;cases y with
  | aV=>cases ry;exact PySem.EqNone.eq_int_none (cN I q (by simp))
  | int j=>obtain ⟨t',rfl⟩:=ry;exact eq_int (cN I q G5)
  | str j=>obtain ⟨t',rfl⟩:=ry;exact PySem.EqMixed.eq_int_str (cN I q (by simp))
  | _=>exact absurd (show false=true from hs) dm
 | str i=>
  obtain ⟨t,rfl⟩:=rx;cases y with
  | aV=>cases ry;exact PySem.EqNone.eq_str_none (cN I q (by simp))
  | bl j=>cases ry;exact PySem.EqMixed.eq_str_bool (cN I q (by simp))
  | int j=>obtain ⟨t',rfl⟩:=ry;exact PySem.EqMixed.eq_str_int (cN I q (by simp))
  | str j=>obtain ⟨t',rfl⟩:=ry;exact eq_str (cN I q G7)
  | _=>exact absurd (show false=true from hs) dm
 | iU i=>
  obtain ⟨t,rfl⟩:=rx;cases y with
  | iU j=>obtain ⟨t',rfl⟩:=ry;exact PySem.W.eq_bytes (cN I q G8)
  | _=>exact absurd (show false=true from hs) dm
 | _=>cases y <;> exact absurd (show false=true from hs) dm
theorem oS:cz X (compareOp .NotEq) Og:=by
 intro pins s σ H x y v u Q I rx ry h;obtain ⟨hs,q⟩:=h;cases x with
 | aV=>
  cases rx;cases y with
  | aV=>cases ry;exact PySem.EqNone.ne_none_none (cN I q (by simp))
  | bl j=>cases ry;exact PySem.EqNone.ne_none_bool (cN I q (by simp))
  | int j=>obtain ⟨t',rfl⟩:=ry;exact PySem.EqNone.ne_none_int (cN I q (by simp))
  | str j=>obtain ⟨t',rfl⟩:=ry;exact PySem.EqNone.ne_none_str (cN I q (by simp))
  | _=>exact absurd (show false=true from hs) dm
 | bl i=>
  cases rx;cases y with
  | aV=>cases ry;exact PySem.EqNone.ne_bool_none (cN I q (by simp))
  | bl j=>cases ry;exact ne_bool (cN I q (fN not G6))
  | str j=>obtain ⟨t',rfl⟩:=ry;exact PySem.EqMixed.ne_bool_str (cN I q (by simp))
  | _=>exact absurd (show false=true from hs) dm
 | int i=>
  obtain ⟨t,rfl⟩:=rx;cases y with
  | aV=>cases ry;exact PySem.EqNone.ne_int_none (cN I q (by simp))
  | int j=>obtain ⟨t',rfl⟩:=ry;exact ne_int (cN I q (fN not G5))
  | str j=>obtain ⟨t',rfl⟩:=ry;exact PySem.EqMixed.ne_int_str (cN I q (by simp))
  | _=>exact absurd (show false=true from hs) dm
 | str i=>
  obtain ⟨t,rfl⟩:=rx;cases y with
  | aV=>cases ry;exact PySem.EqNone.ne_str_none (cN I q (by simp))
  | bl j=>cases ry;exact PySem.EqMixed.ne_str_bool (cN I q (by simp))
  | int j=>obtain ⟨t',rfl⟩:=ry;exact PySem.EqMixed.ne_str_int (cN I q (by simp))
  | str j=>obtain ⟨t',rfl⟩:=ry;exact ne_str (cN I q (fN not G7))
  | _=>exact absurd (show false=true from hs) dm
 | iU i=>
  obtain ⟨t,rfl⟩:=rx;cases y with
  | iU j=>obtain ⟨t',rfl⟩:=ry;exact PySem.W.ne_bytes (cN I q (fN not G8))
  | _=>exact absurd (show false=true from hs) dm
 | _=>cases y <;> exact absurd (show false=true from hs) dm
theorem ke:cz X (compareOp .Lt) (mJ fun i j=>.bl (decide (i<j))):=yO fun _ _ _ _ _ _ _ q=>lt_int q
theorem r6:cz X (compareOp .LtE) (mJ fun i j=>.bl (decide (i≤j))):=yO fun _ _ _ _ _ _ _ q=>le_int q
theorem jv:cz X (compareOp .Gt) (mJ fun i j=>.bl (decide (j<i))):=yO fun _ _ _ _ _ _ _ q=>gt_int q
theorem CB:cz X (compareOp .GtE) (mJ fun i j=>.bl (decide (j≤i))):=yO fun _ _ _ _ _ _ _ q=>ge_int q
theorem r9:cz X (compareOp .Is) (fun x y H Q=>y=.aV∧Q (.bl (decide (x=.aV))) H):=by
 intro pins s σ H x y v u Q I rx ry h;obtain ⟨rfl,q⟩:=h;cases ry;refine is_none_gen (cN I q ?_)
 cases x <;> first
  | (cases rx;rfl)
  | (obtain ⟨t,rfl⟩:=rx;rfl)
theorem G9:cz X (compareOp .IsNot) (fun x y H Q=>y=.aV∧Q (.bl (!decide (x=.aV))) H):=by
 intro pins s σ H x y v u Q I rx ry h;obtain ⟨rfl,q⟩:=h;cases ry;refine isnot_none_gen (cN I q ?_)
 cases x <;> first
  | (cases rx;rfl)
  | (obtain ⟨t,rfl⟩:=rx;rfl)
variable {op:CmpOp}
theorem jw(b:Expr)(h:op≠.In:=by decide)(h2:op≠.NotIn:=by decide):behindInMarks op b=false:=by
 have e1:(op == CmpOp.In)=false:=by cases op <;> first | rfl | exact absurd rfl h
 have e2:(op == CmpOp.NotIn)=false:=by cases op <;> first | rfl | exact absurd rfl h2
 cases b <;> simp [behindInMarks,e1,e2]
variable {r:R2}
theorem Oh(ho:cz X (compareOp op) r)(ha:PE X a ta)(hb:PE X b tb)(hm:behindInMarks op b=false):PE X (.Compare a [op] [b] pos) (oQ r ta tb):=by intro pins s σ H Q I h;exact wpAny_Compare1 (Cw ha hb I h fun v u s2 x y H2 I2 rx ry q=>ho pins s2 σ H2 x y v u Q I2 rx ry q) hm
theorem mK{a:Expr}(ho:cz X (compareOp op) r)(ha:PE X a ta)(hb:PE X b tb)(hm:behindInMarks op b=false:=by exact jw _):PE X (.Compare a [op] [b] pos) (oQ r ta tb):=Oh ho ha hb hm
def CD(t:TE):TT:=fun σ H Q=>t σ H fun x H'=>∃k,x=.bl k∧Q k H'
theorem kf{op:CmpOp}{r:R2}(ho:cz X (compareOp op) r)(ha:PE X a ta)(hb:PE X b tb)(hm:behindInMarks op b=false):PT X (.Compare a [op] [b] pos) (CD (oQ r ta tb)):=by intro pins s σ H Q I h;refine wpAny_isTrue_Compare1 (aG (ha pins s σ H _ I h) fun v s1 ⟨x,H1,I1,r1,q1⟩=>aG (hb pins s1 σ H1 _ I1 q1) fun u s2 ⟨y,H2,I2,r2,q2⟩=>aG (ho pins s2 σ H2 x y v u _ I2 r1 r2 q2) fun c s3 ⟨z,H3,I3,r3,k,e,q3⟩=>?_) hm;subst e;cases r3;exact kM ⟨H3,I3,q3⟩
theorem bw{a:Expr}(ho:cz X (compareOp op) r)(ha:PE X a ta)(hb:PE X b tb)(hm:behindInMarks op b=false:=by exact jw _):PT X (.Compare a [op] [b] pos) (CD (oQ r ta tb)):=kf ho ha hb hm
def G_(r r':R2)(ta tb tc:TE):TE:=fun σ H Q=>ta σ H fun x H1=>tb σ H1 fun y H2=>r x y H2 fun z H3=>∃k,z=.bl k ∧
 (if k=true then tc σ H3 fun w' H4=>r' y w' H4 Q else Q (.bl false) H3)
variable {oT:CmpOp} {r':R2}
theorem Hn(ho:cz X (compareOp op) r)(jo:cz X (compareOp oT) r')(ha:PE X a ta)(hb:PE X b tb)(hc:PE X c tc)
  (hm:lastMarks [op,oT] [b,c]=false:=by with_unfolding_all rfl):PE X (.Compare a [op,oT] [b,c] pos) (G_ r r' ta tb tc):=by
 intro pins s σ H Q I h;refine Compare_chain (aG (ha pins s σ H _ I h) fun v s1 ⟨x,H1,I1,r1,q1⟩=>chain_link (aG (hb pins s1 σ H1 _ I1 q1) fun u s2 ⟨y,H2,I2,r2,q2⟩=>aG (ho pins s2 σ H2 x y v u _ I2 r1 r2 q2) fun d s3 ⟨z,H3,I3,r3,k,e,q3⟩=>?_)) hm;subst e;cases r3;refine kM ?_;cases k with
 | false=>exact ite_ff ⟨.bl false,H3,I3,rfl,q3⟩
 | true=>exact ite_tt (chain_last (aG (hc pins s3 σ H3 _ I3 q3) fun w' s4 ⟨z',H4,I4,r4,q4⟩=>jo pins s4 σ H4 y z' u w' Q I4 r2 r4 q4))
theorem Oi(ho:cz X (compareOp op) r)(jo:cz X (compareOp oT) r')(ha:PE X a ta)(hb:PE X b tb)(hc:PE X c tc)
  (hm:lastMarks [op,oT] [b,c]=false:=by with_unfolding_all rfl):PT X (.Compare a [op,oT] [b,c] pos) (CD (G_ r r' ta tb tc)):=by
 intro pins s σ H Q I h;refine isTrue_chain (aG (ha pins s σ H _ I h) fun v s1 ⟨x,H1,I1,r1,q1⟩=>test_link (aG (hb pins s1 σ H1 _ I1 q1) fun u s2 ⟨y,H2,I2,r2,q2⟩=>aG (ho pins s2 σ H2 x y v u _ I2 r1 r2 q2) fun d s3 ⟨z,H3,I3,r3,k,e,q3⟩=>?_)) hm;subst e;cases r3;refine kM ?_;cases k with
 | false=>obtain ⟨k',e',q'⟩:=q3;cases e';exact ite_ff ⟨H3,I3,q'⟩
 | true=>refine ite_tt (test_last (aG (hc pins s3 σ H3 _ I3 q3) fun w' s4 ⟨z',H4,I4,r4,q4⟩=>aG (jo pins s4 σ H4 y z' u w' _ I4 r2 r4 q4) fun d' s5 ⟨z2,H5,I5,r5,k2,e2,q5⟩=>?_));subst e2;cases r5;exact kM ⟨H5,I5,q5⟩
theorem wb:(sizeLine:Nat)<2 ^ 63:=by rw [sizeLine_eq];decide
theorem vals1(r:Vals [x] us):∃u,us=[u]∧RelV x u:=by
 cases r with
 | cons r1 r2=>cases r2;exact ⟨_,rfl,r1⟩
theorem vals2{y:V}(r:Vals [x,y] us):∃u w',us=[u,w']∧RelV x u∧RelV y w':=by
 cases r with
 | cons r1 r2=>
  cases r2 with
  | cons r3 r4=>cases r4;exact ⟨_,_,rfl,r1,r3⟩
theorem yP:ka X (.builtin "abs") (fun xs H Q=>∃i,xs=[.int i]∧Q (.int (if i<0 then -i else i)) H):=by intro pins s σ H xs us Q I r h;obtain ⟨i,rfl,q⟩:=h;obtain ⟨u,rfl,t,rfl⟩:=vals1 r;exact call_abs_int fun u tk=>⟨.int (if i<0 then -i else i),H,I.tok _,⟨_,rfl⟩,q⟩
theorem Ho(hc:X.calm=true):ka X (.builtin "max") (fun xs H Q=>∃i j,xs=[.int i,.int j]∧Q (.int (if j>i then j else i)) H):=by
 intro pins s σ H xs us Q I r h;obtain ⟨i,j,rfl,q⟩:=h;obtain ⟨u,w',rfl,⟨t,rfl⟩,⟨t',rfl⟩⟩:=vals2 r;refine max_two_ints (I.ok.hd hc) fun h' tk k=>⟨_,H,I.kept k,?_,q⟩;by_cases hj:j>i;·rw [ar hj,ar hj];exact ⟨_,rfl⟩
 ·rw [ao hj,ao hj];exact ⟨_,rfl⟩
theorem Oj(hc:X.calm=true):ka X (.builtin "min") (fun xs H Q=>∃i j,xs=[.int i,.int j]∧Q (.int (if j<i then j else i)) H):=by
 intro pins s σ H xs us Q I r h;obtain ⟨i,j,rfl,q⟩:=h;obtain ⟨u,w',rfl,⟨t,rfl⟩,⟨t',rfl⟩⟩:=vals2 r;refine min_two_ints (I.ok.hd hc) fun h' tk k=>⟨_,H,I.kept k,?_,q⟩;by_cases hj:j<i;·rw [ar hj,ar hj];exact ⟨_,rfl⟩
 ·rw [ao hj,ao hj];exact ⟨_,rfl⟩
theorem Ol:ka X (.type "int") (fun xs H Q=>(∃i,xs=[.int i]∧Q (.int i) H)∨∃k,xs=[.bl k]∧Q (.int (if k then 1 else 0)) H):=by
 intro pins s σ H xs us Q I r h;rcases h with ⟨i,rfl,q⟩ | ⟨k,rfl,q⟩
 ·obtain ⟨u,rfl,t,rfl⟩:=vals1 r
  exact call_int_int ⟨.int i,H,I,⟨_,rfl⟩,q⟩
 ·obtain ⟨u,rfl,r1⟩:=vals1 r
  cases r1;exact call_int_bool ⟨.int (if k then 1 else 0),H,I.tok _,⟨_,rfl⟩,q⟩
end
structure oU (h:Heap) (x dx C:Addr) (mA:dj):Prop where
 obj:h.get? x=some (PySem.W.instObj C dx)
 ns:h.Ns1 dx mA
 ne:dx≠x
variable {dx:Addr} {mA:dj}
theorem Om(n:h.Ns1 dx mA):∃od,h.get? dx=some od∧∀name,PySem.W.lookIn name od=some (mA name):=by
 obtain ⟨o,es,ep,ho,hd,hk,_,hm⟩:=n;refine ⟨o,ho,fun name=>?_⟩;have e:=hm name;unfold nsFind findBy at e;rw [←Array.find?_toList] at e;unfold PySem.W.lookIn;rw [hd];dsimp only
 split
 ·rename_i y q
  rw [q] at e;exact fN some e
 ·rename_i q
  rw [q] at e;have a:es.toList.any (·.refKey)=false:=by rw [List.any_eq_false];intro y hy;obtain ⟨z,t,Oo⟩:=hk y (Array.mem_toList_iff.mp hy);simp [DictEntry.refKey,Oo]
  have a':¬es.toList.any (·.refKey)=true:=by rw [a];exact dm
  rw [ao a'];exact fN some e
variable {C:Addr}
theorem oU.look{x:Addr}(I:oU h x dx C mA):∃od,PySem.W.InstAt h x (PySem.W.instObj C dx) C (some od)∧∀name,PySem.W.lookIn name od=some (mA name):=
 let ⟨od,ho,hl⟩:=Om I.ns
 ⟨od,⟨I.obj,rfl,rfl,ho⟩,hl⟩
section
variable {prog:Program} {w:World} {A:Around} {E:b_} {s:Shared} {K:aE} {x dx C f:Addr} {mA:dj} {name:Str} {v:Value}
theorem get_map{expr:Bool}{Q:b_}(X:K.In s.heap)(I:oU s.heap x dx C mA)(hg:PySem.W.plainGet K C name=true)(hh:PySem.W.hasDictIn K C=true)
  (ha:PySem.W.findIn K (.ref C) name=some none) (hv:mA name=some v) (r_:PySem.W.handedIn v=true) (h:Q v {s with toks:=s.toks+1}) :
  wpAny (model prog w) A (getAttr (.ref x) name expr) Q E s:=by
 obtain ⟨od,J,hl⟩:=I.look;exact PySem.W.get_value X J (PySem.W.plainGet_of hg).1 (PySem.W.findObj_own hh ha rfl (by rw [hl,hv])) r_ h
theorem Oq{pl:Sem Bool}{Q:Value×List Value→Shared→Prop}(X:K.In s.heap)(I:oU s.heap x dx C mA)(hg:PySem.W.plainGet K C name=true)
  (hf:PySem.W.findIn K (.ref C) name=some (some (.ref f))) (ht:PySem.W.isFn K (.ref f)=true) (hv:mA name=none) (h:Q (.ref f,[.ref x]) s) :
  wpAny (model prog w) A (getMethod (.ref x) name pl) Q E s:=by
 obtain ⟨od,J,hl⟩:=I.look;exact PySem.W.method_fn X J (PySem.W.plainGet_of hg).1 (PySem.W.plainGet_of hg).2 hf (jT.mp ht) (by show (PySem.W.lookIn name od).map (·.isSome)=some false;rw [hl,hv];rfl) h
theorem Ot{ns:List Str}{Q:Unit→Shared→Prop}(X:K.In s.heap)(I:oU s.heap x dx C mA)
  (hs:PySem.W.findIn K (.ref C) "__setattr__"=some (some (.builtin "object.__setattr__"))) (hp:PySem.W.plainOver K C=true) (ht:PySem.W.takerIn K C name=some none) (hh:PySem.W.hasDictIn K C=true)
  (hw:PySem.Within mA ns) (Hq:ns.length≤sizeLine)
  (h:∀h',oU h' x dx C (fun y=>if y=name then some v else mA y)→Heap.SameBut dx s.heap h'→Q () {s with heap:=h',toks:=s.toks+2}) :
  wpAny (model prog w) A (setAttr (.ref x) name v) Q E s:=by
 obtain ⟨od,J,hl⟩:=I.look;refine PySem.W.set_plain X J hs (PySem.W.osa_open (s:={s with toks:=s.toks+1}) (r:=none) X J hp ht fun b=>?_);obtain ⟨cd,hc,k4⟩:=PySem.W.any_some hh;have hx:s.heap.get? x=some ⟨.ref C,some dx,.plain,#[]⟩:=I.obj;refine cI (eY (cI (cI (wpAny_loadPart hx (cI (PySem.W.Looks.here (s:={s with toks:=s.toks+1}) (PySem.W.looks_clsIn X hc) ?_))))));rw [k4];refine eY (a:=some dx) (cI (eY (cI ?_)));refine wpAny_nsSet1 (s:={s with toks:=s.toks+1}) I.ns fun h' si kg=>?_;obtain ⟨oD,esD,epD,Ou,Ov,Ow⟩:=si.count (PySem.Within.cons name v hw);refine cI (wpAny_lookBehind Ou (by rw [Ov];exact pastItsLine_dict (ae Ow (by rw [fi];lia))) ?_)
 exact eY (h _ ⟨(kg.2 _ (Ne.symm I.ne)).trans I.obj,si,I.ne⟩ kg)
theorem Ox{R:Result→Shared→Prop}{vs:List Value}{kw:List (Str×Value)}(X:K.In s.heap)(hm:PySem.W.makesIn K C=true)
  (hi:PySem.W.findIn K (.ref C) "__init__"=some (some (.ref f))) (hf:PySem.W.typeIn K (.ref f)=some (.type "function"))
  (h:codeAny (model prog w) (A.under (.builtin "type.__call__" ⟨.ref C::vs,kw⟩)) (.call (.ref f) ⟨.ref (s.heap.objs.size+1)::vs,kw⟩) (PySem.W.InitBack (s.heap.objs.size+1) R)
   {s with heap:=(s.heap.push PySem.W.emptyDict).push (PySem.W.instObj C s.heap.objs.size)}) :
  codeAny (model prog w) A (.call (.ref C) ⟨vs,kw⟩) R s:=by
 obtain ⟨hh,g,d,t,os⟩:=s;exact PySem.W.make_core (PySem.W.makes_of X hm) (yl X hi) (fun self=>PySem.W.bind_fn X self hf) (.inl rfl) h
end
def fZ(f:Str)(v:V):List (Str×V)→List (Str×V)
 | []=>[(f,v)]
 | (g,x)::r=>if g=f then (g,v)::r else (g,x)::fZ f v r
theorem Hr(f g:Str)(v:V):∀fs:List (Str×V),(fZ f v fs).lookup g=if g=f then some v else fs.lookup g
 | []=>by
  show List.lookup g [(f,v)]=_;by_cases h:g=f
  ·have hb:(g == f)=true:=jT.mpr h
   simp only [List.lookup,hb,ar h]
  ·have hb:(g == f)=false:=vv.mpr h
   simp only [List.lookup,hb,ao h]
 | (k,x)::r=>by
  have ih:=Hr f g v r;rw [show fZ f v ((k,x)::r)=(if k=f then (k,v)::r else (k,x)::fZ f v r) from rfl]
  by_cases hk:k=f
  ·rw [ar hk]
   by_cases h:g=k
   ·have hb:(g == k)=true:=jT.mpr h
    simp only [List.lookup,hb,ar (h.trans hk)]
   ·have hb:(g == k)=false:=vv.mpr h
    simp only [List.lookup,hb,ao (fun e:g=f=>h (e.trans hk.symm))]
  ·rw [ao hk]
   by_cases h:g=k
   ·have hb:(g == k)=true:=jT.mpr h
    simp only [List.lookup,hb,ao (fun e:g=f=>hk (h.symm.trans e))]
   ·have hb:(g == k)=false:=vv.mpr h
    simp only [List.lookup,hb];exact ih
theorem CF(f:Str)(v:V):∀fs:List (Str×V),f∈(fZ f v fs).map (·.1)∧∀g,g∈fs.map (·.1)→g∈(fZ f v fs).map (·.1)
 | []=>⟨by simp [fZ],fun g h=>by simp at h⟩
 | (k,x)::r=>by
  obtain ⟨i1,i2⟩:=CF f v r;rw [show fZ f v ((k,x)::r)=(if k=f then (k,v)::r else (k,x)::fZ f v r) from rfl]
  by_cases hk:k=f
  ·rw [ar hk]
   subst hk;exact ⟨by simp,fun g h=>by simpa using h⟩
  ·rw [ao hk]
   refine ⟨?_,fun g h=>?_⟩
   ·rw [rB]
    exact gO _ i1
   ·rw [rB] at h ⊢
    rcases dX.mp h with e | e;·exact dX.mpr (.inl e)
    ·exact gO _ (i2 g e)
theorem Hs(f:Str)(v:V):∀fs:List (Str×V),(fZ f v fs).length≤fs.length+1
 | []=>by simp [fZ]
 | (k,x)::r=>by
  have ih:=Hs f v r;rw [show fZ f v ((k,x)::r)=(if k=f then (k,v)::r else (k,x)::fZ f v r) from rfl]
  by_cases hk:k=f;·rw [ar hk,fi,fi];lia
  ·rw [ao hk,fi,fi];lia
variable {v:V}
theorem j4.some_of{o:Option Value}(r:j4 (some v) o):∃u,o=some u∧RelV v u:=by
 cases o with
 | none=>exact (show False from r).elim
 | some u=>exact ⟨u,rfl,r⟩
theorem j4.none_of{o:Option Value}(r:j4 none o):o=none:=by
 cases o with
 | none=>rfl
 | some u=>exact (show False from r).elim
theorem Oy{u:Value}(r:RelV v u):PySem.W.handedIn u=true:=by
 cases v with
 | aV=>cases (show u=Value.none from r);rfl
 | bl b=>cases (show u=Value.bool b from r);rfl
 | int i=>obtain ⟨t,e⟩:=(show ∃t,u=Value.int i t from r);cases e;rfl
 | str x=>obtain ⟨t,e⟩:=(show ∃t,u=Value.str x t from r);cases e;rfl
 | iU b=>obtain ⟨t,e⟩:=(show ∃t,u=Value.bytes b t from r);cases e;rfl
 | oE b=>obtain ⟨t,e⟩:=(show ∃t,u=Value.float b t from r);cases e;rfl
 | ref a=>cases (show u=Value.ref a from r);rfl
 | ty n=>cases (show u=Value.type n from r);rfl
section
variable {P:Program} {w:World} {H H':Hp} {h h':Heap} {a C dx:Addr} {fs Np:List (Str×V)}
theorem yQ(aF:cL P w H h)(e:H a=some (.ins C dx fs)):∃mA,oU h a dx C mA∧(∀f,j4 (fs.lookup f) (mA f))∧PySem.Within mA (fs.map (·.1))∧fs.length≤1000∧H dx=some (.own a):=by obtain ⟨d,z,ne,ob,mA,n,r,q⟩:=(show d6 P w H h a (.ins C dx fs) from aF a _ e);exact ⟨mA,⟨ob,n,ne⟩,r,q,z,d⟩
end
structure jx (K:aE) (C:Addr):Prop where
 pg:PySem.W.plainGet K C Str.empty=true
 hd:PySem.W.hasDictIn K C=true
 po:PySem.W.plainOver K C=true
 sa:PySem.W.findIn K (.ref C) "__setattr__"=some (some (.builtin "object.__setattr__"))
theorem jx.get{K:aE}{C:Addr}(c:jx K C)(f:Str):PySem.W.plainGet K C f=true:=c.pg
def oV(K:aE)(C:Addr)(f:Str):Prop:=PySem.W.findIn K (.ref C) f=some none
theorem oV.Oz{f:Str}(n:oV K C f):PySem.W.takerIn K C f=some none:=by unfold PySem.W.takerIn;rw [show PySem.W.findIn K (.ref C) f=some none from n];rfl
structure Meth (K:aE) (C:Addr) (m:Str) (f:Addr):Prop where
 at_:PySem.W.findIn K (.ref C) m=some (some (.ref f))
 fn:PySem.W.isFn K (.ref f)=true
 kp:PySem.W.keepIn K (.ref f)=true
section
variable {X:Cx} {pins:aY} {σ:St} {H:Hp} {s:Shared} {a C dx:Addr} {fs:List (Str×V)} {f:Str} {v:V} {A:Around} {E:b_}
variable {Q:b_}
theorem OA{b:Bool}(I:Inv X pins σ H s)(e:H a=some (.ins C dx fs))(c:jx X.K C)(n:oV X.K C f)(l:fs.lookup f=some v)
  (h:∀u s',Inv X pins σ H s'→RelV v u→Q u s'):wpAny (model X.prog X.w) A (getAttr (.ref a) f b) Q E s:=by
 obtain ⟨mA,O,r,_,_,_⟩:=yQ I.aF e;obtain ⟨u,hu,ru⟩:=j4.some_of (v:=v) (o:=mA f) (by rw [←l];exact r f)
 exact get_map I.dy O (c.get f) c.hd n hu (Oy ru) (h u _ (I.tok _) ru)
theorem Ht{m:Str}{g:Addr}{pl:Sem Bool}{Q:Value×List Value→Shared→Prop}(I:Inv X pins σ H s)(e:H a=some (.ins C dx fs))(c:jx X.K C)(k:Meth X.K C m g)(l:fs.lookup m=none)
  (h:Q (.ref g,[.ref a]) s):wpAny (model X.prog X.w) A (getMethod (.ref a) m pl) Q E s:=by
 obtain ⟨mA,O,r,_,_,_⟩:=yQ I.aF e;have hn:mA m=none:=j4.none_of (by rw [←l];exact r m)
 exact Oq I.dy O (c.get m) k.at_ k.fn hn h
theorem OB{y:V}{u:Value}{Q:Unit→Shared→Prop}(I:Inv X pins σ H s)(e:H a=some (.ins C dx fs))(c:jx X.K C)(n:oV X.K C f)(hl:fs.length<1000)(ry:RelV y u)
  (h:∀s',Inv X pins σ (upd H a (.ins C dx (fZ f y fs))) s'→Q () s'):wpAny (model X.prog X.w) A (setAttr (.ref a) f u) Q E s:=by
 obtain ⟨mA,O,r,wi,_,ho⟩:=yQ I.aF e;have hz:(fs.map (·.1)).length≤sizeLine:=by rw [aT,sizeLine_eq];lia
 refine Ot I.dy O c.sa c.po n.Oz c.hd wi hz fun h' O' sb=>h _ ?_;have hd:∃o,h'.get? dx=some o:=let ⟨o,_,_,e',_⟩:=O'.ns;⟨o,e'⟩
 refine I.write (x:=a) (e:=dx) (by rw [e];exact True.intro) (.inr ho) (fun b q hb z=>(sb.2 b hb).trans z) hd ?_
 refine ⟨by rw [b7 O.ne];exact ho,?_,O.ne,O'.obj,_,O'.ns,fun g=>?_,fun g hg=>?_⟩
 ·have:=Hs f y fs;lia
 ·show j4 ((fZ f y fs).lookup g) (if g=f then some u else mA g)
  rw [Hr];by_cases q:g=f;·rw [ar q,ar q];exact ry
  ·rw [ao q,ao q];exact r g
 ·by_cases q:g=f
  ·rw [q];exact (CF f y fs).1
  ·refine (CF f y fs).2 g (wi g fun z=>hg ?_)
   show (if g=f then some u else mA g)=none
   rw [ao q];exact z
theorem Inv.made(I:Inv X pins σ H s):Inv X pins σ (upd (upd H s.heap.objs.size (.own (s.heap.objs.size+1))) (s.heap.objs.size+1) (.ins C s.heap.objs.size []))
  {s with heap:=(s.heap.push PySem.W.emptyDict).push (PySem.W.instObj C s.heap.objs.size)}:=by
 have e1:(s.heap.push PySem.W.emptyDict).get? s.heap.objs.size=some PySem.W.emptyDict:=gP s.heap rfl;have e2:((s.heap.push PySem.W.emptyDict).push (PySem.W.instObj C s.heap.objs.size)).get? (s.heap.objs.size+1)=some (PySem.W.instObj C s.heap.objs.size):=by
  have:=gP (s.heap.push PySem.W.emptyDict) (o:=PySem.W.instObj C s.heap.objs.size) rfl
  rwa [Heap.size_push] at this
 have e3:(s.heap.push PySem.W.emptyDict).Ns s.heap.objs.size (fun _=>none):=⟨PySem.W.emptyDict,#[],_,e1,rfl,(fun e he=>absurd he (by simp)),fun _=>rfl⟩
 have I1:=I.laid (a:=s.heap.objs.size) (o:=.own (s.heap.objs.size+1)) (h':=s.heap.push PySem.W.emptyDict) (t':=s.toks) (fun b u q=>dD _ q) (aN _) ⟨_,e1⟩;refine I1.laid (a:=s.heap.objs.size+1) (o:=.ins C s.heap.objs.size []) (t':=s.toks) (fun b u q=>dD _ q) (iP (Heap.size_push _ _)) ?_;have ne:s.heap.objs.size≠s.heap.objs.size+1:=ej (Nat.lt_succ_self _);refine ⟨by rw [b7 ne,av],b9 _,ne,e2,fun _=>none,(Heap.Ns1.of_empty e3).at fun o q=>dD _ q,fun _=>True.intro,fun y hy=>absurd rfl hy⟩
theorem OC{prog:Program}{env:Env}{e:Expr}{pos:Pos}(hb:attributeBase e f env (eval e env)=eval e env)
  (h:wpAny (model prog w) A (eval e env) (fun o s₁=>wpAny (model prog w) A (getAttr o f true) Q E s₁) E s):wpAny (model prog w) A (eval (.Attribute e f pos) env) Q E s:=
 Attribute_any_ h (by rw [arm_eval_Attribute,hb])
end
def Hu(K:aE)(ta:TE)(f:Str):TE:=fun σ H Q=>ta σ H fun x H1=>∃a C dx fs v,x=.ref a∧H1 a=some (.ins C dx fs)∧jx K C∧oV K C f∧fs.lookup f=some v∧Q v H1
def OD(K:aE)(ta tv:TE)(f:Str):TS:=fun D σ H=>tv σ H fun y H1=>ta σ H1 fun x H2=>∃a C dx fs,x=.ref a∧H2 a=some (.ins C dx fs)∧jx K C∧oV K C f∧fs.length<1000 ∧
 D.nx σ (upd H2 a (.ins C dx (fZ f y fs)))
section
variable {X:Cx} {o e value:Expr} {f:Str} {pos pos' rT:Pos} {ta tv:TE}
theorem oW(he:PE X e ta)(hb:attributeBase e f X.env (eval e X.env)=eval e X.env):PE X (.Attribute e f pos) (Hu X.K ta f):=by intro pins s σ H Q I h;refine OC hb (aG (he pins s σ H _ I h) fun u s1 ⟨x,H1,I1,rx,a,C,dx,fs,v,ex,ea,c,n,l,q⟩=>?_);subst ex;obtain rfl:u=Value.ref a:=rx;exact OA I1 ea c n l fun u' s2 I2 ru=>⟨v,H1,I2,ru,q⟩
theorem Hv(ha:PE X o ta)(hv:PE X value tv)(hs:swapsWith value (some (.Attribute o f pos')) pos.line X.env=pure false):PS X (.Assign [.Attribute o f pos'] value pos) (OD X.K ta tv f):=by intro pins s σ H D I h;refine plainObj_wpAny_Assign_Attribute (aG (hv pins s σ H _ I h) fun u s1 ⟨y,H1,I1,ry,q⟩=>aG (ha pins s1 σ H1 _ I1 q) fun ov s2 ⟨x,H2,I2,rx,a,C,dx,fs,ex,ea,c,n,l,q2⟩=>?_) hs;subst ex;obtain rfl:ov=Value.ref a:=rx;exact OB I2 ea c n l ry fun s3 I3=>⟨σ,_,I3,q2⟩
theorem abv{pl:Sem Bool}{m:Str}{apos:Pos}{args:List Expr}{pins:aY}{Q:b_}{te:TE}(he:PE X e te)(I:Inv X pins σ H s)
  (h:te σ H fun x H1=>∃a C dx fs g,x=.ref a∧H1 a=some (.ins C dx fs)∧jx X.K C∧Meth X.K C m g∧fs.lookup m=none ∧
   ∀s1,Inv X pins σ H1 s1→wpAny (model X.prog X.w) X.A (callWith pos (.ref g) [.ref a] (backTo pos (starEach args X.env)) (backToKw pos (keywordEach [] X.env))) Q X.xe s1)
  (ht:eval (.Call (.Attribute e m apos) args [] pos) X.env=(do
   let ov ←eval e X.env
   standAt apos.atName
   let (f,first) ←holding [ov] (getMethod ov m pl)
   callWith pos f first (backTo pos (starEach args X.env)) (backToKw pos (keywordEach [] X.env)))) :
  wpAny (model X.prog X.w) X.A (eval (.Call (.Attribute e m apos) args [] pos) X.env) Q X.xe s:=by
 refine PySem.W.methodCall_KW (pl:=pl) (aG (he pins s σ H _ I h) fun u s1 ⟨x,H1,I1,rx,a,C,dx,fs,g,ex,ea,c,k,l,q⟩=>?_) ht
 subst ex
 obtain rfl:u=Value.ref a:=rx
 exact Ht I1 ea c k l (q s1 I1)
end
section
variable {X:Cx} {pins:aY} {σ:St} {H:Hp} {s:Shared} {A:Around} {E:b_} {Q:b_} {c:Value} {b:Bool}
inductive iu (K:aE) (H:Hp):V→Value→Prop where
 | aV:iu K H .aV (.type "NoneType")
 | bl (x:Bool):iu K H (.bl x) (.type "bool")
 | int (i:Int):iu K H (.int i) (.type "int")
 | str (x:Str):iu K H (.str x) (.type "str")
 | oE (x:UInt64):iu K H (.oE x) (.type "float")
 | lst {a:Addr} {xs:List V} (e:H a=some (.lst xs)):iu K H (.ref a) (.type "list")
 | fX {a:Addr} {o:Obj} {xs:List V} (e:H a=some (.fX o (.lst xs))):iu K H (.ref a) (.type "list")
 | tup {a:Addr} {xs:List V} (e:H a=some (.tup xs)):iu K H (.ref a) (.type "tuple")
 | dK {a:Addr} {dF:List (Key×V)} (e:H a=some (.dK dF)):iu K H (.ref a) (.type "dict")
 | dT {a:Addr} {dF:List (List Key×V)} (e:H a=some (.dT dF)):iu K H (.ref a) (.type "dict")
 | ins {a C dx:Addr} {fs:List (Str×V)} (e:H a=some (.ins C dx fs)) (cl:jx K C) (ha:PySem.W.findIn K (.ref C) "__class__"=some (some (.builtin "object.__class__")))
   (hn:PySem.W.specialIn K (.builtin "object.__class__") "__get__"=some (some (.builtin "getset_descriptor.__get__"))) (Hz:PySem.W.takesIn K (.builtin "object.__class__")=some true)
   (hm:PySem.W.mroIn K C (.type "object")=some true):iu K H (.ref a) (.ref C)
theorem OE{u t:Value}(I:Inv X pins σ H s)(rx:RelV x u)(ty:iu X.K H x t)(e:PySem.W.kitOne X.K t c=some b)(h:∀tk,Q (.bool b) {s with toks:=tk}) :
  wpAny (model X.prog X.w) A (call (.builtin "isinstance") [u,c]) Q E s:=by
 cases ty with
 | aV=>cases (show u=Value.none from rx);exact ia PySem.W.kitx_none I.dy True.intro e (fun z=>nomatch z) h
 | bl y=>cases (show u=Value.bool y from rx);exact ia PySem.W.kitx_bool I.dy True.intro e (fun z=>nomatch z) h
 | int i=>obtain ⟨t,q⟩:=(show ∃t,u=Value.int i t from rx);cases q;exact ia PySem.W.kitx_int I.dy True.intro e (fun z=>nomatch z) h
 | str y=>obtain ⟨t,q⟩:=(show ∃t,u=Value.str y t from rx);cases q;exact ia PySem.W.kitx_str I.dy True.intro e (fun z=>nomatch z) h
 | oE y=>obtain ⟨t,q⟩:=(show ∃t,u=Value.float y t from rx);cases q;exact ia PySem.W.kitx_float I.dy True.intro e (fun z=>nomatch z) h
 | @lst a xs ea=>cases (show u=Value.ref a from rx);obtain ⟨_,_,n,_,h1⟩:=(show d6 X.prog X.w H s.heap a (.lst xs) from I.aF a _ ea);exact ia PySem.W.kitx_list I.dy ⟨_,h1,rfl⟩ e (fun z=>nomatch z) h
 | @fX a ob xs ea=>cases (show u=Value.ref a from rx);obtain ⟨_,_,_,n,_,h1⟩:=(show d6 X.prog X.w H s.heap a (.fX ob (.lst xs)) from I.aF a _ ea);exact ia PySem.W.kitx_list I.dy ⟨_,h1,rfl⟩ e (fun z=>nomatch z) h
 | @tup a xs ea=>cases (show u=Value.ref a from rx);obtain ⟨_,_,_,p⟩:=(show d6 X.prog X.w H s.heap a (.tup xs) from I.aF a _ ea);obtain ⟨o,h1,h2,_⟩:=p;exact ia PySem.W.kitx_tuple I.dy ⟨o,h1,h2⟩ e (fun z=>nomatch z) h
 | @dK a dF ea=>cases (show u=Value.ref a from rx);obtain ⟨_,_,vs,_,p⟩:=(show d6 X.prog X.w H s.heap a (.dK dF) from I.aF a _ ea);obtain ⟨o,es,ep,h1,h2,_⟩:=p;exact ia PySem.W.kitx_dict I.dy ⟨o,h1,h2.1⟩ e (fun z=>nomatch z) h
 | @dT a dF ea=>cases (show u=Value.ref a from rx);obtain ⟨_,_,xs,_,o,es,ep,h1,h2,_⟩:=(show d6 X.prog X.w H s.heap a (.dT dF) from I.aF a _ ea);exact ia PySem.W.kitx_dict I.dy ⟨o,h1,h2.1⟩ e (fun z=>nomatch z) h
 | @ins a C dx fs ea cl ha hn Hz hm=>cases (show u=Value.ref a from rx);obtain ⟨mA,O,_⟩:=yQ I.aF ea;obtain ⟨od,J,_⟩:=O.look;exact ia (PySem.W.kitx_own (cl.get _) cl.hd ha hn Hz hm) I.dy J e (fun z=>nomatch z) h
end
structure cV (k:Nat) (A:Around):Prop where
 hd:A.handled=none
 dp:A.depth+3*k+5<recursionLimit
 un:A.units+16*k+200<cLine
variable {k:Nat}
theorem cV.mono{j:Nat}(r:cV k A)(h:j≤k):cV j A:=⟨r.hd,by have:=r.dp;lia,by have:=r.un;lia⟩
theorem cV.deeper(r:cV (k+1) A)(env:Env):cV k (A.deeper env):=
 ⟨r.hd,by have:=r.dp;show A.depth+1+3*k+5<_;lia,by have:=r.un;show A.units+3+16*k+200<_;lia⟩
variable {kw:List (Str×Value)}
theorem OF:(A.under (.builtin "type.__call__" ⟨.ref C::us,kw⟩)).depth=A.depth+1:=by first | rfl | simp [Around.under,Code.weight,Code.isCreation,Code.isGuard,Code.isCaller,Code.frames,Code.isFrame,guardIds]
theorem OG:(A.under (.builtin "type.__call__" ⟨.ref C::us,kw⟩)).units=A.units+1:=by first | rfl | simp [Around.under,Code.cUnits,Code.frames,Code.isFrame]
theorem cV.make(r:cV (k+1) A)(C:Addr)(us:List Value)(kw:List (Str×Value)):cV k (A.under (.builtin "type.__call__" ⟨.ref C::us,kw⟩)):=
 ⟨r.hd,by have:=r.dp;rw [OF];lia,by have:=r.un;rw [OG];lia⟩
theorem cV.depth(r:cV k A):A.depth<recursionLimit:=by have:=r.dp;lia
theorem cV.units(r:cV k A):A.units+64<cLine:=by have:=r.un;lia
theorem cV.wc(r:cV k A):A.units<cLine:=by have:=r.un;lia
def ft:TA:=fun _ H Q=>Q [] H
def cW(ta:TE)(tr:TA):TA:=fun σ H Q=>ta σ H fun x H1=>tr σ H1 fun xs H2=>Q (x::xs) H2
section
variable {X:Cx} {e:Expr} {es:List Expr} {te:TE} {t:TA} {pos:Pos}
theorem af:PA X [] ft:=fun _ _ _ _ H Q I h=>Calls.spliced_nil ⟨[],H,I,.nil,h⟩
theorem OH(ha:PE X e te)(hr:PA X es t)(hs:starEach (e::es) X.env=(false,eval e X.env)::starEach es X.env:=by rfl):PA X (e::es) (cW te t):=by intro pos pins s σ H Q I h;rw [hs];show wpAny _ _ (spliced ((false,eval e X.env)::backTo pos (starEach es X.env))) _ _ s;refine Calls.spliced_cons (aG (ha pins s σ H _ I h) fun u s1 ⟨x,H1,I1,r1,q1⟩=>?_);exact aG (hr pos pins s1 σ H1 _ I1 q1) fun us s2 ⟨xs,H2,I2,r2,q2⟩=>⟨x::xs,H2,I2,.cons r1 r2,q2⟩
def HA(t:TA):TE:=fun σ H Q=>t σ H fun xs H1=>xs.length≤sizeLine∧∀p,H1 p=none→Q (.ref p) (upd H1 p (.tup xs))
def oX(t:TA):TE:=fun σ H Q=>t σ H fun xs H1=>xs.length≤sizeLine∧∀p,H1 p=none→Q (.ref p) (upd H1 p (.lst xs))
theorem fA{x1}(h:PA X es t):PE X (.Tuple es x1 pos) (HA t):=by
 intro pins s σ H Q I hq;refine wpAny_Tuple_spliced (aG (h pos pins s σ H _ I hq) fun us s1 ⟨xs,H1,I1,r,z,q⟩=>⟨by rw [←r.length];exact z,?_⟩)
 have hf:H1 s1.heap.objs.size=none:=I1.aF.fresh (aN _);refine ⟨.ref s1.heap.objs.size,upd H1 s1.heap.objs.size (.tup xs),I1.laid (t':=s1.toks) (fun b u e=>dD _ e) (aN _) ?_,rfl,q _ hf⟩;exact ⟨z,us,r,⟨_,gP _ rfl,rfl,_,rfl⟩⟩
theorem cw(h:PA X es t):PE X (.List es pos) (oX t):=by
 intro pins s σ H Q I hq;refine wpAny_List_spliced (aG (h pos pins s σ H _ I hq) fun us s1 ⟨xs,H1,I1,r,z,q⟩=>⟨by rw [←r.length];exact z,?_⟩)
 have hf:H1 s1.heap.objs.size=none:=I1.aF.fresh (aN _);refine ⟨.ref s1.heap.objs.size,upd H1 s1.heap.objs.size (.lst xs),I1.laid (t':=s1.toks) (fun b u e=>dD _ e) (aN _) ?_,rfl,q _ hf⟩;exact ⟨z,us,0,r,gP _ rfl⟩
end
abbrev Sp:=List V→Hp→VK→XK→Prop
abbrev iw:=List Env→Hp→Shared→XK→Value→Shared→Prop
structure oY (P:Program) (w:World) (K:aE) (mg:dj) (base:Heap) (A:Around) (outer:List Env) (s:Shared) (H:Hp):Prop where
 frames:A.frames=some outer
 mod:Mod K mg base
 bs:∀b o,base.get? b=some o→s.heap.get? b=some o∧H b=none
 ip:base.objs.size≤s.heap.objs.size
 iV:s.heap.FunFrames base outer
 kZ:∀b∈cJ outer,H b=none
 aF:cL P w H s.heap
 bare:AllBare s.gens
def CE(outer:List Env)(P:Program)(w:World)(H:Hp)(s:Shared)(Q:VK)(u:Value)(s':Shared):Prop:=
 ∃v H',s'.os=s.os∧AllBare s'.gens∧Un (cJ outer) [] H H' s.heap s'.heap∧cL P w H' s'.heap∧RelV v u∧Q v H'
def CR(CX:iw)(outer:List Env)(P:Program)(w:World)(H:Hp)(s:Shared)(Q:VK)(E:XK)(r:Result)(s':Shared):Prop:=
 match r with
 | .ok (.ret u)=>CE outer P w H s Q u s'
 | .ok _=>False
 | .error e=>CX outer H s E e s'
structure aW (P:Program) (w:World) (K:aE) (mg:dj) (base:Heap) (CX:iw) (k:Nat) (f:Addr) (fd:FuncData) (ps:List Str) (sp:Sp):Prop where
 len:∀vs H Q E,sp vs H Q E→vs.length=ps.length
 run:∀(A:Around) (outer:List Env) (s:Shared) (H:Hp) (args:Args) (us:List Value) (vs:List V) (Q:VK) (E:XK),cV k A→oY P w K mg base A outer s H→BindsTo s fd args (ps.zip us)→Vals vs us→sp vs H Q E→
  codeAny (model P w) A (.call (.ref f) args) (CR CX outer P w H s Q E) s
variable {mg:dj} {base:Heap} {outer:List Env}
theorem oY.make(e:oY P w K mg base A outer s H)(C:Addr)(us:List Value)(kw:List (Str×Value)) :
  oY P w K mg base (A.under (.builtin "type.__call__" ⟨.ref C::us,kw⟩)) outer s H:=⟨by first | exact e.frames | (simpa [Around.under,Code.envs,Code.isFrame,pushEnvs] using e.frames),e.mod,e.bs,e.ip,e.iV,e.kZ,e.aF,e.bare⟩
section
variable {X:Cx} {pins:aY} {σ:St} {H:Hp} {s s':Shared}
theorem Inv.HB(I:Inv X pins σ H s):oY X.prog X.w X.K X.mg X.base X.A X.stack s H:=
 ⟨I.ok.frames,I.ok.mod,I.bs,ae I.ok.ip I.sz,I.stack,I.vS,I.aF,I.bare⟩
theorem Inv.after{Q:VK}{u:Value}(I:Inv X pins σ H s)(h:CE X.stack X.prog X.w H s Q u s'):EP X pins σ Q u s':=by obtain ⟨v,H',os,bare,un,aF,r,q⟩:=h;obtain ⟨hh,g,d,t,OI⟩:=s';obtain rfl:OI=s.os:=os;exact ⟨v,H',I.call (h':=hh) (g':=g) (d':=d) (t':=t) (ch:=[]) un aF bare (fun b z=>absurd z (by simp)),r,q⟩
end
def oZ(sp:Sp)(eK:List V)(E:XK)(t:TA):TE:=fun σ H Q=>t σ H fun vs H1=>sp (vs++eK) H1 Q E
def OJ(C:Addr)(m:Str)(sp:Sp)(eK:List V)(E:XK)(ta:TE)(t:TA):TE:=fun σ H Q=>ta σ H fun x H1=>∃a dx fs,x=.ref a∧H1 a=some (.ins C dx fs)∧fs.lookup m=none ∧
 t σ H1 fun vs H2=>sp (x::(vs++eK)) H2 Q E
def OK(C:Addr)(sp:Sp)(eK:List V)(E:XK)(t:TA):TE:=fun σ H Q=>t σ H fun vs H1=>∀x dx,H1 x=none→H1 dx=none→dx≠x→
 sp (.ref x::(vs++eK)) (upd (upd H1 dx (.own x)) x (.ins C dx [])) (fun v H2=>v=.aV∧Q (.ref x) H2) E
def Binds(K:aE)(fd:FuncData)(ps:List Str)(ds:List Value):Prop:=
 ∀(s:Shared) (us:List Value),K.In s.heap→(us++ds).length=ps.length→BindsTo s fd ⟨us,[]⟩ (ps.zip (us++ds))
variable {ps:List Str}
theorem Binds.all{fd:FuncData}(h:∀us:List Value,us.length=ps.length→bindArgs fd ⟨us,[]⟩=pure (ps.zip us)):Binds K fd ps []:=fun s us _ hl=>by rw [ot] at hl ⊢;exact .of_eq (h us hl)
def Passes(CX:iw)(X:Cx)(E:XK):Prop:=∀(pins:aY) (σ:St) (H:Hp) (s:Shared) (e:Value) (s':Shared),Inv X pins σ H s→CX X.stack H s E e s'→X.xe e s'
section
variable {X:Cx} {CX:iw} {k:Nat} {f C:Addr} {fd:FuncData} {ps:List Str} {sp:Sp} {eK:List V} {ds:List Value} {E:XK} {x m:Str} {p pos apos:Pos} {e o:Expr} {es:List Expr} {ta:TE} {t:TA}
variable {pins:aY} {Q:VK}
theorem HC{vs:List V}(F:aW X.prog X.w X.K X.mg X.base CX k f fd ps sp)(hr:cV k X.A)(hb:Binds X.K fd ps ds)(hd:Vals eK ds)(hx:Passes CX X E)
  (I:Inv X pins σ H s) (r:Vals vs us) (h:sp (vs++eK) H Q E):wpAny (model X.prog X.w) X.A (call (.ref f) us) (EP X pins σ Q) X.xe s:=by
 have r2:Vals (vs++eK) (us++ds):=r.append hd;have hl:(us++ds).length=ps.length:=by rw [←r2.length];exact F.len _ _ _ _ h
 refine wpAny_call (codeAny_mono (F.run X.A X.stack s H ⟨us,[]⟩ (us++ds) (vs++eK) Q E hr I.HB (hb s us I.dy hl) r2 h) fun r s' hq=>?_);cases r with
 | error e=>exact hx pins σ H s e s' I hq
 | ok fl=>
  cases fl with
  | ret u=>exact I.after hq
  | next=>exact False.elim hq
  | brk=>exact False.elim hq
  | cont=>exact False.elim hq
theorem f9(F:aW X.prog X.w X.K X.mg X.base CX k f fd ps sp)(hr:cV k X.A)(hg:Gl X x)(hm:X.mg x=some (.ref f))(hk:PySem.W.keepIn X.K (.ref f)=true)(hb:Binds X.K fd ps ds)(hd:Vals eK ds)(hx:Passes CX X E)
  (ha:PA X (e::es) t) (k8:(x == ("__debug__":Str))=false:=by decide) (he:starEach (e::es) X.env=(false,eval e X.env)::starEach es X.env:=by rfl) (gT:(backTo pos (starEach es X.env)).any (·.1)=false:=by rfl) :
  PE X (.Call (.Name x p) (e::es) [] pos) (oZ sp eK E t):=by
 intro pins s σ H Q I h;refine ym (yC I hg hm ?_ k8);refine PySem.W.callWith_K (h₀:=X.base) I.ok.mod.cT hk (aG (ha pos pins s σ H _ I h) fun us s1 ⟨vs,H1,I1,r,q⟩=>⟨I1.dy,?_⟩) he gT;exact HC F hr hb hd hx I1 r q
theorem aC{j:Nat}(F:aW X.prog X.w X.K X.mg X.base CX k f fd ps sp)(hr:cV j X.A)(hm:X.mg x=some (.ref f))(hk:PySem.W.keepIn X.K (.ref f)=true)(hb:Binds X.K fd ps [])(hx:Passes CX X E)
  (ha:PA X (e::es) t) (hj:k≤j:=by decide) (hg:Gl X x:=by exact rfl) (k8:(x == ("__debug__":Str))=false:=by decide) (he:starEach (e::es) X.env=(false,eval e X.env)::starEach es X.env:=by rfl) (gT:(backTo pos (starEach es X.env)).any (·.1)=false:=by rfl) :
  PE X (.Call (.Name x p) (e::es) [] pos) (oZ sp [] E t):=f9 F (hr.mono hj) hg hm hk hb .nil hx ha k8 he gT
theorem fB{pl:Sem Bool}(he:PE X o ta)(c:jx X.K C)(hm:Meth X.K C m f)(F:aW X.prog X.w X.K X.mg X.base CX k f fd ps sp)(hr:cV k X.A)(hb:Binds X.K fd ps ds)(hd:Vals eK ds)(hx:Passes CX X E)(ha:PA X (e::es) t)
  (Cs:starEach (e::es) X.env=(false,eval e X.env)::starEach es X.env:=by rfl) (gT:(backTo pos (starEach es X.env)).any (·.1)=false:=by rfl)
  (ht:eval (.Call (.Attribute o m apos) (e::es) [] pos) X.env=(do
   let ov ←eval o X.env
   standAt apos.atName
   let (f,first) ←holding [ov] (getMethod ov m pl)
   callWith pos f first (backTo pos (starEach (e::es) X.env)) (backToKw pos (keywordEach [] X.env))):=by rfl) :
  PE X (.Call (.Attribute o m apos) (e::es) [] pos) (OJ C m sp eK E ta t):=by
 intro pins s σ H Q I h
 refine PySem.W.methodCall_KW (pl:=pl) (aG (he pins s σ H _ I h) fun u s1 ⟨x,H1,I1,rx,a,dx,fs,ex,ea,l,q⟩=>?_) ht
 subst ex
 obtain rfl:u=Value.ref a:=rx
 refine Ht I1 ea c hm l ?_
 refine PySem.W.callWith_K (first:=[.ref a]) (h₀:=X.base) I.ok.mod.cT hm.kp (aG (ha pos pins s1 σ H1 _ I1 q) fun us s2 ⟨vs,H2,I2,r,q2⟩=>⟨I2.dy,?_⟩) Cs gT
 exact HC (us:=.ref a::us) (vs:=.ref a::vs) F hr hb hd hx I2 (.cons rfl r) q2
structure Mk (K:aE) (C f:Addr):Prop where
 makes:PySem.W.makesIn K C=true
 init:PySem.W.findIn K (.ref C) "__init__"=some (some (.ref f))
 fn:PySem.W.isFn K (.ref f)=true
 kp:PySem.W.keepIn K (.ref C)=true
theorem OL{vs:List V}(M:Mk X.K C f)(F:aW X.prog X.w X.K X.mg X.base CX k f fd ps sp)(hr:cV (k+1) X.A)(hb:Binds X.K fd ps ds)(hd:Vals eK ds)
  (hx:Passes CX X E) (I:Inv X pins σ H s) (r:Vals vs us)
  (h:∀x dx,H x=none→H dx=none→dx≠x→sp (.ref x::(vs++eK)) (upd (upd H dx (.own x)) x (.ins C dx [])) (fun v H2=>v=.aV∧Q (.ref x) H2) E) :
  wpAny (model X.prog X.w) X.A (call (.ref C) us) (EP X pins σ Q) X.xe s:=by
 have hq:=h (s.heap.objs.size+1) s.heap.objs.size (I.aF.fresh (Nat.le_succ _)) (I.aF.fresh (aN _)) (ej (Nat.lt_succ_self _));have I2:=Inv.made (C:=C) I;have r2:Vals (V.ref (s.heap.objs.size+1)::(vs++eK)) (Value.ref (s.heap.objs.size+1)::(us++ds)):=.cons rfl (r.append hd);have hl:(Value.ref (s.heap.objs.size+1)::us++ds).length=ps.length:=by have e:=r2.length;rw [F.len _ _ _ _ hq] at e;exact e.symm
 refine wpAny_call (Ox (f:=f) I.dy M.makes M.init (jT.mp M.fn) (codeAny_mono (F.run _ X.stack _ _ ⟨Value.ref (s.heap.objs.size+1)::us,[]⟩ (Value.ref (s.heap.objs.size+1)::(us++ds)) _ _ E (hr.make C us [])
  (I2.HB.make C us []) (hb _ (Value.ref (s.heap.objs.size+1)::us) I2.dy hl) r2 hq) fun r s' o4=>?_))
 cases r with
 | error e=>exact hx pins σ _ _ e s' I2 o4
 | ok fl=>
  cases fl with
  | ret u=>obtain ⟨v,H',I3,rv,ev,q3⟩:=I2.after o4;subst ev;exact ⟨rv,⟨V.ref (s.heap.objs.size+1),H',I3,rfl,q3⟩⟩
  | next=>exact False.elim o4
  | brk=>exact False.elim o4
  | cont=>exact False.elim o4
theorem OM(M:Mk X.K C f)(F:aW X.prog X.w X.K X.mg X.base CX k f fd ps sp)(hr:cV (k+1) X.A)(hg:Gl X x)(hm:X.mg x=some (.ref C))(hb:Binds X.K fd ps ds)(hd:Vals eK ds)(hx:Passes CX X E)
  (ha:PA X (e::es) t) (k8:(x == ("__debug__":Str))=false:=by decide) (he:starEach (e::es) X.env=(false,eval e X.env)::starEach es X.env:=by rfl) (gT:(backTo pos (starEach es X.env)).any (·.1)=false:=by rfl) :
  PE X (.Call (.Name x p) (e::es) [] pos) (OK C sp eK E t):=by
 intro pins s σ H Q I h;refine ym (yC I hg hm ?_ k8);refine PySem.W.callWith_K (h₀:=X.base) I.ok.mod.cT M.kp (aG (ha pos pins s σ H _ I h) fun us s1 ⟨vs,H1,I1,r,q⟩=>⟨I1.dy,?_⟩) he gT;exact OL M F hr hb hd hx I1 r q
end
section
variable {X:Cx} {CX:iw} {k:Nat} {f C:Addr} {fd:FuncData} {ps ks:List Str} {sp:Sp} {E:XK} {x m:Str} {p pos apos ON:Pos} {e o:Expr} {es:List Expr} {kws:List Keyword} {te ta:TE} {t tk:TA} {nm:Option Str}
variable {g:List Value→List Value→List Value} {gV:List V→List V→List V}
end
structure bo (N P:List Str) (sc:Scope):Prop where
 kind:sc.kind=.function
 co:sc.isCoroutine=false
 gen:sc.isGenerator=false
 nd:N.Nodup
 pre:N.take P.length=P
 par:∀x∈P,sc.names.lookup x=some .local∨sc.names.lookup x=some .cell
 OO:∀y∈sc.names,y.2≠.free
variable {N:List Str} {sc:Scope}
theorem bI{P:List Str}(h1:sc.kind=.function:=by rfl)(h2:sc.isCoroutine=false:=by rfl)(h3:sc.isGenerator=false:=by rfl)(h4:N.Nodup:=by decide +kernel)(h5:N.take P.length=P:=by rfl)(h6:∀x∈P,sc.names.lookup x=some .local∨sc.names.lookup x=some .cell:=by decide +kernel)(h7:∀y∈sc.names,y.2≠.free:=by decide +kernel):bo N P sc:=⟨h1,h2,h3,h4,h5,h6,h7⟩
theorem HD{kindOf:Str→Option NameKind}{x:Str}:∀{binds:List (Str×Value)} {m:dj},(∀v,(x,v)∉binds)→bindL kindOf binds m x=m x
 | [],_,_=>rfl
 | (n,v)::r,m,h=>by
  unfold bindL;rw [HD fun w hw=>h w (gO _ hw)]
  split
  ·have:x≠n:=by rintro rfl;exact h v kL
   simp [this]
  ·rfl
theorem HE{kindOf:Str→Option NameKind}{x:Str}:∀{binds:List (Str×Value)} {m:dj},(∀v,(x,v)∉binds)→bindC kindOf binds m x=m x
 | [],_,_=>rfl
 | (n,v)::r,m,h=>by
  unfold bindC;rw [HE fun w hw=>h w (gO _ hw)]
  split
  ·rfl
  ·have:x≠n:=by rintro rfl;exact h v kL
   simp [this]
theorem HF{kindOf:Str→Option NameKind}{x:Str}{v:Value}:∀{P:List Str} {vs:List Value} {i:Nat} {m:dj},P.Nodup→P[i]?=some x→vs[i]?=some v→kindOf x=some .local→
  bindL kindOf (P.zip vs) m x=some v
 | [],_,_,_,_,h,_,_=>by simp at h
 | _::_,[],_,_,_,_,h,_=>by simp at h
 | p::P,w::vs,0,m,nd,h1,h2,hk=>by simp at h1 h2;subst h1;subst h2;show bindL kindOf ((p,w)::P.zip vs) m p=_;unfold bindL;rw [HD fun v hv=>(yn.mp nd).1 (rC hv).1,ar hk];simp
 | p::P,w::vs,i+1,m,nd,h1,h2,hk=>by show bindL kindOf ((p,w)::P.zip vs) m x=_;unfold bindL;exact HF (i:=i) (yn.mp nd).2 (by simpa using h1) (by simpa using h2) hk
theorem HG{kindOf:Str→Option NameKind}{x:Str}{v:Value}:∀{P:List Str} {vs:List Value} {i:Nat} {m:dj},P.Nodup→P[i]?=some x→vs[i]?=some v→kindOf x≠some .local→
  bindC kindOf (P.zip vs) m x=some v
 | [],_,_,_,_,h,_,_=>by simp at h
 | _::_,[],_,_,_,_,h,_=>by simp at h
 | p::P,w::vs,0,m,nd,h1,h2,hk=>by simp at h1 h2;subst h1;subst h2;show bindC kindOf ((p,w)::P.zip vs) m p=_;unfold bindC;rw [HE fun v hv=>(yn.mp nd).1 (rC hv).1,ao hk];simp
 | p::P,w::vs,i+1,m,nd,h1,h2,hk=>by show bindC kindOf ((p,w)::P.zip vs) m x=_;unfold bindC;exact HG (i:=i) (yn.mp nd).2 (by simpa using h1) (by simpa using h2) hk
def start(N:List Str)(vs:List V):St:=vs.map some++List.replicate (N.length-vs.length) none
def ix(CX:iw)(P:Program)(w:World)(K:aE)(mg:dj)(base:Heap)(N:List Str)(qual:Str)(scope:Scope)(f:Addr)(cd:Value)(A:Around)(outer:List Env)(s:Shared)(H:Hp)(E:XK):Cx where
 prog:=P
 w:=w
 K:=K
 mg:=mg
 base:=base
 A:=A.deeper (envOfC qual scope s.heap.objs.size f cd)
 N:=N
 s₀:=s
 H₀:=H
 env:=envOfC qual scope s.heap.objs.size f cd
 outer:=outer
 stack:=envOfC qual scope s.heap.objs.size f cd::outer
 ex:=[]
 calm:=true
 fn:=fun _=>true
 pn:=[]
 xe:=fun e s'=>wpAny (model P w) (A.deeper (envOfC qual scope s.heap.objs.size f cd)) (leaving (envOfC qual scope s.heap.objs.size f cd) e) (fun _ fC=>CX outer H s E e fC) (fun e' fC=>CX outer H s E e' fC) s'
theorem HH{x:Str}(h:sc.names.lookup x=some .cell):∃c,(cellsFrom n sc.names []).lookup x=some c:=by have q:=PySem.W.cellsFrom_some sc.names n [] (.inl h);exact Option.isSome_iff_exists.mp q
variable {CX:iw} {qual:Str} {scope:Scope} {f:Addr}
theorem OP{cd:Value}{s1:Shared}{E:XK}{vs:List V}
  (S:bo N ps scope) (hd:A.handled=none) (e0:oY P w K mg base A outer s H) (hl:vs.length=ps.length) (r:Vals vs us)
  (x:InCallC s s.heap.objs.size (bindL (envOfC qual scope s.heap.objs.size f cd).kindOf (ps.zip us) fun _=>none) (cellsFrom (s.heap.objs.size+1) scope.names []) (bindC (envOfC qual scope s.heap.objs.size f cd).kindOf (ps.zip us) fun _=>none) s1) :
  Inv (ix CX P w K mg base N qual scope f cd A outer s H E) [] (start N vs) H s1:=by
 have gT:ps.length≤N.length:=by have:=fN List.length S.pre;rw [l_] at this;lia
 obtain ⟨h1,tk,rfl,hk⟩:=x.done;have wd:∀b:Addr,b∉(ix CX P w K mg base N qual scope f cd A outer s H E).ex:=fun b z=>absurd (show b∈([]:List Addr) from z) (by simp)
 refine ⟨⟨e0.mod,S.kind,rfl,rfl,aN _,fun y z c h1 h2=>?_,fun y hy=>?_,fun y c _ h=>?_,fun _=>hd,Around.frames_deeper e0.frames,.inr ⟨rfl,rfl⟩,fun b z=>absurd z (wd b),e0.bs,e0.ip,fun b _ _=>wd b,fun b z=>absurd z (wd b),e0.iV,e0.kZ⟩,
  rfl,e0.bare,Un.kept hk,⟨_,x.toInCall.ns,fun i y v h1 h2 h3=>?_⟩,fun y c h=>⟨_,x.cell y c h⟩,e0.aF.fresh (aN _),fun y c h=>?_,fun p hp=>absurd (show p∈([]:aY) from hp) (by simp),e0.aF.kept hk,?_⟩
 ·exact name_of_addr x.apart (kO h1) (kO h2)
 ·have hy:scope.names.lookup y=some .cell∨scope.names.lookup y=some .free:=hy
  rcases hy with hy | hy;·exact HH hy
  ·exact absurd rfl (S.OO _ (kO hy))
 ·exact Nat.le_of_lt (x.above y c (kO h))
 ·have hi:i<vs.length:=by
   unfold start at h2;by_cases hi:i<vs.length;·exact hi
   ·rw [gQ (by simpa using hi)] at h2
    rw [kP] at h2
    split at h2 <;> cases h2
  have ha:vs[i]?=some v:=by
   unfold start at h2;rw [ib (by simpa using hi),fP] at h2
   cases e:vs[i]? with
   | none=>rw [e] at h2;cases h2
   | some a=>rw [e] at h2;cases h2;rfl
  obtain ⟨u,hu,rv⟩:=r.get ha;have hp:ps[i]?=some y:=by rw [←S.pre,B0 (by lia)];exact h1
  have HI:ps.Nodup:=by rw [←S.pre];exact S.nd.sublist (List.take_sublist _ _)
  refine ⟨u,rv,?_⟩;rcases S.par y (List.mem_of_getElem? hp) with k | k;·exact .inl ⟨k,HF HI hp hu k⟩
  ·obtain ⟨c,e⟩:=HH (n:=s.heap.objs.size+1) k
   refine .inr ⟨.inl k,c,e,?_⟩;have q:=x.cell y c e;rw [HG HI hp hu (by show scope.names.lookup y≠_;rw [k];decide)] at q
   exact q
 ·exact e0.aF.fresh (Nat.le_of_lt (x.above y c (kO h)))
 ·unfold start
  show _=N.length;rw [jh,aT,gR];lia
theorem CH{name:Str}{params:Arguments}{body:List Stmt}{dV kV doc pm aU ct oc:Value}{an od:Option Addr}
  {fb:Array (Option Value)} {sp:Sp} (lk:K.lookup f=some ⟨oc,od,.func (PySem.W.fnOf name qual params body scope dV kV doc pm an aU ct),fb⟩) (e7:PySem.W.codeIn K aU qual=true) (S:bo N ps scope)
  (len:∀vs H Q E,sp vs H Q E→vs.length=ps.length)
  (jy:∀(A:Around) (outer:List Env) (s:Shared) (H:Hp) (vs:List V) (Q:VK) (E:XK),cV k (A.deeper (envOfC qual scope s.heap.objs.size f aU))→sp vs H Q E→
   ∃t,eE (ix CX P w K mg base N qual scope f aU A outer s H E) body t∧t {nx:=fun _ H'=>Q .aV H',rt:=Q} (start N vs) H) :
  aW P w K mg base CX (k+1) f (PySem.W.fnOf name qual params body scope dV kV doc pm an aU ct) ps sp:=by
 refine ⟨len,fun A outer s H args us vs Q E hr e0 hb r iZ=>?_⟩;have hl:=len _ _ _ _ iZ;have KX:K.In s.heap:=e0.mod.cT.keeps fun b o e=>(e0.bs b o e).1;have lim:s.heap.NoLimit:=e0.mod.nolimit.keeps fun b o e=>(e0.bs b o e).1;have OQ:∀y∈ps.zip us,scope.names.lookup y.1=some .local∨(scope.names.lookup y.1=some .cell∧((cellsFrom (s.heap.objs.size+1) scope.names []).lookup y.1).isSome=true):=fun⟨n,v⟩ hy=>by
  rcases S.par n (rC hy).1 with q | q;·exact .inl q
  ·exact .inr ⟨q,PySem.W.cellsFrom_some _ _ _ (.inl q)⟩
 refine codeAny_call_function hr.depth (KX _ _ lk) rfl S.co S.gen rfl (PySem.W.codeRec_of KX e7) (hb _ _ _ _ ?_);refine wpAny_newFunctionEnv_cells S.kind OQ fun env he s1 x=>?_;subst he;refine ⟨lim.keeps x.toInCall.keep,codeAny_func ?_⟩;obtain ⟨t,ht,hq⟩:=jy A outer s H vs Q E (hr.deeper _) iZ;have I:Inv (ix CX P w K mg base N qual scope f aU A outer s H E) [] (start N vs) H s1:=OP S hr.hd e0 hl r x;refine cS (ht [] s1 (start N vs) H _ I hq) (fun fl s' hs=>?_) fun e s' hs=>hs;have fin:∀{σ':St} {H':Hp} {v:V} {u:Value},Inv (ix CX P w K mg base N qual scope f aU A outer s H E) [] σ' H' s'→RelV v u→Q v H'→CE outer P w H s Q u s':=
  fun{σ' H' v u} J rv q=>⟨v,H',J.os,J.bare,J.base,J.aF,rv,q⟩
 cases fl with
 | ret u=>obtain ⟨v,σ',H',J,rv,q⟩:=hs;exact fin J rv q
 | next=>obtain ⟨σ',H',J,q⟩:=hs;exact fin (v:=V.aV) (u:=Value.none) J rfl q
 | brk=>obtain ⟨_,_,_,q⟩:=hs;exact False.elim q
 | cont=>obtain ⟨_,_,_,q⟩:=hs;exact False.elim q
section
variable {X:Cx} {x:Str} {p pos:Pos} {e:Expr} {es:List Expr} {t:TA} {id T:String} {r:List V→Hp→VK→Prop}
def CJ(r:List V→Hp→VK→Prop)(t:TA):TE:=fun σ H Q=>t σ H fun vs H1=>r vs H1 Q
theorem bp(hc:ka X (.builtin id) r)(hg:Gl X x)(hm:X.mg x=none)(hv:bootBuiltins x=some (.builtin id))(ha:PA X (e::es) t)(hn:x ≠ "__name__":=by decide)(k8:(x == ("__debug__":Str))=false:=by decide)
  (he:starEach (e::es) X.env=(false,eval e X.env)::starEach es X.env:=by rfl) (gT:(backTo pos (starEach es X.env)).any (·.1)=false:=by rfl):PE X (.Call (.Name x p) (e::es) [] pos) (CJ r t):=by
 intro pins s σ H Q I h;refine ym (oJ I hg hm hv ?_ hn k8);exact PyProof.Rows.callWith_builtin1 (aG (ha pos pins s σ H _ I h) fun us s1 ⟨vs,H1,I1,r1,q1⟩=>hc pins s1 σ H1 vs us Q I1 r1 q1) he gT
theorem o5(hc:ka X (.type T) r)(hg:Gl X x)(hm:X.mg x=none)(hv:bootBuiltins x=some (.type T))(ha:PA X (e::es) t)(hn:x ≠ "__name__":=by decide)(k8:(x == ("__debug__":Str))=false:=by decide)
  (he:starEach (e::es) X.env=(false,eval e X.env)::starEach es X.env:=by rfl) (gT:(backTo pos (starEach es X.env)).any (·.1)=false:=by rfl):PE X (.Call (.Name x p) (e::es) [] pos) (CJ r t):=by
 intro pins s σ H Q I h;refine ym (oJ I hg hm hv ?_ hn k8);exact vz (aG (ha pos pins s σ H _ I h) fun us s1 ⟨vs,H1,I1,r1,q1⟩=>hc pins s1 σ H1 vs us Q I1 r1 q1) he gT
end
end L2
namespace HT
open PySem PyProof.Rows
section
open PySem.SeqAt
open PySem.AutoSeq1 (wpAny_loadPart')
open PySem.MeetsSeq PySem.MeetsSeq2 PySem.MeetsSeq3
end
section
variable {prog:Program} {w:World} {A:Around} {E:b_} {s:Shared}
def d9(n d:Nat):Option Int→Nat
 | none=>d
 | some v=>if v<0 then (v+(n:Int)).toNat else min v.toNat n
theorem OR(n d k:Nat):d9 n d (some (k:Int))=min k n:=by
 show (if (k:Int)<0 then ((k:Int)+(n:Int)).toNat else min (k:Int).toNat n)=min k n
 rw [ao (by lia),dI]
end
end HT
namespace L2
open PySem PySem.Spec PyProof.Rows
abbrev TO:=St→Hp→(Option Int→Hp→Prop)→Prop
def PO(X:Cx)(e:Option Expr)(t:TO):Prop:=
 ∀(pins:aY) (s:Shared) (σ:St) (H:Hp) (Q:Option Int→Hp→Prop),Inv X pins σ H s→t σ H Q→
  wpAny (model X.prog X.w) X.A (evalPart e X.env) (fun u s'=>∃o H',Inv X pins σ H' s'∧IsPart u o∧Q o H') X.xe s
def OS:TO:=fun _ H Q=>Q none H
def OT(t:TE):TO:=fun σ H Q=>t σ H fun x H1=>∃i,x=.int i∧Q (some i) H1
section
variable {X:Cx} {e:Expr} {te:TE} {lo hi:Option Expr} {tl th:TO} {pos p2:Pos}
theorem so:PO X none OS:=by intro pins s σ H Q I h;rw [evalPart_none];exact eY ⟨none,H,I,.none,h⟩
theorem sq(h:PE X e te):PO X (some e) (OT te):=by intro pins s σ H Q I hw;rw [evalPart_some];refine aG (h pins s σ H _ I hw) fun u s1 ⟨x,H1,I1,r1,q1⟩=>?_;obtain ⟨i,rfl,q⟩:=q1;obtain ⟨t,rfl⟩:=r1;exact ⟨some i,H1,I1,.int i t,q⟩
def HJ(X:Cx)(r:V→Option Int→Option Int→Hp→VK→Prop):Prop:=
 ∀(pins:aY) (s:Shared) (σ:St) (H:Hp) (x:V) (v vl vu:Value) (lo hi:Option Int) (sl:Addr) (Q:VK),Inv X pins σ H s→RelV x v→s.heap.IsSliceOf sl vl vu .none→IsPart vl lo→IsPart vu hi→r x lo hi H Q→
  ∃T id,typeLookup (.type T) "__getitem__"=pure (some (.builtin id))∧s.TypeIs v T∧wpAny (model X.prog X.w) X.A (getItem v (.ref sl)) (EP X pins σ Q) X.xe s
def OU(r:V→Option Int→Option Int→Hp→VK→Prop)(te:TE)(tl th:TO):TE:=fun σ H Q=>te σ H fun x H1=>tl σ H1 fun l H2=>th σ H2 fun u H3=>r x l u H3 Q
theorem su{r:V→Option Int→Option Int→Hp→VK→Prop}(hr:HJ X r)(he:PE X e te)(hl:PO X lo tl)(hu:PO X hi th):PE X (.Subscript e (.Slice lo hi none p2) pos) (OU r te tl th):=by intro pins s σ H Q I h;refine Subscript_ (aG (he pins s σ H _ I h) fun v s1 ⟨x,H1,I1,r1,q1⟩=>?_);refine wpAny_Slice (aG (hl pins s1 σ H1 _ I1 q1) fun vl s2 ⟨l,H2,I2,pl,q2⟩=>aG (hu pins s2 σ H2 _ I2 q2) fun vu s3 ⟨u,H3,I3,pu,q3⟩=>?_);rw [evalPart_none];refine eY ?_;have I4:Inv X pins σ H3 {s3 with heap:=s3.heap.push {cls:=.type "slice",data:=.fields #[vl,vu,.none]}}:=I3.kept (t':=s3.toks) fun b ob q=>dD _ q;obtain ⟨T,id,hT,ht,hg⟩:=hr pins {s3 with heap:=s3.heap.push {cls:=.type "slice",data:=.fields #[vl,vu,.none]}} σ H3 x v vl vu l u s3.heap.objs.size Q I4 r1 (Heap.IsSliceOf.new ..) pl pu q3;show wpAny (model X.prog X.w) X.A (subscriptTail e (.Slice lo hi none p2) v (.ref s3.heap.objs.size)) (EP X pins σ Q) X.xe {s3 with heap:=s3.heap.push {cls:=.type "slice",data:=.fields #[vl,vu,.none]}};exact tail_any (ops:=[.ref s3.heap.objs.size,v]) ht hT hg (by with_unfolding_all rfl)
def mM(xs:List V)(lo hi:Option Int):List V:=(xs.drop (HT.d9 xs.length 0 lo)).take (HT.d9 xs.length xs.length hi-HT.d9 xs.length 0 lo)
theorem OV(xs:List V)(lo hi:Option Int):(mM xs lo hi).length≤xs.length:=by unfold mM;rw [l_,List.length_drop];lia
end
def gU(n:Nat)(i:Int):Option Nat:=if 0≤i then (if i<n then some i.toNat else none) else if -(n:Int)≤i then some (i+n).toNat else none
def dA{α:Type}(xs:List α)(i:Int):Option α:=(gU xs.length i).bind fun j=>xs[j]?
variable {i:Int} {j:Nat}
theorem HK{n:Nat}(h:gU n i=some j):seqIndex? i n=some j∧j<n∧-(n:Int)≤i∧i<n:=by
 unfold gU at h;by_cases h0:0≤i
 ·rw [ar h0] at h
  by_cases h1:i<n
  ·rw [ar h1] at h
   have e:i.toNat=j:=Option.some.inj h;exact ⟨by rw [seqIndex_of h0 h1,e],by lia,by lia,h1⟩
  ·rw [ao h1] at h;cases h
 ·rw [ao h0] at h
  by_cases h1:-(n:Int)≤i
  ·rw [ar h1] at h
   have e:(i+n).toNat=j:=Option.some.inj h;exact ⟨by rw [seqIndex_neg (by lia) h1,e],by lia,h1,by lia⟩
  ·rw [ao h1] at h;cases h
theorem CK{α:Type}{xs:List α}{v:α}(h:dA xs i=some v):∃j,seqIndex? i xs.length=some j∧xs[j]?=some v∧j<xs.length∧-(xs.length:Int)≤i∧i<xs.length:=by
 unfold dA at h;cases e:gU xs.length i with
 | none=>rw [e] at h;cases h
 | some j=>rw [e] at h;obtain ⟨h1,h2,h3,h4⟩:=HK e;exact ⟨j,h1,h,h2,h3,h4⟩
theorem i3{α:Type}{xs:List α}{v:α}(h:xs[j]?=some v):dA xs (j:Int)=some v:=by
 have hj:j<xs.length:=(cU.mp h).1;have e:gU xs.length (j:Int)=some j:=by unfold gU;rw [ar (by lia),ar (by lia)];simp
 unfold dA;rw [e];exact h
variable {α:Type}
theorem OW(xs:List α)(v:α):dA (xs++[v]) (-1)=some v:=by
 have hl:(xs++[v]).length=xs.length+1:=by simp
 have e:gU (xs++[v]).length (-1)=some xs.length:=by
  unfold gU;rw [hl,ao (by decide),ar (by lia)]
  congr 1
  lia
 unfold dA;rw [e];show (xs++[v])[xs.length]?=some v;simp
def HL(b:Expr):Prop:=∀o i,subscripted b false o i=operate [o,i] (getItem o i)
def sv(X:Cx)(r:R2):Prop:=
 ∀(value slice:Expr) (pins:aY) (s:Shared) (σ:St) (H:Hp) (x y:V) (v u:Value) (Q:VK),Inv X pins σ H s→RelV x v→RelV y u→r x y H Q→
  subscripted slice false v u=operate [v,u] (getItem v u)→wpAny (model X.prog X.w) X.A (subscriptTail value slice v u) (EP X pins σ Q) X.xe s
def CL(X:Cx)(id:String)(r:V→List V→Hp→VK→Prop):Prop:=
 ∀(pins:aY) (s:Shared) (σ:St) (H:Hp) (x:V) (xs:List V) (v:Value) (us:List Value) (Q:VK),Inv X pins σ H s→RelV x v→Vals xs us→r x xs H Q→
  wpAny (model X.prog X.w) X.A (call (.builtin id) (v::us)) (EP X pins σ Q) X.xe s
section
variable {X:Cx} {a b:Expr} {ta tb:TE} {pos:Pos}
theorem jz{r:R2}(hr:sv X r)(ha:PE X a ta)(hb:PE X b tb)(hs:HL b):PE X (.Subscript a b pos) (oQ r ta tb):=by intro pins s σ H Q I h;exact Subscript_ (Cw ha hb I h fun v u s2 x y H2 I2 rx ry q=>hr a b pins s2 σ H2 x y v u Q I2 rx ry q (hs _ _))
theorem aA{a:Expr}{r:R2}(hr:sv X r)(ha:PE X a ta)(hb:PE X b tb)(hs:HL b:=by exact fun _ _=>rfl):PE X (.Subscript a b pos) (oQ r ta tb):=jz hr ha hb hs
def HM(K:aE):R2:=fun x y H Q=>∃p xs i v,x=.ref p∧y=.int i∧a_ K H p xs∧dA xs i=some v∧Q v H
def HN(K:aE):R2:=fun x y H Q=>∃p xs i v,x=.ref p∧y=.int i∧d7 K H p xs∧dA xs i=some v∧Q v H
theorem bP:sv X (HM X.K):=by
 intro value slice pins s σ H x y v u Q I rx ry h hs;obtain ⟨p,xs,i,z,rfl,rfl,hq,he,q⟩:=h;cases rx;obtain ⟨t,rfl⟩:=ry;obtain ⟨aq,r,pl,hz⟩:=I.list hq;obtain ⟨j,h1,h2,h3,h4,h5⟩:=CK he;obtain ⟨w,ew,oN⟩:=r.get h2;have hl:=r.length;have hn:=wb;have fin:EP X pins σ Q w s:=⟨z,H,I,oN,q⟩;by_cases h0:0≤i
 ·have hj:i.toNat=j:=by rw [seqIndex_of h0 h5] at h1;exact Option.some.inj h1
  exact item_listR pl.isList h0 (by lia) (by rw [hj];simpa using ew) fin hs
 ·have hj:(i+(aq.toArray.size:Int)).toNat=j:=by
   rw [seqIndex_neg (by lia) h4] at h1
   rw [dN,←hl];exact Option.some.inj h1
  exact subscriptTail_builtinR (x:=w) pl.isList.typeIs slot_list_getitem.lookup
   (wpAny_getItem_list_neg (Q:=fun r s'=>r=w∧EP X pins σ Q r s') pl.isList (by lia) (by rw [dN] <;> lia) (by lia) (by rw [hj];simpa using ew) ⟨rfl,fin⟩) hs
theorem a8:sv X (HN X.K):=by
 intro value slice pins s σ H x y v u Q I rx ry h hs;obtain ⟨p,xs,i,z,rfl,rfl,hq,he,q⟩:=h;cases rx;obtain ⟨t,rfl⟩:=ry;obtain ⟨aq,r,pl,hz⟩:=I.tuple hq;obtain ⟨j,h1,h2,h3,h4,h5⟩:=CK he;obtain ⟨w,ew,oN⟩:=r.get h2;have hl:=r.length;have hn:=wb;have fin:EP X pins σ Q w s:=⟨z,H,I,oN,q⟩
 exact subscriptTail_builtinR (x:=w) pl.typeIs slot_tuple_getitem.lookup
  (getItem_tuple (j:=j) (Q:=fun r s'=>r=w∧EP X pins σ Q r s') pl (by lia) (by lia) (by rw [dN,←hl];exact h1) (by simpa using ew) ⟨rfl,fin⟩) hs
theorem OX(aq:List Value)(n j:Nat)(u:Value):Obj.mapSeq (·.setIfInBounds j u) {cls:=.type "list",data:=.seq aq.toArray n}={cls:=.type "list",data:=.seq (aq.set j u).toArray n}:=by simp [Obj.mapSeq]
theorem Inv.lst{pins:aY}{σ:St}{H:Hp}{s:Shared}{p:Addr}{xs:List V}(I:Inv X pins σ H s)(h:H p=some (.lst xs)) :
  ∃(aq:List Value) (n:Nat),Vals xs aq∧s.heap.get? p=some {cls:=.type "list",data:=.seq aq.toArray n}∧xs.length≤sizeLine:=by
 obtain ⟨z,aq,n,r,e⟩:=I.aF p _ h;exact ⟨aq,n,r,e,z⟩
variable {pins:aY} {σ:St} {H:Hp} {s:Shared}
theorem Inv.OY{p:Addr}{xs ys:List V}{aq its':List Value}{n n':Nat}{f:Obj→Obj}(I:Inv X pins σ H s)(h:H p=some (.lst xs))
  (ho:s.heap.get? p=some {cls:=.type "list",data:=.seq aq.toArray n}) (hf:f {cls:=.type "list",data:=.seq aq.toArray n}={cls:=.type "list",data:=.seq its'.toArray n'}) (r:Vals ys its') (hz:ys.length≤sizeLine) (t:Nat) :
  Inv X pins σ (upd H p (.lst ys)) {s with heap:=s.heap.update p f,toks:=t}:=by
 have e:(s.heap.update p f).get? p=some {cls:=.type "list",data:=.seq its'.toArray n'}:=by rw [Heap.get?_update_self f ho (by rw [hf] <;> rfl),hf]
 refine I.write (x:=p) (e:=p) (by rw [h];trivial) (.inl rfl) (fun b u hb q=>(Heap.get?_update_other _ _ (Ne.symm hb)).trans q) ⟨_,e⟩ ?_
 exact ⟨hz,its',n',r,e⟩
def OZ:V→V→V→Hp→(Hp→Prop)→Prop:=fun o i v H Q=>∃p xs k j,o=.ref p∧i=.int k∧H p=some (.lst xs)∧gU xs.length k=some j∧Q (upd H p (.lst (xs.set j v)))
theorem set_list:Cq X OZ:=by
 intro pins s σ H o i v ov iv u Q I ro ri rv h;obtain ⟨p,xs,k,j,rfl,rfl,hp,hj,q⟩:=h;cases ro;obtain ⟨t,rfl⟩:=ri;obtain ⟨aq,n,r,ho,hz⟩:=I.lst hp;obtain ⟨h1,h2,h3,h4⟩:=HK hj;have hl:=r.length;have hn:=wb;have I':Inv X pins σ (upd H p (.lst (xs.set j v))) {s with heap:=s.heap.update p (Obj.mapSeq (·.setIfInBounds j u))}:=
  I.OY hp ho (OX aq n j u) (r.set rv j) (by rw [List.length_set];exact hz) s.toks
 by_cases h0:0≤k
 ·have hk:k.toNat=j:=by rw [seqIndex_of h0 h4] at h1;exact Option.some.inj h1
  exact PySem.W.ki_setAt ho h0 (by lia) (by rw [dN,←hl];exact h4) (by rw [hk];exact ⟨_,I',q⟩)
 ·have hk:(k+(aq.toArray.size:Int)).toNat=j:=by
   rw [seqIndex_neg (by lia) h3] at h1
   rw [dN,←hl];exact Option.some.inj h1
  exact PySem.W.ki_setBack ho (by lia) (by rw [dN,←hl];exact h3) (by lia) (by rw [hk];exact ⟨_,I',q⟩)
theorem O0(lo hi:Option Int)(n:Nat):(sliceBounds lo hi none n).1=((HT.d9 n 0 lo:Nat):Int)∧(sliceBounds lo hi none n).2.1=((HT.d9 n n hi:Nat):Int)∧(sliceBounds lo hi none n).2.2=1:=by
 refine ⟨?_,?_,rfl⟩
 ·cases lo with
  | none=>simp [sliceBounds,HT.d9]
  | some i=>
   simp only [sliceBounds,HT.d9,Option.getD_none,show (1:Int)>0 by decide,if_true]
   by_cases h:i<0;·simp only [h,if_true] <;> lia
   ·simp only [h,if_false] <;> lia
 ·cases hi with
  | none=>simp [sliceBounds,HT.d9]
  | some i=>
   simp only [sliceBounds,HT.d9,Option.getD_none,show (1:Int)>0 by decide,if_true]
   by_cases h:i<0;·simp only [h,if_true] <;> lia
   ·simp only [h,if_false] <;> lia
theorem O1(aq:List Value)(lo hi:Option Int):slicePick aq.toArray lo hi none=((aq.drop (HT.d9 aq.length 0 lo)).take (HT.d9 aq.length aq.length hi-HT.d9 aq.length 0 lo)).toArray:=by obtain ⟨h1,h2,h3⟩:=O0 lo hi aq.toArray.size;unfold slicePick;rw [h1,h2,h3];simp only [sliceRange_one,pick_run,dN] <;> rfl
def O2(K:aE):V→Option Int→Option Int→Hp→VK→Prop:=fun x lo hi H Q=>∃a xs,x=.ref a∧a_ K H a xs∧∀p,H p=none→Q (.ref p) (upd H p (.lst (mM xs lo hi)))
theorem sC:HJ X (O2 X.K):=by
 intro pins s σ H x v vl vu lo hi sl Q I rx hs pl pu h;obtain ⟨a,xs,rfl,hx,q⟩:=h;cases rx;obtain ⟨aq,r,ht,hz⟩:=I.list hx;have hlen:=r.length;refine ⟨"list",_,slot_list_getitem.lookup,ht.isList.typeIs,?_⟩;refine wpAny_getItem_list_slice ht.isList hs pl pu .none (by simp) ?_ (by rw [dN] <;> lia)
 rw [O1,←hlen];refine ⟨.ref s.heap.objs.size,_,I.laid (t':=s.toks) (o:=.lst (mM xs lo hi)) (fun b ob q=>dD _ q) (aN _) ?_,rfl,q _ (I.aF.fresh (aN _))⟩;exact ⟨ae (OV xs lo hi) hz,_,0,(r.drop (HT.d9 xs.length 0 lo)).take (HT.d9 xs.length xs.length hi-HT.d9 xs.length 0 lo),gP _ rfl⟩
def kh:V→Bool
 | .aV=>true
 | .bl _=>true
 | .int _=>true
 | .str _=>true
 | _=>false
def sD:V→V→Bool
 | .aV,.aV=>true
 | .bl a,.bl b=>a == b
 | .bl a,.int b=>(if a then 1 else 0) == b
 | .int a,.bl b=>a == (if b then 1 else 0)
 | .int a,.int b=>a == b
 | .str a,.str b=>a == b
 | _,_=>false
variable {x:V} {v:Value}
theorem CM{A:Around}{y:V}{u:Value}(ry:RelV y u)(rx:RelV x v)(fy:kh y=true)(fx:kh x=true):SeqAt.EqAt A s u v (sD y x):=by
 cases y with
 | aV=>
  cases ry;cases x with
  | aV=>cases rx;exact SeqAt.EqAt.same _
  | bl b=>cases rx;exact SeqAt.EqAt.none_bool b
  | int b=>obtain ⟨t,rfl⟩:=rx;exact SeqAt.EqAt.none_int b t
  | str b=>obtain ⟨t,rfl⟩:=rx;exact SeqAt.EqAt.none_str b t
  | _=>exact absurd (show false=true from fx) dm
 | bl a=>
  cases ry;cases x with
  | aV=>cases rx;exact SeqAt.EqAt.bool_none a
  | bl b=>cases rx;exact SeqAt.EqAt.bool_bool a b
  | int b=>obtain ⟨t,rfl⟩:=rx;exact SeqAt.EqAt.bool_int a b t
  | str b=>obtain ⟨t,rfl⟩:=rx;exact SeqAt.EqAt.bool_str a b t
  | _=>exact absurd (show false=true from fx) dm
 | int a=>
  obtain ⟨t',rfl⟩:=ry;cases x with
  | aV=>cases rx;exact SeqAt.EqAt.int_none a t'
  | bl b=>cases rx;exact SeqAt.EqAt.int_bool a t' b
  | int b=>obtain ⟨t,rfl⟩:=rx;exact SeqAt.EqAt.int_int a t' b t
  | str b=>obtain ⟨t,rfl⟩:=rx;exact SeqAt.EqAt.int_str a t' b t
  | _=>exact absurd (show false=true from fx) dm
 | str a=>
  obtain ⟨t',rfl⟩:=ry;cases x with
  | aV=>cases rx;exact SeqAt.EqAt.str_none a t'
  | bl b=>cases rx;exact SeqAt.EqAt.str_bool a t' b
  | int b=>obtain ⟨t,rfl⟩:=rx;exact SeqAt.EqAt.str_int a t' b t
  | str b=>obtain ⟨t,rfl⟩:=rx;exact SeqAt.EqAt.str_str a t' b t
  | _=>exact absurd (show false=true from fx) dm
 | _=>exact absurd (show false=true from fy) dm
theorem cn:ka X (.builtin "len") (fun xs H Q=>∃p ys,xs=[.ref p]∧(a_ X.K H p ys∨d7 X.K H p ys)∧Q (.int ys.length) H):=by
 intro pins s σ H xs us Q I r h;obtain ⟨p,ys,rfl,hq,q⟩:=h;obtain ⟨u,rfl,rx⟩:=vals1 r;cases rx;have hn:=wb;rcases hq with hq | hq
 ·obtain ⟨aq,r',pl,hz⟩:=I.list hq
  have hlen:=r'.length;exact Calls.call_len_list pl.isList (by simp only [dN] <;> lia) ⟨.int ys.length,H,I.tok _,⟨s.toks+1,by rw [dN,hlen]⟩,q⟩
 ·obtain ⟨aq,r',pl,hz⟩:=I.tuple hq
  have hlen:=r'.length;exact len_tuple pl (by simp only [dN] <;> lia) ⟨.int ys.length,H,I.tok _,⟨s.toks+1,by rw [dN,hlen]⟩,q⟩
theorem sE:ka X (.type "list") (fun xs H Q=>∃p ys,xs=[.ref p]∧(a_ X.K H p ys∨d7 X.K H p ys)∧∀l,H l=none→Q (.ref l) (upd H l (.lst ys))):=by
 intro pins s σ H xs us Q I r h;obtain ⟨p,ys,rfl,hq,q⟩:=h;obtain ⟨u,rfl,rx⟩:=vals1 r;cases rx
 have fin:∀(aq:List Value),Vals ys aq→ys.length≤sizeLine→∀(h':Heap) (c':Nat),(∀b o',s.heap.get? b=some o'→h'.get? b=some o')→
   h'.get? s.heap.objs.size=some {cls:=.type "list",dict:=none,data:=.seq aq.toArray c',slots:=#[]}→EP X pins σ Q (.ref s.heap.objs.size) {s with heap:=h'}:=fun aq r' hz h' c' kp e=>
  ⟨.ref s.heap.objs.size,_,I.laid (t':=s.toks) kp (aN _) (show d6 X.prog X.w _ h' _ (.lst ys) from ⟨hz,aq,c',r',e⟩),rfl,q _ (I.aF.fresh (aN _))⟩
 rcases hq with hq | hq
 ·obtain ⟨aq,r',pl,hz⟩:=I.list hq
  have hlen:=r'.length;obtain ⟨o,ho,hc,n,hd⟩:=pl.isList;exact call_list_seq p (.inl rfl) ho hc hd (fun h' c' kp e=>fin aq r' hz h' c' kp e) (by simp only [dN] <;> lia)
 ·obtain ⟨aq,r',pl,hz⟩:=I.tuple hq
  have hlen:=r'.length;obtain ⟨o,ho,hc,n,hd⟩:=pl;exact call_list_seq p (.inr rfl) ho hc hd (fun h' c' kp e=>fin aq r' hz h' c' kp e) (by simp only [dN] <;> lia)
def CN(K:aE)(T:String)(x:V)(H:Hp):Prop:=match x with
 | .str _=>T="str"
 | .int _=>T="int"
 | .ref p=>(T="list"∧∃xs,a_ K H p xs)∨(T="tuple"∧∃o,K.lookup p=some o∧o.cls=.type "tuple"∧o.dict=none) ∨
   (T="dict"∧((∃dF,H p=some (.dK dF))∨∃dF,H p=some (.dT dF)))∨(T="set"∧∃S n,H p=some (.set S n))
 | _=>False
theorem HP{T:String}(I:Inv X pins σ H s)(r:RelV x v)(ty:CN X.K T x H) :
  s.TypeIs v T∧∀a,v=.ref a→∃ob,s.heap.get? a=some ob∧ob.dict=none:=by
 cases x with
 | str z=>obtain ⟨t,rfl⟩:=r;cases (show T="str" from ty);exact ⟨typeIs_str s z t,fun _ e=>nomatch e⟩
 | int i=>obtain ⟨t,rfl⟩:=r;cases (show T="int" from ty);exact ⟨typeIs_int s i t,fun _ e=>nomatch e⟩
 | ref p=>
  cases r;rcases ty with ⟨rfl,xs,hq⟩ | ⟨rfl,o,hk,hc,hd⟩ | ⟨rfl,hk⟩ | ⟨rfl,S,n,hk⟩
  ·obtain ⟨aq,_,pl,_⟩:=I.list hq
   refine ⟨pl.isList.typeIs,fun a e=>?_⟩;cases e;obtain ⟨o,n,e,c,hd,_⟩:=pl;exact ⟨o,e,hd⟩
  ·refine ⟨⟨o,I.dy p o hk,hc⟩,fun a e=>?_⟩
   cases e;exact ⟨o,I.dy _ o hk,hd⟩
  ·have z:∃o,s.heap.get? p=some o∧o.ExactDict:=by
    rcases hk with ⟨dF,hk⟩ | ⟨dF,hk⟩
    ·obtain ⟨_,_,_,_,o,_,_,e,ex,_⟩:=I.aF p _ hk
     exact ⟨o,e,ex⟩
    ·obtain ⟨_,_,_,_,o,_,_,e,ex,_⟩:=I.aF p _ hk
     exact ⟨o,e,ex⟩
   obtain ⟨o,e,ex⟩:=z;refine ⟨⟨o,e,ex.1⟩,fun a e2=>?_⟩;cases e2;exact ⟨o,e,ex.2.1⟩
  ·obtain ⟨o,_,_,_,e,ex,_⟩:=I.aF p _ hk
   refine ⟨⟨o,e,ex.1⟩,fun a e2=>?_⟩;cases e2;exact ⟨o,e,ex.2.1⟩
 | _=>exact False.elim ty
def O3(K:aE)(T:String)(r:V→List V→Hp→VK→Prop)(to:TE):TE:=fun σ H Q=>to σ H fun x H1=>CN K T x H1∧r x [] H1 Q
def O4(K:aE)(T:String)(r:V→List V→Hp→VK→Prop)(to:TE)(t:TA):TE:=fun σ H Q=>to σ H fun x H1=>CN K T x H1∧t σ H1 fun xs H2=>r x xs H2 Q
variable {o e:Expr} {es:List Expr} {to:TE} {t:TA} {name:Str} {apos gW:Pos} {T id:String} {r:V→List V→Hp→VK→Prop}
theorem O5(pa:PlainAttrs T)(slot:Slot T name id)(CO:typeOf (.builtin id)=pure (.type "method_descriptor"))(hm:CL X id r)(ho:PE X o to)
  (CP:attributeBase o name X.env (eval o X.env)=eval o X.env:=by rfl) (CQ:(apos.endLine == gW.line)=true:=by rfl):PE X (.Call (.Attribute o name apos) [] [] gW) (O3 X.K T r to):=by
 intro pins s σ H Q I h;refine wpAny_Call_method0_late CP CQ (aG (ho pins s σ H _ I h) fun v s1 ⟨x,H1,I1,r1,ty,q1⟩=>?_);obtain ⟨h1,h2⟩:=HP I1 r1 ty;exact ⟨T,id,pa,slot,CO,h1,h2,Calls.callWith_builtin rfl (PySem.evalArgs_none (hm pins s1 σ H1 x [] v [] Q I1 r1 .nil q1))⟩
theorem O6(pa:PlainAttrs T)(slot:Slot T name id)(CO:typeOf (.builtin id)=pure (.type "method_descriptor"))(hm:CL X id r)(ho:PE X o to)(ha:PA X (e::es) t)
  (CP:attributeBase o name X.env (eval o X.env)=eval o X.env:=by rfl)
  (O7:((backTo gW (starEach (e::es) X.env)).all (fun x=>!x.1) && (backToKw gW (keywordEach [] X.env)).all (fun x=>x.1.isSome)
   && decide ((e::es).length+([]:List Keyword).length+(if ([]:List Keyword).isEmpty then 0 else 1)<30))=true:=by rfl)
  (CQ:(apos.endLine == gW.line)=true:=by rfl) (hs:starEach (e::es) X.env=(false,eval e X.env)::starEach es X.env:=by rfl) (O8:(backTo gW (starEach es X.env)).any (·.1)=false:=by rfl) :
  PE X (.Call (.Attribute o name apos) (e::es) [] gW) (O4 X.K T r to t):=by
 intro pins s σ H Q I h;refine wpAny_Call_method_late CP O7 CQ rfl (aG (ho pins s σ H _ I h) fun v s1 ⟨x,H1,I1,r1,ty,q1⟩=>?_);obtain ⟨h1,h2⟩:=HP I1 r1 ty;refine ⟨T,id,pa,slot,CO,h1,h2,?_⟩;have hA:=ha gW pins s1 σ H1 _ I1 q1;rw [hs] at hA ⊢;refine Calls.callWith_builtin (by show (false || (backTo gW (starEach es X.env)).any (·.1))=false;rw [O8] <;> rfl) (Calls.evalArgs_plain ?_)
 exact aG hA fun us s2 ⟨vs,H2,I2,r2,q2⟩=>hm pins s2 σ H2 x vs v us Q I2 r1 r2 q2
end
def HQ(X:Cx)(id:String)(r:V→List V→Hp→VK→Prop):Prop:=
 ∀(pins:aY) (s:Shared) (σ:St) (H:Hp) (x:V) (xs:List V) (v:Value) (us:List Value) (Q:VK),Inv X pins σ H s→RelV x v→Vals xs us→r x xs H Q→
  wpAny (model X.prog X.w) X.A (call (.builtin id) (v::us)) (EP X pins σ Q) X.xe s
theorem Vals.one:∀{x:V} {us:List Value},Vals [x] us→∃u,us=[u]∧RelV x u
 | _,_,.cons r .nil=>⟨_,rfl,r⟩
theorem Vals.zero:∀{us:List Value},Vals [] us→us=[]
 | _,.nil=>rfl
theorem Vals.rep{xs:List V}{us:List Value}(h:Vals xs us):∀k:Nat,Vals (List.replicate k xs).flatten (List.replicate k us).flatten
 | 0=>.nil
 | k+1=>by rw [kR,kR,vC,vC];exact Vals.append h (Vals.rep h k)
theorem foldl_rep(aq:List Value):∀(k:Nat) (acc:List Value),
  List.foldl (fun x1 x2=>x1++x2) acc.toArray (List.replicate k aq.toArray)=(acc++(List.replicate k aq).flatten).toArray
 | 0,acc=>by simp
 | k+1,acc=>by
  have e:acc.toArray++aq.toArray=(acc++aq).toArray:=by simp
  have e2:(acc++aq)++(List.replicate k aq).flatten=acc++(List.replicate (k+1) aq).flatten:=by rw [kR,vC,ic]
  rw [←e2,←foldl_rep aq k (acc++aq),←e,kR,List.foldl_cons]
section
variable {X:Cx} {pins:aY} {σ:St} {H:Hp} {s:Shared} {l b:Addr} {xs ys zs:List V}
variable {aq:List Value} {n t':Nat}
theorem Inv.HR{its':List Value}{f:Array Value→Array Value}(I:Inv X pins σ H s)(hH:H l=some (.lst xs))
  (e:s.heap.get? l=some {cls:=.type "list",data:=.seq aq.toArray n}) (hf:f aq.toArray=its'.toArray) (hv:Vals ys its') (hz:ys.length≤sizeLine) :
  Inv X pins σ (upd H l (.lst ys)) {s with heap:=s.heap.update l (Obj.mapSeq f),toks:=t'}:=by
 have q:=PySem.IsL.update e f;rw [hf] at q;refine I.write (x:=l) (e:=l) (by rw [hH];exact trivial) (.inl rfl) (fun b' u hb hu=>(Heap.get?_update_other s.heap (Obj.mapSeq f) (Ne.symm hb)).trans hu) ⟨_,q⟩ ?_
 exact ⟨hz,its',_,hv,q⟩
theorem Inv.HS(I:Inv X pins σ H s)(hv:Vals ys aq)(hz:ys.length≤sizeLine) :
  Inv X pins σ (upd H s.heap.objs.size (.lst ys)) {s with heap:=s.heap.push {cls:=.type "list",data:=.seq aq.toArray},toks:=t'}:=
 I.laid (fun _ _ q=>dD _ q) (aN _) ⟨hz,aq,0,hv,gP _ rfl⟩
theorem Inv.fresh(I:Inv X pins σ H s):H s.heap.objs.size=none:=I.aF.fresh (aN _)
theorem Inv.sF(I:Inv X pins σ H s)(hH:H l=some (.lst xs)):xs.length≤sizeLine∧∃(aq:List Value) (n:Nat),Vals xs aq∧xs.length=aq.length∧s.heap.get? l=some {cls:=.type "list",data:=.seq aq.toArray n}:=by obtain ⟨z,aq,n,r,e⟩:=I.aF l _ hH;exact ⟨z,aq,n,r,r.length,e⟩
theorem HU(h:n≤sizeLine):Builtin.List.listTooLong n=false:=by unfold Builtin.List.listTooLong;exact fM (by lia)
end
section
variable {X:Cx}
def O9:V→List V→Hp→VK→Prop:=fun x vs H Q=>∃l xs y,x=.ref l∧vs=[y]∧H l=some (.lst xs)∧xs.length<sizeLine∧Q .aV (upd H l (.lst (xs++[y])))
theorem yR:HQ X "list.append" O9:=by
 intro pins s σ H x vs v us Q I rx rv h;obtain ⟨l,xs,y,rfl,rfl,hH,hz,q⟩:=h;cases rx;obtain ⟨u,rfl,ru⟩:=rv.one;obtain ⟨z,aq,n,r,hl,e⟩:=I.sF hH;refine call_meets F.slot_list_append ⟨_,e,rfl⟩ F.entry_list_append (F.args_list_append_2 _ _) (PySem.list_append l aq.toArray n u (by rw [dN];lia)) ⟨e,?_⟩
 refine ⟨.aV,_,I.HR (its':=aq++[u]) hH e (by simp) (r.append (.cons ru .nil)) ?_,rfl,q⟩
 rw [jh,B4];lia
def O_:V→List V→Hp→VK→Prop:=fun x vs H Q=>∃l b xs zs,x=.ref l∧vs=[.ref b]∧H l=some (.lst xs)∧H b=some (.lst zs)∧xs.length+zs.length≤sizeLine∧Q .aV (upd H l (.lst (xs++zs)))
theorem abx:HQ X "list.extend" O_:=by
 intro pins s σ H x vs v us Q I rx rv h;obtain ⟨l,b,xs,zs,rfl,rfl,hH,hB,hz,q⟩:=h;cases rx;obtain ⟨u,rfl,ru⟩:=rv.one;cases ru;obtain ⟨z,aq,n,r,hl,e⟩:=I.sF hH;obtain ⟨z2,o6,n2,r2,Pa,e2⟩:=I.sF hB;have Hq:aq.toArray.size+o6.toArray.size≤sizeLine:=by rw [dN,dN];lia
 have CS:¬(!aq.toArray.isEmpty && Builtin.List.listTooLong (aq.toArray.size+o6.toArray.size))=true:=by rw [HU Hq,Bool.and_false];exact dm
 refine call_meets F.slot_list_extend ⟨_,e,rfl⟩ F.entry_list_extend (F.args_list_extend_2 _ _)
  (AutoSeq1.list_extend_list_list_0 l aq.toArray n b o6.toArray n2 CS (by rw [dN];lia) (by lia)) ⟨e,e2,?_⟩
 refine ⟨.aV,_,I.HR (its':=aq++o6) hH e (by simp) (r.append r2) ?_,rfl,q⟩
 rw [jh];lia
def Pb:R2:=fun x y H Q=>∃l b xs zs,x=.ref l∧y=.ref b∧H l=some (.lst xs)∧H b=some (.lst zs)∧xs.length+zs.length≤sizeLine∧∀p,H p=none→Q (.ref p) (upd H p (.lst (xs++zs)))
theorem k9:cz X (binaryOp .Add) Pb:=by
 intro pins s σ H x y v u Q I rx ry h;obtain ⟨l,b,xs,zs,rfl,rfl,hH,hB,hz,q⟩:=h;cases rx;cases ry;obtain ⟨z,aq,n,r,hl,e⟩:=I.sF hH;obtain ⟨z2,o6,n2,r2,Pa,e2⟩:=I.sF hB;refine PySem.P.add_list e e2 ?_ (by rw [dN,dN];lia)
 have ea:aq.toArray++o6.toArray=(aq++o6).toArray:=by simp
 rw [ea];exact ⟨.ref _,_,I.HS (t':=s.toks) (r.append r2) (by rw [jh];lia),rfl,q _ I.fresh⟩
def Pc:R2:=fun x y H Q=>∃l k xs,x=.ref l∧y=.int k∧H l=some (.lst xs)∧-(2 ^ 63)≤k∧k<2 ^ 63∧xs.length*k.toNat≤sizeLine ∧
 ∀p,H p=none→Q (.ref p) (upd H p (.lst (List.replicate k.toNat xs).flatten))
theorem len_rep(xs:List α)(k:Nat):(List.replicate k xs).flatten.length=k*xs.length:=by
 induction k with
 | zero=>simp
 | succ k ih=>rw [kR,vC,jh,ih,Nat.succ_mul,Nat.add_comm]
theorem we:cz X (binaryOp .Mult) Pc:=by
 intro pins s σ H x y v u Q I rx ry h;obtain ⟨l,k,xs,rfl,rfl,hH,h1,h2,hz,q⟩:=h;cases rx;obtain ⟨t,rfl⟩:=ry;obtain ⟨z,aq,n,r,hl,e⟩:=I.sF hH;have hlen:aq.toArray.size*k.toNat≤sizeLine:=by rw [dN,←hl];exact hz
 have Pd:¬aq.toArray.size*k.toNat>(2 ^ 63-1) / 8:=by
  have:(sizeLine:Nat)≤(2 ^ 63-1) / 8:=by decide
  lia
 have Pe:¬(!Builtin.List.listFitsIndex k)=true:=by rw [fitsIndex_both h1 h2];exact dm
 have CS:¬Builtin.List.listTooLong (aq.toArray.size*k.toNat)=true:=by rw [HU hlen];exact dm
 have Pf:List.foldl (fun x1 x2=>x1++x2) #[] (List.replicate (if aq.toArray.isEmpty=true then 0 else k.toNat) aq.toArray)=(List.replicate k.toNat aq).flatten.toArray:=by
  have f0:∀m:Nat,List.foldl (fun x1 x2=>x1++x2) #[] (List.replicate m aq.toArray)=(List.replicate m aq).flatten.toArray:=fun m=>by have:=foldl_rep aq m [];rw [fj] at this;exact this
  rw [f0];cases aq with
  | nil=>simp
  | cons a r'=>rw [ao (by simp)]
 refine wpAny_binaryOp_repeat_ref (T:="list") (U:="int") (by decide) ⟨_,e,rfl⟩ (fun s'=>typeIs_int s' k t) noFill_list_mul F.fills_int_mul F.slot_int_rmul repeat_list F.slot_int_index.lookup
  (call_meets F.slot_int_rmul (typeIs_int s k t) F.entry_int_rmul (F.args_int_rmul_2 _ _) (int___rmul___int_list k t l aq.toArray n)
   ⟨e,rfl,⟨_,e,rfl⟩,call_meets F.slot_list_mul ⟨_,e,rfl⟩ F.entry_list_mul (F.args_list_mul_2 _ _) (AutoListH.list___mul___list_int_3 l aq.toArray n k t Pe Pd CS) ⟨e,?_⟩⟩)
 rw [Pf];exact ⟨.ref _,_,I.HS (t':=s.toks) (r.rep k.toNat) (by rw [len_rep,ji];exact hz),rfl,q _ I.fresh⟩
end
section
variable {prog:Program} {w:World} {A:Around} {E:b_} {s:Shared}
end
section
variable {X:Cx}
end
end L2
namespace HV
open PySem PySem.W PySem.Calls PyProof.Rows
variable {P:Params} {h:Heap}
theorem Pg:∀(ns:List Int) (vs:List Value),WellAll P h vs (ns.map WData.int)→IntsAre vs ns:=by
 intro ns
 induction ns with
 | nil=>intro vs w;rw [List.map_nil] at w;cases w;exact .nil
 | cons n ns ih=>
  intro vs w;rw [rB] at w;cases w with
  | cons a b=>cases a;exact .cons _ _ (ih _ b)
variable {l:OpenLaw} {n:Nat}
theorem Ph(hn:l.most=some n){args:List WData}{vals:List Value}
  (yS:l.row.toRowW.claim.pre args=true) (CT:WellAll P h vals args) :
  ∃a vs ns,vals=[Value.ref a]∧args=[WData.list (ns.map WData.int)]∧h.get? a=some {cls:=.type "list",data:=.seq vs.toArray}∧IntsAre vs ns∧ns.length≤n:=by
 have Pj:WShape.hasAll [] args [.list .int]=true:=(pre_splitW yS).1;have hc:l.pre.holds [] {args:=args}=true:=(pre_splitW yS).2;obtain ⟨d,r,rfl,h1,h2⟩:=hasAllW_cons Pj;obtain rfl:=hasAllW_nil h2;obtain ⟨xs,rfl,h3⟩:=hasW_list h1;obtain ⟨ns,rfl⟩:=items_int h3;have hlen:ns.length≤n:=by
  unfold OpenLaw.pre at hc;have h4:(WTm.not (.lt (.lit (.int (n:Int))) (.len (.arg 0)))).holds [] {args:=[.list (ns.map .int)]}=true:=by have h4:=(holds_andW hc).1;rw [hn] at h4;exact h4
  have h5:=condW_of h4 (w_not (w_lt w_lit (w_len_list (w_arg rfl))));rw [aT] at h5;refine Nat.le_of_not_lt fun q=>?_;have q':(n:Int)<((ns.length:Nat):Int):=by lia
  first
   | (rw [dE q'] at h5;exact absurd h5 (by decide))
   | (simp at h5;lia)
 cases CT with
 | cons w1 w2=>
  cases w2;cases w1 with
  | list ho Pk=>exact ⟨_,_,ns,rfl,rfl,ho,Pg ns _ Pk,hlen⟩
theorem Pl(l:OpenLaw)(args:List WData):l.row.toRowW.claim.post args (.bool true) args=true:=
 postW_of (r:=l.row.toRowW) (X:=(true == true))
  (show WShape.has [] (.bool true) .bool=true by first | rfl | decide | simp [WShape.has,WShape.arms,WShape.armsAll])
  (show (WTm.eq .res (.lit (.bool true))).value [] {args:=args,res:=some (.bool true),after:=args}=some (.bool (true == true)) from w_eq_bool (w_res rfl) w_lit) rfl
theorem Pm{q:Program}{loose:List Str}{XP:(Str→Option Value)→Heap→Prop}{YP:World→Heap→Prop}{d:DefRec}
  (hn:l.most=some n) (mO:d.params.defaults=[])
  (call:∀(w:World) (s₀ s₁:Shared) (mg mb:dj) (fa:Addr) (o:Obj) (pm cd doc:Value) (a:Addr) (vs:List Value) (ns:List Int),
   Ground q loose [] XP w s₀ mg mb s₁.heap→YP w s₁.heap→
   s₁.heap.get? fa=some o→o.data=.func (docDef d.name d.params d.body d.scope pm cd doc)→s₁.heap.CodeRec cd d.name→mg d.name=some (.ref fa)→
   s₁.heap.get? a=some {cls:=.type "list",data:=.seq vs.toArray}→IntsAre vs ns→ns.length≤n→s₁.gens = #[]→
   codeAny (model l.prog w) callerA (.call (.ref fa) ⟨[.ref a],[]⟩) (fun r s'=>r=.ok (.ret (.bool true))∧OldK s₁.heap s'.heap∧s'.os=s₁.os∧AllBare s'.gens) s₁) :
  WalkO q loose XP YP l.row.toRowW d [] (fun f vs=>PySem.call f vs):=by
 intro w s₀ s₁ mg mb G Y fa o pm cd doc dV kV ho hd e7 hD wj hg args vals as yS aby hrd CT hlo;obtain rfl:dV=.none:=Dflts.none hD mO;obtain rfl:kV=.none:=Dflts.noKw hD;obtain ⟨a,vs,ns,rfl,rfl,CU,hints,hlen⟩:=Ph hn yS CT;refine enter_call (codeAny_mono (call w s₀ s₁ mg mb fa o pm cd doc a vs ns G Y ho (fd_plain hd) e7 wj CU hints hlen hg) fun r s' hq=>?_);obtain ⟨rfl,h2,h3,h4⟩:=hq;exact ⟨.inl ⟨.bool true,.bool true,[],rfl,fun _=>rfl,.bool true,Pl l _,fun _=>⟨List.Pairwise.nil,fun _ hm=>(nomatch hm)⟩⟩,h2,h3,h4⟩
section
variable {prog:Program} {w:World} {A:Around} {E:b_} {s:Shared} {K:Frag}
end
end HV
namespace L2
open PySem PySem.Spec PyProof.Rows
theorem HW:∀{vs:List Value} {ns:List Int},IntsAre vs ns→Vals (ns.map V.int) vs
 | _,_,.nil=>.nil
 | _,_,.cons n t h=>.cons ⟨t,rfl⟩ (HW h)
def CV(H:Hp):Prop:=∀b,H b=none∨∃o xs,H b=some (.fX o (.lst xs))
variable {K:aE} {k:Nat} {x:Str}
theorem Pn{P:Program}{w:World}{mg mb:dj}{CX:iw}{fa a:Addr}{fd:FuncData}{sp:Sp}{s₁:Shared}{vs:List Value}{ns:List Int}
  (KX:K.In s₁.heap) (HX:s₁.heap.Ns mainGlobals mg) (hb:s₁.heap.Ns builtinsNs mb) (Po:∀x:Str,x ≠ "__name__"→mb x=bootBuiltins x) (Pp:s₁.heap.NoLimit) (hg:s₁.gens = #[])
  (ha:s₁.heap.get? a=some {cls:=.type "list",data:=.seq vs.toArray}) (hi:IntsAre vs ns) (hl:ns.length≤sizeLine) (hr:cV k callerA)
  (F:∀base:Heap,K.In base→base.Ns mainGlobals mg→aW P w K mg base CX k fa fd [x] sp) (Pq:∀(s:Shared) (u:Value),BindsTo s fd ⟨[u],[]⟩ [(x,u)])
  (iZ:∀H:Hp,CV H→a_ K H a (ns.map V.int)→sp [.ref a] H (fun v _=>v=.bl true) fun _ _ _=>False)
  (CW:∀H e s',CX [] H s₁ (fun _ _ _=>False) e s'→False) :
  codeAny (model P w) callerA (.call (.ref fa) ⟨[.ref a],[]⟩) (fun r s'=>r=.ok (.ret (.bool true))∧OldK s₁.heap s'.heap∧s'.os=s₁.os∧AllBare s'.gens) s₁:=by
 have rv:=HW hi;have Pt:=hi.length
 have core:∀H:Hp,CV H→a_ K H a (ns.map V.int)→cL P w H s₁.heap→(∀b,H b≠none→b=a)→(H a≠none→K.lookup a=none)→
   codeAny (model P w) callerA (.call (.ref fa) ⟨[.ref a],[]⟩) (fun r s'=>r=.ok (.ret (.bool true))∧OldK s₁.heap s'.heap∧s'.os=s₁.os∧AllBare s'.gens) s₁:=by
  intro H hO hS aF hA hK;have HY:∀{b:Addr} {o:Obj},s₁.heap.get? b=some o→H b=none→(kY s₁.heap H).get? b=some o:=fun e n=>Nr e n;have wd:∀{b:Addr} {o:Obj} {es:Array DictEntry} {ep:Nat},s₁.heap.get? b=some o→o.data=.dict es ep→H b=none:=fun{b o es ep} e d=>by
   cases q:H b with
   | none=>rfl
   | some u=>
    have e':b=a:=hA b (by rw [q];simp)
    subst e';rw [ha] at e;cases e;have d':Data.seq vs.toArray _=Data.dict es ep:=d;cases d'
  have yT:∀{b:Addr} {m:dj},s₁.heap.Ns b m→(kY s₁.heap H).Ns b m:=fun{b m} ⟨o,es,ep,e,d,r⟩=>⟨o,es,ep,HY e (wd e d),d,r⟩;have HZ:K.In (kY s₁.heap H):=fun b o e=>HY (KX b o e) (by
   cases q:H b with
   | none=>rfl
   | some u=>
    have e':b=a:=hA b (by rw [q];simp)
    subst e';rw [hK (by rw [q];simp)] at e;cases e)
  have hM:Mod K mg (kY s₁.heap H):=⟨HZ,yT HX,⟨mb,yT hb,Po⟩,let ⟨mc,h1,h2⟩:=Pp;⟨mc,yT h1,h2⟩⟩
  have e0:oY P w K mg (kY s₁.heap H) callerA [] s₁ H:=⟨rfl,hM,fun b o e=>Nt e,iP (Nq _ _),trivial,fun b hb=>absurd (show b∈([]:List Addr) from hb) (by simp),aF,.of_eq hg⟩
  refine codeAny_mono ((F _ HZ (yT HX)).run callerA [] s₁ H ⟨[.ref a],[]⟩ [.ref a] [.ref a] _ _ hr e0 (Pq s₁ (.ref a)) (.cons rfl .nil) (iZ H hO hS)) fun r s' h=>?_;cases r with
  | error e=>exact (CW H e s' h).elim
  | ok fl=>
   cases fl with
   | next=>exact False.elim h
   | brk=>exact False.elim h
   | cont=>exact False.elim h
   | ret u=>
    obtain ⟨v,H',os,bare,un,Pu,r',q⟩:=h;have q':v=.bl true:=q;subst q';obtain rfl:u=Value.bool true:=r';refine ⟨rfl,OldK.of_keep fun b o e=>?_,os,bare⟩;cases q:H b with
    | none=>exact un.keep b o e q (by intro z;exact absurd (show b∈([]:List Addr) from z) (by simp)) (by simp)
    | some u=>
     rcases hO b with z | ⟨ob,xs,z⟩;·rw [q] at z;cases z
     ·have z2:=un.fY b ob _ z
      obtain ⟨e1,_⟩:=aF b _ z;obtain ⟨e2,_⟩:=Pu b _ z2;rw [e] at e1;cases e1;exact e2
 cases hk:K.lookup a with
 | some o=>have e:=KX a o hk;rw [ha] at e;cases e;refine core (fun _=>none) (fun _=>.inl rfl) (.inr ⟨_,vs.toArray,_,hk,rfl,rfl,rfl,by rw [dN,Pt];exact hl,by simpa using rv⟩) (fun b u z=>by have z':(none:Option HO)=some u:=z;cases z') (fun b z=>absurd rfl z) fun z=>absurd rfl z
 | none=>
  refine core (fun b=>if b=a then some (.fX {cls:=.type "list",data:=.seq vs.toArray} (.lst (ns.map V.int))) else none) (fun b=>?_) (.inl (.inr ⟨{cls:=.type "list",data:=.seq vs.toArray},ar rfl⟩)) (fun b u z=>?_) (fun b z=>?_) fun _=>hk
  ·by_cases hb:b=a
   ·exact .inr ⟨_,_,ar hb⟩
   ·exact .inl (ao hb)
  ·by_cases hb:b=a
   ·have z':=(ar hb).symm.trans z
    cases z';subst hb;exact ⟨ha,by rw [aT];exact hl,vs,_,rv,ha⟩
   ·have z':=(ao hb).symm.trans z
    cases z'
  ·by_cases hb:b=a
   ·exact hb
   ·exact absurd (ao hb) z
abbrev H_ {K:aE} {h:Heap} (_:K.In h):PySem.W.Frag:=K
variable {n:Nat}
theorem Pw{l:PySem.W.OpenLaw}{q:Program}{loose:List Str}{XP:(Str→Option Value)→Heap→Prop}{YP:World→Heap→Prop}{d:DefRec}{K:Params→PySem.W.Frag}{CX:World→iw}{sp:World→Sp}
  (hn:l.most=some n) (si:n≤sizeLine) (mO:d.params.defaults=[]) (hr:cV k callerA)
  (hY:∀(w:World) (h:Heap),YP w h→(K w.params).In h)
  (F:∀(w:World) (mg:dj) (fa:Addr) (h:Heap),(K w.params).In h→h.Ns mainGlobals mg→mg d.name=some (.ref fa)→
   ∃fd:FuncData,(∀(s:Shared) (u:Value),BindsTo s fd ⟨[u],[]⟩ [(x,u)]) ∧
    ∀base:Heap,(K w.params).In base→base.Ns mainGlobals mg→aW l.prog w (K w.params) mg base (CX w) k fa fd [x] (sp w))
  (iZ:∀(w:World) (H:Hp) (a:Addr) (ns:List Int),ns.length≤n→CV H→a_ (K w.params) H a (ns.map V.int)→sp w [.ref a] H (fun v _=>v=.bl true) fun _ _ _=>False)
  (CW:∀(w:World) (H:Hp) (s:Shared) (e:Value) (s':Shared),CX w [] H s (fun _ _ _=>False) e s'→False) :
  PySem.W.WalkO q loose XP YP l.row.toRowW d [] (fun f vs=>PySem.call f vs):=by
 refine HV.Pm hn mO fun w s₀ s₁ mg mb fa o pm cd doc a vs ns G Y ho hd e7 wj CU hints hlen hg=>?_;have KX:=hY w _ Y;obtain ⟨fd,hb,hF⟩:=F w mg fa _ KX G.T.g wj;exact Pn KX G.T.g G.T.b G.T.builtins G.T.nolimit hg CU hints (ae hlen si) hr hF hb (fun H hO hS=>iZ w H a ns hlen hO hS) fun H e s'=>CW w H s₁ e s'
def inClass(s:Stmt)(j:Nat):Stmt:=match s with
 | .ClassDef _ _ _ body _ _ _ _ _ _ _=>body.getD j (.Pass ⟨0,0,0,0⟩)
 | _=>.Pass ⟨0,0,0,0⟩
def iy(s:Stmt):Arguments:=match s with
 | .FunctionDef _ a _ _ _ _ _ _ _ _=>a
 | _=>{posonlyargs:=[],args:=[],vararg:=none,kwonlyargs:=[],kw_defaults:=[],kwarg:=none,defaults:=[]}
def fD(s:Stmt):List Stmt:=match s with
 | .FunctionDef _ _ b _ _ _ _ _ _ _=>b
 | _=>[]
def aL(s:Stmt):Scope:=match s with
 | .FunctionDef _ _ _ _ _ _ sc _ _ _=>sc
 | _=>{kind:=.function,names:=[],isGenerator:=false,isCoroutine:=false}
abbrev bQ:iw:=fun _ _ _ _ _ _=>False
abbrev E0:XK:=fun _ _ _=>False
theorem ay{X:Cx}:Passes bQ X E0:=fun _ _ _ _ _ _ _ h=>h.elim
structure eO (K:aE) (x qual:Str) (st:Stmt) (f:Addr) (fd:FuncData):Prop where
 ex:∃(oc:Value) (od:Option Addr) (kV doc pm:Value) (an:Option Addr) (aU ct:Value) (fb:Array (Option Value)),
  fd=PySem.W.fnOf x qual (iy st) (fD st) (aL st) .none kV doc pm an aU ct∧K.lookup f=some ⟨oc,od,.func fd,fb⟩∧PySem.W.codeIn K aU qual=true
 kp:PySem.W.keepIn K (.ref f)=true
abbrev aH (K:aE) (x:Str) (st:Stmt) (f:Addr) (fd:FuncData):Prop:=eO K x x st f fd
section
variable {P:Program} {w:World} {K:aE} {mg:dj} {base:Heap}
variable {qual:Str} {st:Stmt} {f:Addr} {fd:FuncData} {N ps:List Str} {sp:Sp}
theorem eO.ok(F:eO K x qual st f fd)(S:bo N ps (aL st))(len:∀vs H Q E,sp vs H Q E→vs.length=ps.length)
  (jy:∀(aU:Value) (A:Around) (outer:List Env) (s:Shared) (H:Hp) (vs:List V) (Q:VK) (E:XK),cV k (A.deeper (envOfC qual (aL st) s.heap.objs.size f aU))→sp vs H Q E→
   ∃t,eE (ix bQ P w K mg base N qual (aL st) f aU A outer s H E).oK (fD st) t∧t {nx:=fun _ H'=>Q .aV H',rt:=Q} (start N vs) H):aW P w K mg base bQ (k+1) f fd ps sp:=by
 obtain ⟨oc,od,kV,doc,pm,an,aU,ct,fb,rfl,lk,e7⟩:=F.ex;refine CH lk e7 S len fun A outer s H vs Q E hr iZ=>?_;obtain ⟨t,h,q⟩:=jy aU A outer s H vs Q E hr iZ;exact ⟨t,h.oK,q⟩
theorem eO.cq(F:eO K x qual st f fd)(S:bo N ps (aL st))
  (jy:∀(aU:Value) (A:Around) (outer:List Env) (s:Shared) (H:Hp) (vs:List V) (Q:VK) (E:XK),cV k (A.deeper (envOfC qual (aL st) s.heap.objs.size f aU))→sp vs H Q E→
   ∃t,eE (ix bQ P w K mg base N qual (aL st) f aU A outer s H E).oK (fD st) t∧t {nx:=fun _ H'=>Q .aV H',rt:=Q} (start N vs) H)
  (len:∀vs H Q E,sp vs H Q E→vs.length=ps.length:=by intro vs H Q E h;repeat first | (obtain ⟨rfl,_⟩:=h;rfl) | (subst h;rfl) | obtain ⟨_,h⟩:=h):aW P w K mg base bQ (k+1) f fd ps sp:=F.ok S len jy
theorem eO.binds(F:eO K x qual st f fd)
  (h:∀(kV doc pm:Value) (an:Option Addr) (aU ct:Value) (us:List Value),us.length=ps.length→bindArgs (PySem.W.fnOf x qual (iy st) (fD st) (aL st) .none kV doc pm an aU ct) ⟨us,[]⟩=pure (ps.zip us)):Binds K fd ps []:=by
 obtain ⟨oc,od,kV,doc,pm,an,aU,ct,fb,rfl,lk,e7⟩:=F.ex;exact .all (h kV doc pm an aU ct)
theorem eO.bN(F:eO K x qual st f fd)
  (h:∀(kV doc pm:Value) (an:Option Addr) (aU ct:Value) (us:List Value),us.length=ps.length→bindArgs (PySem.W.fnOf x qual (iy st) (fD st) (aL st) .none kV doc pm an aU ct) ⟨us,[]⟩=pure (ps.zip us):=by intro _ _ _ _ _ _ us hl;rcases us with _ | ⟨_,_ | ⟨_,_ | ⟨_,_ | ⟨_,_ | ⟨_,_ | ⟨_,_ | ⟨_,_⟩⟩⟩⟩⟩⟩⟩ <;> first | rfl | (simp at hl;done)):Binds K fd ps []:=F.binds h
theorem bO{oc:Value}{od an:Option Addr}{fb:Array (Option Value)}{kV doc pm aU ct:Value}(l:K.lookup f=some ⟨oc,od,.func (PySem.W.fnOf x qual (iy st) (fD st) (aL st) .none kV doc pm an aU ct),fb⟩)
  (c:PySem.W.codeIn K aU qual=true) (k:PySem.W.keepIn K (.ref f)=true):eO K x qual st f (PySem.W.fnOf x qual (iy st) (fD st) (aL st) .none kV doc pm an aU ct):=⟨⟨oc,od,kV,doc,pm,an,aU,ct,fb,rfl,l,c⟩,k⟩
end
theorem jA(h:n≤1000):n<sizeLine:=fV h (by decide)
section
variable {X:Cx}
theorem pv(i:Nat){pos:Pos}(hN:X.N[i]?=some x:=by rfl)(hv:mz X.env.scope x:=by first | exact Or.inl rfl | exact Or.inr (Or.inl rfl) | exact Or.inr (Or.inr rfl))(hd:(x == ("__debug__":Str))=false:=by decide)
  (e7:(x == ("__classdict__":Str))=false:=by decide):PE X (.Name x pos) (gA i):=NA hN hv hd e7
end
variable {A B:Prop}
theorem cO(h:B):if false=true then A else B:=by rw [ao dm];exact h
theorem dG(h:A):if true=true then A else B:=by rw [ar rfl];exact h
theorem bS{c:Prop}[Decidable c](h1:c→A)(h2:¬c→B):if c then A else B:=by
 by_cases h:c
 ·rw [ar h]
  exact h1 h
 ·rw [ao h]
  exact h2 h
def ai(H H':Hp):Prop:=∀b o,H b=some o→H' b=some o
theorem ai.refl(H:Hp):ai H H:=fun _ _ h=>h
variable {H:Hp}
theorem ai.trans{H1 H2:Hp}(a:ai H H1)(b:ai H1 H2):ai H H2:=fun c o h=>b c o (a c o h)
theorem ai.seq{H':Hp}{a:Addr}{xs:List V}(e:ai H H')(h:a_ K H a xs):a_ K H' a xs:=by
 rcases h with (h | ⟨o,h⟩) | h;·exact .inl (.inl (e _ _ h))
 ·exact .inl (.inr ⟨o,e _ _ h⟩)
 ·exact .inr h
end L2
set_option maxHeartbeats 4000000
namespace L2
open PySem PySem.Spec PyProof.Rows
structure yU (P:Program) (w:World) (outer:List Env) (H:Hp) (s:Shared) (H':Hp) (ea C:Addr) (B:Heap) (t:Addr) (s':Shared):Prop where
 os:s'.os=s.os
 bare:AllBare s'.gens
 fl:Heap.FlyingW B outer ea (.ref C) (.ref t) s'.heap
 aF:cL P w H' B
 kb:∀b o,s.heap.get? b=some o→H b=none→b∉cJ outer→B.get? b=some o
 tb:∀b o,s.heap.get? b=some o→b∉cJ outer→∃o',B.get? b=some o'
 sl:∀b o,s.heap.get? b=some o→H b=none→b∈cJ outer→∃l,s'.heap.get? b=some {o with slots:=l}
 frh:∀b∈cJ outer,H b=none
 Px:∀b o,s.heap.get? b=some o→H b=none→H' b=none
 gy:∀b xs,H b=some (.tup xs)→H' b=some (.tup xs)
 fY:∀b o u,H b=some (.fX o u)→H' b=some (.fX o u)
 gz:∀b ps,H b=some (.kX ps)→∃more,H' b=some (.kX (ps++more))
def dP(P:Program)(w:World):iw:=fun outer H s E e s'=>∃ea C H' B t,e=.ref ea∧yU P w outer H s H' ea C B t s'∧E (.ref C) none H'
section
variable {P:Program} {w:World} {outer:List Env} {H H':Hp} {s s':Shared} {ea C t:Addr} {B:Heap}
def ExcAt(ea C:Addr)(h:Heap):Prop:=∃oe,h.get? ea=some oe∧oe.cls=.ref C∧PySem.W.notCls oe=true
def Py(ea C:Addr):HO:=.ext (ExcAt ea C)
end
section
variable {X:Cx} {pins:aY} {σ:St} {H H':Hp} {s s':Shared} {ea C t:Addr} {B:Heap}
structure sG (X:Cx) (E:XK):Prop where
 il:X.stack=X.env::X.outer
 fr:X.env.frame=some X.env.locals
 ex:X.ex=[]
 xe:X.xe=fun e s'=>wpAny (model X.prog X.w) X.A (leaving X.env e) (fun _ fC=>dP X.prog X.w X.outer X.H₀ X.s₀ E e fC) (fun e' fC=>dP X.prog X.w X.outer X.H₀ X.s₀ E e' fC) s'
theorem yV{env:Env}{outer:List Env}{L:Addr}(h:env.frame=some L):cJ (env::outer)=L::cJ outer:=by unfold cJ;rw [yi,h]
variable {E:XK}
theorem yU.leave(L:sG X E)(I:Inv X pins σ H s)(f:yU X.prog X.w X.stack H s H' ea C B t s'){h:Heap}(x:Heap.FlyingW B X.outer ea (.ref C) (.ref t) h)(up:s'.heap.UpToSlots h):yU X.prog X.w X.outer X.H₀ X.s₀ H' ea C B t {s' with heap:=h}:=by
 have nL:∀b o,X.s₀.heap.get? b=some o→b≠X.env.locals:=fun b o e=>ej (dW (b8 e) I.ok.above);have ns:∀b o,X.s₀.heap.get? b=some o→b∉cJ X.outer→b∉cJ X.stack:=fun b o e nb z=>by
  rw [L.il,yV L.fr] at z;rcases dX.mp z with z | z;·exact nL b o e z
  ·exact nb z
 have nx:∀b:Addr,b∉X.ex:=fun b z=>by rw [L.ex] at z;cases z
 refine ⟨f.os.trans I.os,f.bare,x,f.aF,fun b o e n nb=>?_,fun b o e nb=>?_,fun b o e n hb=>?_,I.ok.kZ,fun b o e n=>?_,fun b xs e=>f.gy b xs (I.base.gy b xs e),fun b o u e=>f.fY b o u (I.base.fY b o u e),fun b ps e=>?_⟩;·exact f.kb b o (I.base.keep b o e n nb (nx b)) (I.base.free b o e n (nx b)) (ns b o e nb)
 ·obtain ⟨o',e'⟩:=I.base.there b o e (nx b)
  exact f.tb b o' e' (ns b o e nb)
 ·obtain ⟨l,q⟩:=I.base.slot b o e n hb (nx b)
  have hs:b∈cJ X.stack:=by rw [L.il,yV L.fr];exact gO _ hb
  obtain ⟨l2,q2⟩:=f.sl b _ q (I.base.free b o e n (nx b)) hs;obtain ⟨_,o2,q3,nf⟩:=f.fl.2.2.1.mem hs;rw [q2] at q3;cases q3;obtain ⟨l3,q4⟩:=up b _ q2 nf;exact ⟨l3,q4⟩
 ·obtain ⟨o',e'⟩:=I.base.there b o e (nx b)
  exact f.Px b o' e' (I.base.free b o e n (nx b))
 ·obtain ⟨m1,e1⟩:=I.base.gz b ps e
  obtain ⟨m2,e2⟩:=f.gz b _ e1;exact ⟨m1++m2,by rw [e2,Array.append_assoc]⟩
theorem i4:Passes (dP X.prog X.w) X (fun _ _ _=>False):=fun pins σ H s e s' I h=>by obtain ⟨_,_,_,_,_,_,_,q⟩:=h;exact q.elim
theorem mP(L:sG X E):Passes (dP X.prog X.w) X E:=fun pins σ H s e s' I h=>by
 obtain ⟨ea,C,H',B,t,rfl,f,q⟩:=h;rw [L.xe];refine wpAny_leaves_onW (by rw [I.ok.frames,L.il]) L.fr (by have z:=f.fl;rw [L.il] at z;exact z) fun h' x up=>?_
 exact ⟨ea,C,H',B,t,rfl,f.leave L I x up,q⟩
end
variable {K:aE} {h:Heap}
theorem Pz{C:Addr}{sI:List Value}{newId:String}(cT:K.In h)(hq:PySem.W.excIn K C sI newId=true) :
  ∃bm N nm qn bs hdct sn sub ab col dd k0 k1 k2 k3 k5 mN,h.get? C=some (excClassObj nm qn C N bs bm hdct sn sub ab col dd k0 k1 k2 k3 k5 newId)∧h.Ns N mN∧mN "__init__"=none∧OwnTail h sI bm∧PySem.W.mroIn K C=fun b=>some ((Value.ref C::bm).contains b):=by
 unfold PySem.W.excIn at hq
 split at hq
 ·rename_i sJ cls slt look
  split at hq
  ·rename_i CC rest a0 a1 a2 a3 nn a5 em es
   simp only [yo,jT,Bool.not_eq_true'] at hq;obtain ⟨⟨⟨⟨⟨e1,e2⟩,e3⟩,e4⟩,e5⟩,e6⟩:=hq;subst e1 e2;have PB:PySem.W.mroIn K CC=fun b=>some ((Value.ref CC::rest).contains b):=by
    funext b
    unfold PySem.W.mroIn PySem.W.clsIn;rw [look];simp [em]
   obtain ⟨c1,c2,c3,c4,c5,c6,c7,c8,c9,PD,c11⟩:=cls;dsimp only at em e3 e5 e6;subst em e3;have PF:slt = #[a0,a1,a2,a3,some (.builtin nn),a5]:=by obtain ⟨ll⟩:=slt;simp only at es;rw [es]
   subst PF;exact ⟨rest,c4,c1,c5,c2,c6,c7,c8,c9,PD,sJ,a0,a1,a2,a3,a5,_,cT _ _ look,.of_isNs (PySem.W.isNs_of_in cT e5),PySem.W.nsMap_none_of_in cT e5 e6,PySem.W.tail_of_in cT e4,PB⟩
  ·cases hq
 ·cases hq
section
variable {X:Cx} {E:XK} {x:Str} {C:Addr} {np gW pos:Pos} {e:Expr} {es:List Expr} {ta:TA} {B newId PH:String} {sI:List Value}
def PJ(C:Addr)(E:XK)(ta:TA):TS:=fun _ σ H=>ta σ H fun vs H1=>vs.length≤sizeLine∧E (.ref C) none H1
theorem sL(L:sG X E)(hc:X.calm=true)(FB:ExcBaseFacts B newId PH sI)(hq:PySem.W.excIn X.K C sI newId=true)(hg:Gl X x)(hm:X.mg x=some (.ref C))(ha:PA X (e::es) ta)
  (hs:starEach (e::es) X.env=(false,eval e X.env)::starEach es X.env:=by rfl) (hp:(backTo gW (starEach es X.env)).any (·.1)=false:=by rfl) (hd:(x == ("__debug__":Str))=false:=by decide) :
  PS X (.Raise (some (.Call (.Name x np) (e::es) [] gW)) none pos) (PJ C E ta):=by
 intro pins s σ H D I h;obtain ⟨bm,N,nm,qn,bs,hdct,sn,sub,ab,col,dd,k0,k1,k2,k3,k5,mN,hC,hN,PK,T,_⟩:=Pz I.ok.mod.cT hq
 refine wpAny_Raise_call_subT (C:=C) (nm:=nm) (q:=qn) (N:=N) (bs:=bs) (bm:=bm) (hdct:=hdct) (sn:=sn) (sub:=sub) (ab:=ab) (col:=col) (dd:=dd) (k0:=k0) (k1:=k1) (k2:=k2) (k3:=k3) (k5:=k5) FB (mN:=mN) (T.hasType FB.hasBase) (I.ok.hd hc)
  (by rw [hs];show (false || (backTo gW (starEach es X.env)).any (·.1))=false;rw [hp];rfl) PK (yC I hg hm ⟨rfl,?_⟩ hd)
 have h1:=ha gW pins s σ H _ I h;rw [hs] at h1 ⊢;refine Calls.evalArgs_plain (aG h1 fun us s2 ⟨vs,H1,I1,r,hl,q⟩=>⟨rfl,by rw [←r.length];exact hl,I1.bk _ _ hC,hN.keeps I1.bk,T.keeps I1.bk,fun h' ea mk=>?_⟩)
 rw [L.xe];have nL:∀b o,X.s₀.heap.get? b=some o→b≠X.env.locals:=fun b o q=>ej (dW (b8 q) I1.ok.above);have ns:∀b o,X.s₀.heap.get? b=some o→b∉cJ X.outer→b∉cJ X.stack:=fun b o q nb z=>by
  rw [L.il,yV L.fr] at z;rcases dX.mp z with z | z;·exact nL b o q z
  ·exact nb z
 have nx:∀b:Addr,b∉X.ex:=fun b z=>by rw [L.ex] at z;cases z
 have ff:s2.heap.FunFrames (PySem.W.hideAll s2.heap (cJ X.stack)) (X.env::X.outer):=by have z:=I1.stack;rw [←L.il];exact PySem.W.funFrames_hide z fun env he a hf=>List.mem_filterMap.mpr ⟨env,he,hf⟩
 refine wpAny_leaves_madeW (base:=PySem.W.hideAll s2.heap (cJ X.stack)) (h:=s2.heap) (by rw [I1.ok.frames,L.il]) L.fr (fun b o q=>PySem.W.of_hideAll _ q) ff mk fun h2 t fl _ _ up=>?_
 refine ⟨ea,C,H1,_,t,rfl,⟨I1.os,I1.bare,fl,fun a o e1=>?_,fun b o e1 n nb=>?_,fun b o e1 nb=>?_,fun b o e1 n hb=>?_,I1.ok.kZ,fun b o e1 n=>?_,I1.base.gy,I1.base.fY,I1.base.gz⟩,q⟩
 ·refine (I1.aF a o e1).ik (fun b u hb e2=>yh _ e2 fun z=>?_) (fun _ z=>z) fun _ _ z=>z
  have n0:=I1.vS b z;rcases hb with hb | hb
  ·subst hb
   rw [e1] at n0;cases n0
  ·rw [hb] at n0
   cases n0
 ·exact yh _ (I1.base.keep b o e1 n nb (nx b)) (ns b o e1 nb)
 ·obtain ⟨o',e2⟩:=I1.base.there b o e1 (nx b)
  exact ⟨o',yh _ e2 (ns b o e1 nb)⟩
 ·obtain ⟨l,e2⟩:=I1.base.slot b o e1 n hb (nx b)
  have kg:b∈cJ X.stack:=by rw [L.il,yV L.fr];exact gO _ hb
  obtain ⟨_,o2,e3,nf⟩:=I1.stack.mem kg;rw [e2] at e3;cases e3;obtain ⟨l2,e4⟩:=up b _ (mk.keeps _ _ e2) nf;exact ⟨l2,e4⟩
 ·obtain ⟨o',e2⟩:=I1.base.there b o e1 (nx b)
  exact I1.base.free b o e1 n (nx b)
end
section
variable {X:Cx} {k:Nat} {f C:Addr} {fd:FuncData} {ps:List Str} {sp:Sp} {eK:List V} {ds:List Value} {x m:Str} {p pos apos:Pos} {e o:Expr} {es:List Expr} {ta:TE} {t:TA}
variable {te:TX} {i:Nat} {pos':Pos}
end
section
variable {X:Cx} {pins:aY} {σ:St} {H:Hp} {s:Shared} {ea:Addr}
end
section
variable {M:Model} {A:Around} {E:b_} {h:Heap} {g:Array GenState} {d:Drawn} {t:Nat} {os:OsState} {e:Addr} {oe:Obj} {Q:Bool→Shared→Prop}
variable {nm q nm' q':Str} {C N D N':Addr} {bs bm bs' mQ:List Value} {hdct abF:Bool} {sn sn':List Str} {sub abH:List Value} {ab ab':Bool} {col abJ:Option Bool} {dd dd':Option Addr} {k0 k1 k2 k3 k5 j0 j1 j2 j3 j5:Option Value} {newId abL:String}
end
section
variable {X:Cx} {body:List Stmt} {b₀:Stmt} {abM:List Stmt} {np abN pos:Pos} {x n:Str} {D:Addr} {tb:TSX} {ts:TS} {sI:List Value} {newId:String} {i:Nat}
end
section
variable {P:Program} {w:World} {K:aE} {mg:dj} {base:Heap}
variable {x qual:Str} {st:Stmt} {f:Addr} {fd:FuncData} {N ps:List Str} {k:Nat} {sp:Sp}
theorem eO.CY(F:eO K x qual st f fd)(S:bo N ps (aL st))(len:∀vs H Q E,sp vs H Q E→vs.length=ps.length)
  (jy:∀(aU:Value) (A:Around) (outer:List Env) (s:Shared) (H:Hp) (vs:List V) (Q:VK) (E:XK),cV k (A.deeper (envOfC qual (aL st) s.heap.objs.size f aU))→sp vs H Q E→
   sG (ix (dP P w) P w K mg base N qual (aL st) f aU A outer s H E) E→
   ∃t,eE (ix (dP P w) P w K mg base N qual (aL st) f aU A outer s H E) (fD st) t∧t {nx:=fun _ H'=>Q .aV H',rt:=Q} (start N vs) H):aW P w K mg base (dP P w) (k+1) f fd ps sp:=by
 obtain ⟨oc,od,kV,doc,pm,an,aU,ct,fb,rfl,lk,e7⟩:=F.ex;exact CH lk e7 S len fun A outer s H vs Q E hr iZ=>jy aU A outer s H vs Q E hr iZ ⟨rfl,rfl,rfl,rfl⟩
theorem eO.fE(F:eO K x qual st f fd)(S:bo N ps (aL st))
  (jy:∀(aU:Value) (A:Around) (outer:List Env) (s:Shared) (H:Hp) (vs:List V) (Q:VK) (E:XK),cV k (A.deeper (envOfC qual (aL st) s.heap.objs.size f aU))→sp vs H Q E→
   sG (ix (dP P w) P w K mg base N qual (aL st) f aU A outer s H E) E→
   ∃t,eE (ix (dP P w) P w K mg base N qual (aL st) f aU A outer s H E) (fD st) t∧t {nx:=fun _ H'=>Q .aV H',rt:=Q} (start N vs) H)
  (len:∀vs H Q E,sp vs H Q E→vs.length=ps.length:=by intro vs H Q E h;repeat first | (obtain ⟨rfl,_⟩:=h;rfl) | (subst h;rfl) | obtain ⟨_,h⟩:=h):aW P w K mg base (dP P w) (k+1) f fd ps sp:=F.CY S len jy
end
structure o7 (K:aE) (C:Addr):Prop where
 ci:PySem.W.hasDictIn K C=true
 ga:PySem.W.findIn K (.ref C) "__getattribute__"=some (some (.builtin "BaseException.__getattribute__"))
 gn:PySem.W.findIn K (.ref C) "__getattr__"=some none
 ca:PySem.W.findIn K (.ref C) "__class__"=some (some (.builtin "object.__class__"))
 mo:PySem.W.mroIn K C (.type "object")=some true
 mb:PySem.W.mroIn K C (.type "BaseException")=some true
section
variable {prog:Program} {w:World} {A:Around} {E:b_} {h:Heap} {g:Array GenState} {d:Drawn} {t:Nat} {os:OsState} {K:aE} {a C:Addr} {o:Obj}
theorem PL{R:Result→Shared→Prop}(cT:K.In h)(c:o7 K C)(hx:h.get? a=some o)(hc:o.cls=.ref C)(hq:R (.ok (.ret (.ref C))) ⟨h,g,d,t,os⟩) :
  codeAny (model prog w) A (.call (.builtin "getset_descriptor.__get__") ⟨[.builtin "object.__class__",.ref a,.ref C],[]⟩) R ⟨h,g,d,t,os⟩:=by
 have Ia:(⟨h,g,d,t,os⟩:Shared).TypeIs (.builtin "object.__class__") "getset_descriptor":=B5;have L1:=PySem.W.looks_mroIn (M:=model prog w) cT c.mo;have ow:=F.owner_object_class;refine codeAny_call_builtin F.slot_gs_get.plain F.entry_gs_get (F.slot_gs_get.check _ _ _ _ _ _ _ _ Ia (F.args_gs_get _ _ _) ?_)
 repeat (any_goals (first | assumption | (with_reducible refine vD hx ?_;rw [hc]) | (rw [ow];with_reducible refine L1.at ?_) | wp_step))
 refine ⟨Code.quiet_builtin _ (by decide +kernel),codeAny_builtin F.entry_object_class ?_⟩
 repeat (any_goals (first | assumption | (with_reducible refine vD hx ?_;rw [hc]) | wp_step))
variable {tk:Tok}
theorem PM{Q:Fin→Shared→Prop}(cT:K.In h)(c:o7 K C)(hx:h.get? a=some o)(hc:o.cls=.ref C)(hq:Q (.done (.ret (.ref C))) ⟨h,g,d,t,os⟩) :
  wpAny (model prog w) A (Builtin.«object.__getattribute__» ⟨[.ref a,.str "__class__" tk],[]⟩) Q E ⟨h,g,d,t,os⟩:=by
 have Ia:(⟨h,g,d,t,os⟩:Shared).TypeIs (.builtin "object.__class__") "getset_descriptor":=B5;have L1:=yl (M:=model prog w) cT c.ca;have f5:=B5;have f6:=F.slot_gs_get.lookup;have f7:=F.slot_gs_set.lookup
 repeat (any_goals (first | assumption | (with_reducible refine vD hx ?_;rw [hc]) | with_reducible refine L1.at ?_ | wp_step))
 refine PL cT c hx hc ?_
 repeat (any_goals (first | assumption | wp_step))
theorem PN{M:Model}{nv:Value}{Q:Unit→Shared→Prop}(cT:K.In h)(c:o7 K C)(hx:h.get? a=some o)(hc:o.cls=.ref C)(hq:Q () ⟨h,g,d,t,os⟩) :
  wpAny M A (checkBuiltinCall "BaseException.__getattribute__" ⟨[.ref a,nv],[]⟩) Q E ⟨h,g,d,t,os⟩:=by
 have hk:builtinKind "BaseException.__getattribute__"=some .slot:=by decide +kernel
 have hs:splitId "BaseException.__getattribute__"=some ("BaseException","__getattribute__"):=by decide +kernel
 have L1:=PySem.W.looks_mroIn (M:=M) cT c.mb;have ha:=F.args_bexc_ga (.ref a) nv;simp only [checkBuiltinCall,hk,hs];refine cI ?_;unfold isInstance
 repeat (first | (with_reducible refine vD hx ?_;rw [hc]) | with_reducible refine L1.at ?_ | wp_step)
 exact hq
theorem PQ{fill expr:Bool}{Q:b_}(cT:K.In h)(c:o7 K C)(hx:h.get? a=some o)(hc:o.cls=.ref C)(hq:Q (.ref C) ⟨h,g,d,t,os⟩) :
  wpAny (model prog w) A (getAttrBy (.ref a) (.str "__class__" tk) fill expr) Q E ⟨h,g,d,t,os⟩:=by
 have f3:=F.attrBase_ValueError.ga.bind (.ref a);have z0:(expr && onTheHeap (Value.builtin "BaseException.__getattribute__"))=false:=by cases expr <;> rfl
 have z2:(Value.builtin "BaseException.__getattribute__" == Value.builtin "object.__getattribute__")=false:=by decide +kernel
 have z1:(onTheHeap (Value.ref C) && Value.builtin "BaseException.__getattribute__" == Value.builtin "object.__getattribute__")=false:=by rw [z2];rfl
 have L1:=yl (M:=model prog w) cT c.ga;have L2:=yl (M:=model prog w) cT c.gn
 repeat (any_goals (first | assumption | (with_reducible refine vD hx ?_;rw [hc]) | with_reducible refine L1.at ?_ | with_reducible refine L2.at ?_ | wp_step))
 refine codeAny_call_builtin F.attrBase_ValueError.ga.plain F.entry_bexc_ga (PN cT c hx hc (PM cT c hx hc ?_))
 repeat (any_goals (first | assumption | wp_step))
theorem PR{Q:Option Value→Shared→Prop}(cT:K.In h)(c:o7 K C)(hx:h.get? a=some o)(hc:o.cls=.ref C)(hq:Q (some (.ref C)) ⟨h,g,d,t+1,os⟩) :
  wpAny (model prog w) A (getAttr? (.ref a) "__class__") Q E ⟨h,g,d,t,os⟩:=by
 unfold getAttr? getAttrBy?
 repeat (any_goals (first | assumption | with_reducible apply PQ cT c hx hc | wp_step))
theorem PU(c:o7 K C):PySem.W.KitX K (.ref a) (.ref C) (ExcAt a C) where
 ty:=fun M h _ k=>by obtain ⟨oe,e1,e2,_⟩:=k;exact e2▸(PySem.W.Looks.ld e1).andThen .now
 it:=fun M h cT _=>by
  obtain ⟨cd,hc,_⟩:=PySem.W.any_some c.ci;unfold PySem.W.clsIn at hc
  split at hc
  ·rename_i look
   intro A' Q' E' s' k q;unfold isType loadHead;exact cI (wpAny_loadPart (k _ _ (cT _ _ look)) (eY q))
  ·cases hc
 ne:=fun h tp dd aq n sl cT PV=>by
  obtain ⟨cd,hc,_⟩:=PySem.W.any_some c.ci;refine Bool.eq_false_iff.mpr fun q=>?_;have e:C=tp:=Value.ref.inj (jT.mp q);subst e;unfold PySem.W.clsIn at hc
  split at hc
  ·rename_i look
   have z:=(cT _ _ look).symm.trans PV;cases z
  ·cases hc
 ca:=fun{prog w A E Q s} cT k z=>by obtain ⟨oe,e1,e2,_⟩:=k;obtain ⟨h,g,d,t,os⟩:=s;exact PR cT c e1 e2 z
end
def yW(a:Addr)(h:Heap):Prop:=∃o ep,h.get? a=some o∧o.ExactDict∧o.data=.dict #[] ep∧(a == sysModules)=false
theorem yW.CZ{a:Addr}(e:yW a h):PySem.W.KitAt a "dict" h:=by obtain ⟨o,_,e,c,_⟩:=e;exact ⟨o,e,c.1⟩
def Ib(a:Addr):HO:=.ext (yW a)
inductive wk (K:aE) (H:Hp):V→Value→Prop where
 | of {x:V} {t:Value} (h:iu K H x t):wk K H x t
 | exc {a C:Addr} (e:H a=some (Py a C)) (c:o7 K C):wk K H (.ref a) (.ref C)
 | sJ {a:Addr} (e:H a=some (Ib a)):wk K H (.ref a) (.type "dict")
def Ic:V→Value
 | .ty n=>.type n
 | .ref a=>.ref a
 | _=>.none
def PX:V→Bool
 | .ty _=>true
 | .ref _=>true
 | _=>false
def PY(K:aE):List V→Hp→VK→Prop:=fun xs H Q=>∃x c t b,xs=[x,c]∧PX c=true∧wk K H x t∧PySem.W.kitOne K t (Ic c)=some b∧Q (.bl b) H
variable {X:Cx}
theorem ki(hK:X.K=K:=by rfl):ka X (.builtin "isinstance") (PY K):=by
 intro pins s σ H xs us Q I r h;subst hK;obtain ⟨x,c,t,b,rfl,hc,ty,e,q⟩:=h;obtain ⟨u,cv,rfl,rx,rc⟩:=vals2 r;have ec:cv=Ic c:=by
  cases c with
  | ty n=>exact rc
  | ref a=>exact rc
  | _=>cases hc
 subst ec;cases ty with
 | of ty=>exact OE I rx ty e fun tk=>⟨.bl b,H,I.tok tk,rfl,q⟩
 | @sJ a ea=>cases rx;obtain ⟨k,_,_⟩:=(show d6 X.prog X.w H s.heap a (.ext (yW a)) from I.aF a _ ea);exact ia PySem.W.kitx_dict I.dy k.CZ e (fun z=>nomatch z) fun tk=>⟨.bl b,H,I.tok tk,rfl,q⟩
 | @exc a C ea cc=>cases rx;obtain ⟨k,_,_⟩:=(show d6 X.prog X.w H s.heap a (.ext (ExcAt a C)) from I.aF a _ ea);exact ia (PU cc) I.dy k e (fun z=>nomatch z) fun tk=>⟨.bl b,H,I.tok tk,rfl,q⟩
def gX:List V→List V→Bool
 | [],[]=>true
 | x::xs,y::ys=>sD x y && gX xs ys
 | _,_=>false
def Ie(K:aE)(neg:Bool):R2:=fun x y H Q=>∃a b xs ys,x=.ref a∧y=.ref b∧d7 K H a xs∧d7 K H b ys∧xs.all kh=true∧ys.all kh=true∧Q (.bl (if neg then !gX xs ys else gX xs ys)) H
theorem Ig{A:Around}{s:Shared}:∀{xs ys:List V} {us vs:List Value},Vals xs us→Vals ys vs→xs.all kh=true→ys.all kh=true→
  ∃e:Nat→Bool,(∀j (h1:j<us.length) (h2:j<vs.length),SeqAt.EqAt A s us[j] vs[j] (e j))∧((List.range (min us.length vs.length)).all e && us.length == vs.length)=gX xs ys
 | [],[],_,_,.nil,.nil,_,_=>⟨fun _=>true,fun j h1=>absurd h1 (ou _),by simp [gX]⟩
 | [],_::_,_,_,.nil,.cons _ _,_,_=>⟨fun _=>true,fun j h1=>absurd h1 (ou _),by simp [gX]⟩
 | _::_,[],_,_,.cons _ _,.nil,_,_=>⟨fun _=>true,fun j _ h2=>absurd h2 (ou _),by simp [gX]⟩
 | x::xs,y::ys,u::us,v::vs,.cons r1 t1,.cons r2 t2,f1,f2=>by
  rw [List.all_cons,yo] at f1 f2;obtain ⟨e,h,q⟩:=Ig (A:=A) (s:=s) t1 t2 f1.2 f2.2;refine ⟨fun j=>match j with | 0=>sD x y | k+1=>e k,fun j h1 h2=>?_,?_⟩
  ·cases j with
   | zero=>exact CM r1 r2 f1.1 f2.1
   | succ k=>exact h k (by simpa using h1) (by simpa using h2)
  ·have em:min (u::us).length (v::vs).length=min us.length vs.length+1:=by simp only [fi];lia
   rw [em,List.range_succ_eq_map,List.all_cons,List.all_map];show (sD x y && (List.range (min us.length vs.length)).all e && ((us.length+1) == (vs.length+1)))=(sD x y && gX xs ys);rw [←q];have eb:((us.length+1) == (vs.length+1))=(us.length == vs.length):=by rw [vB,jT,jT];lia
   rw [eb,Bool.and_assoc]
theorem Ih(hu:X.A.units<cLine):cz X (compareOp .Eq) (Ie X.K false):=by
 intro pins s σ H x y v u Q I rx ry h;obtain ⟨a,b,xs,ys,rfl,rfl,h1,h2,f1,f2,q⟩:=h;cases rx;cases ry;obtain ⟨us,r1,t1,_⟩:=I.tuple h1;obtain ⟨vs,r2,t2,_⟩:=I.tuple h2;obtain ⟨e,he,eq⟩:=Ig (A:=X.A.in1) (s:=s) r1 r2 f1 f2;refine SeqAt.eq_tupleAt (e:=e) t1 t2 hu (fun j z1 z2=>by simpa using he j (by simpa using z1) (by simpa using z2)) ⟨.bl (gX xs ys),H,I,?_,q⟩
 show _=Value.bool (gX xs ys);rw [←eq];simp
theorem boot_isinstance:bootBuiltins "isinstance"=some (.builtin "isinstance"):=by decide +kernel
theorem boot_abs:bootBuiltins "abs"=some (.builtin "abs"):=by decide +kernel
theorem boot_min:bootBuiltins "min"=some (.builtin "min"):=by decide +kernel
theorem boot_max:bootBuiltins "max"=some (.builtin "max"):=by decide +kernel
theorem boot_int:bootBuiltins "int"=some (.type "int"):=by decide +kernel
theorem boot_bool:bootBuiltins "bool"=some (.type "bool"):=by decide +kernel
theorem boot_tuple:bootBuiltins "tuple"=some (.type "tuple"):=by decide +kernel
theorem boot_list:bootBuiltins "list"=some (.type "list"):=by decide +kernel
end L2
namespace My
open PySem L2
def jB(n:Int):Bool:=(List.range 32).all fun e=>decide (e<2) || decide (n<(e:Int)*(e:Int)) || decide (n % (e:Int)≠0)
variable {n d:Int}
theorem Ii(h2:n≤997)(hd:2≤d)(hq:d*d≤n)(hm:n % d=0):jB n=false:=by
 have hd2:d<32:=by
  by_cases h:d<32;·exact h
  ·have:32*32≤d*d:=Int.mul_le_mul (by lia) (by lia) (by lia) (by lia)
   lia
 obtain ⟨k,rfl⟩:∃k:Nat,d=(k:Int):=⟨d.toNat,by lia⟩
 cases e:jB n with
 | false=>rfl
 | true=>
  have z:=vE.mp e k (vw.mpr (by lia))
  simp only [Bool.or_eq_true,rD] at z;rcases z with (z | z) | z;·lia
  ·lia
  ·exact absurd hm z
theorem PZ(hq:n<d*d)(hd:2≤d)(hm:∀e:Int,2≤e→e<d→n % e≠0):jB n=true:=by
 refine vE.mpr fun k _=>?_;simp only [Bool.or_eq_true,rD];by_cases h1:k<2;·exact .inl (.inl h1)
 ·by_cases h2:n<(k:Int)*(k:Int)
  ·exact .inl (.inr h2)
  ·refine .inr (hm k (by lia) ?_)
   by_cases h3:(k:Int)<d;·exact h3
   ·have:d*d≤(k:Int)*(k:Int):=Int.mul_le_mul (by lia) (by lia) (by lia) (by lia)
    lia
inductive Td where
 | a (w:Str)
 | b (w:Str) (n:Int)
def Td.vs:Td→List V
 | .a w=>[.str w]
 | .b w n=>[.str w,.int n]
def Td.wm:Td→Bool
 | .a w=>decide (w="fractions")
 | .b _ _=>false
def Td.i5:Td→Bool
 | .a _=>false
 | .b w n=>decide (w="wheel") && (decide (2≤n) && decide (n≤997) && jB n)
def Td.good(d:Td):Bool:=d.wm || d.i5
def Td.prime:Td→V
 | .a _=>.aV
 | .b _ n=>.int n
end My
namespace L2
open PySem PySem.Spec PyProof.Rows
abbrev Cx.bV (X:Cx) (N:List Str) (scope:Scope) (cl:List (Str×Addr)) (s₃:Shared) (H₃:Hp) (fp:List Addr):Cx:=
 {X with N:=N,s₀:=s₃,H₀:=H₃,env:=compEnvC scope cl s₃.heap.objs.size X.env,outer:=X.stack,stack:=X.stack,ex:=fp,fn:=fun _=>false,pn:=[],xe:=fun _ _=>False}
inductive mR (X:Cx):List Expr→TT→Prop where
 | nil:mR X [] (fun _ H Q=>Q true H)
 | one {c:Expr} {t:TT} (h:PT X c t):mR X [c] t
def o8(wi:TI)(ρ:St→St)(tt:TT)(te:TE):TE:=fun σ H Q=>wi σ H fun J H1=>∀D,H1 D=none→∃W:Nat→Nat→List V→Hp→Prop,(∃m,W 0 m [] (upd H1 D (.lst []))) ∧
 ∀i m ys Hc,W i m ys Hc→Hc D=some (.lst ys)∧((J.stop i Hc∧Q (.ref D) Hc)∨(J.go i Hc∧∀x H',J.eI i Hc x H'→tt (some x::ρ σ) H' fun b H2=>
  if b=true then te (some x::ρ σ) H2 fun y H3=>H3 D=some (.lst ys)∧ys.length<sizeLine∧∃m',m'<m∧W (i+1) m' (ys++[y]) (upd H3 D (.lst (ys++[y]))) else ∃m',m'<m∧W (i+1) m' ys H2))
section
variable {X:Cx} {N:List Str} {scope:Scope} {cl:List (Str×Addr)} {x:Str} {px pos:Pos} {iter elt:Expr} {ifs:List Expr} {wi:TI} {ρ:St→St} {tt:TT} {te:TE}
structure C1 (X:Cx) (N:List Str) (scope:Scope) (cl:List (Str×Addr)) (x:Str) (ρ:St→St):Prop where
 yX:closureFor scope X.env=pure cl
 kind:scope.kind=.function
 yY:∀y∈scope.names,y.2≠.cell
 names:∀y∈scope.names,y.2=.local→scope.names.lookup y.1=some .local
 sub:∀p∈cl,X.env.cells.lookup p.1=some p.2
 has:∀y,((relabel scope X.env).names.lookup y=some .cell∨(relabel scope X.env).names.lookup y=some .free)→∃c,cl.lookup y=some c
 n0:N[0]?=some x
 nd:N.Nodup
 hx:scope.names.lookup x=some .local
 yZ:∀(σ:St) (j:Nat) (v:V),(ρ σ)[j]?=some (some v)→∃(i:Nat) (y:Str),N[j+1]?=some y∧X.N[i]?=some y∧σ[i]?=some (some v)∧mz X.env.scope y∧(X.env.kindOf y=some .cell∨X.env.kindOf y=some .free)∧((relabel scope X.env).names.lookup y=some .cell∨(relabel scope X.env).names.lookup y=some .free)
 len:∀σ:St,σ.length=X.N.length→(ρ σ).length+1=N.length
theorem C2{names:List (Str×NameKind)}(h:(names.all fun q=>(q.2 != .cell && q.2 != .free) || (cl.lookup q.1).isSome)=true) :
  ∀y,(names.lookup y=some .cell∨names.lookup y=some .free)→∃c,cl.lookup y=some c:=fun y hy=>by
 have key:∀k:NameKind,(k != .cell && k != .free)=false→names.lookup y=some k→∃c,cl.lookup y=some c:=fun k hk e=>by have z:=vE.mp h (y,k) (kO e);rw [hk,Bool.false_or] at z;exact Option.isSome_iff_exists.mp z
 rcases hy with e | e;·exact key .cell rfl e
 ·exact key .free rfl e
theorem join_some{o:Option (Option V)}{v:V}(h:some o.join=some (some v)):o=some (some v):=by
 cases o with
 | none=>cases h
 | some o=>cases h;rfl
def y4(X:Cx)(sc:Scope):List Str→List Nat→Prop
 | n::ns,i::is=>(X.N[i]?=some n∧mz X.env.scope n∧(X.env.kindOf n=some .cell∨X.env.kindOf n=some .free)∧((relabel sc X.env).names.lookup n=some .cell∨(relabel sc X.env).names.lookup n=some .free))∧y4 X sc ns is
 | _,[]=>True
 | [],_::_=>False
theorem C3{X:Cx}{sc:Scope}:∀{ns:List Str} {is:List Nat},y4 X sc ns is→∀(σ:St) (j:Nat) (v:V),(is.map fun i=>σ[i]?.join)[j]?=some (some v)→∃(i:Nat) (n:Str),ns[j]?=some n∧X.N[i]?=some n∧σ[i]?=some (some v)∧mz X.env.scope n∧(X.env.kindOf n=some .cell∨X.env.kindOf n=some .free)∧((relabel sc X.env).names.lookup n=some .cell∨(relabel sc X.env).names.lookup n=some .free)
 | _,[],_,_,_,_,e=>by cases e
 | [],_::_,h,_,_,_,_=>h.elim
 | n::_,i::_,h,_,0,_,e=>⟨i,n,rfl,h.1.1,join_some e,h.1.2⟩
 | _::_,_::_,h,σ,j+1,v,e=>C3 h.2 σ j v e
theorem gD(is:List Nat)(h1:closureFor scope X.env=pure cl)(h:y4 X scope N.tail is:=by repeat' first | exact True.intro | refine And.intro ⟨rfl,Or.inr (Or.inl rfl),.inl rfl,.inl rfl⟩ ?_)(h2:scope.kind=.function:=by rfl)(h3:∀y∈scope.names,y.2≠.cell:=by decide +kernel)(h4:∀y∈scope.names,y.2=.local→scope.names.lookup y.1=some .local:=by decide +kernel)(h5:∀p∈cl,X.env.cells.lookup p.1=some p.2:=by repeat' first | exact List.forall_mem_nil _ | refine yp.mpr ⟨rfl,?_⟩)(h6:((relabel scope X.env).names.all fun q=>(q.2 != .cell && q.2 != .free) || (cl.lookup q.1).isSome)=true:=by rfl)(h7:N[0]?=some x:=by rfl)(h8:N.Nodup:=by decide +kernel)(h9:scope.names.lookup x=some .local:=by rfl)(hr:∀σ:St,ρ σ=is.map fun i=>σ[i]?.join:=by exact fun _=>rfl)(hl:is.length+1=N.length:=by rfl):C1 X N scope cl x ρ:=
 ⟨h1,h2,h3,h4,h5,C2 h6,h7,h8,h9,fun σ j v e=>by rw [hr] at e;rw [←List.getElem?_tail];exact C3 h σ j v e,fun σ _=>by rw [hr,aT];exact hl⟩
theorem kj(B:C1 X N scope cl x ρ)(hc:X.calm=true)(hi:PI X (.Name x px) iter wi)(ht:∀s₃ H₃ fp,mR (X.bV N scope cl s₃ H₃ fp) ifs tt)(he:∀s₃ H₃ fp,PE (X.bV N scope cl s₃ H₃ fp) elt te)
  (hs:∀x,foldedSetIterable iter X.env x=pure x:=by intro _;rfl):PE X (.ListComp elt [⟨.Name x px,iter,ifs,0⟩] scope pos) (o8 wi ρ tt te):=by
 intro pins s σ H Q I h
 rw [eval_ListComp]
 refine B6 (use:=none) rfl hs B.yX B.kind B.names (aG (hi pins s σ H _ I h) fun v s1 h1=>aG h1 fun v_ s2 h2=>?_)
 obtain ⟨it,fp,tn,J,H2,rfl,I2,T,ir,f2,q2⟩:=h2
 have nD:H2 s2.heap.objs.size=none:=I2.aF.fresh (aN _)
 obtain ⟨W,⟨m0,w0⟩,turn⟩:=q2 _ nD
 refine yk (wpAny_newFunctionEnv B.yY (by intro y hy;simp at hy) (fun h₁ gY gZ=>?_) B.kind)
 dsimp only at gY gZ ⊢
 generalize hD:s2.heap.objs.size=D at nD w0 turn gY gZ ⊢
 generalize eQ:({s2 with heap:=s2.heap.push {cls:=.type "list",dict:=none,data:=.seq ([]:List Value).toArray}}:Shared)=s3
 have I3:Inv X pins σ (upd H2 D (.lst [])) s3:=by
  subst hD eQ
  exact I2.laid (t':=s2.toks) (fun b u e=>dD _ e) (aN _) ⟨b9 _,[],_,.nil,gP _ rfl⟩
 have e3:s3.heap=s2.heap.push {cls:=.type "list",dict:=none,data:=.seq ([]:List Value).toArray}:=by rw [←eQ]
 have g8:∀b o,s2.heap.get? b=some o→s3.heap.get? b=some o:=fun b o e=>by rw [e3];exact dD _ e
 rw [←e3] at gY gZ ⊢
 have below:∀b o,s3.heap.get? b=some o→b≠s3.heap.objs.size:=fun b o e=>ej (b8 e)
 have eS:∀b o,s3.heap.get? b=some o→h₁.get? b=some o:=fun b o e=>gZ.extBut b o (below b o e) (dD _ e)
 have jC:∀b∈fp,∃o,s2.heap.get? b=some o∧∀v,o.data≠.cell v:=T.obj _ _ ir
 have wo:∀b∈fp,b≠D:=fun b hb z=>by
  obtain ⟨o,e,_⟩:=jC b hb
  rw [z,←hD] at e
  exact absurd (b8 e) (gN _)
 have dQ:∀y c,cl.lookup y=some c→X.env.cells.lookup y=some c:=fun y c e=>B.sub (y,c) (kO e)
 have wt:=I3.vS
 have fE:(X.bV N scope cl s3 (upd H2 D (.lst [])) fp).Ok:=by
  refine ⟨I.ok.mod,B.kind,I.ok.glob,I.ok.blt,aN _,fun a b c e1 e2=>I.ok.inj a b c (dQ a c e1) (dQ b c e2),fun y hy=>B.has y hy,(fun _ _ z _=>absurd z dm),(fun _=>I.ok.hd hc),I.ok.frames,.inl rfl,fun b hb=>⟨?_,fun y c e z=>?_⟩,fun b o e=>?_,ae I.ok.ip I3.sz,fun b o e hb=>?_,fun b hb z=>?_,I3.stack,wt⟩
  ·obtain ⟨o,e,_⟩:=jC b hb
   exact below b o (g8 b o e)
  ·exact (f2 b hb).2.2.2.2.1 y c (dQ y c e) z
  ·exact I3.bs b o e
  ·rcases (f2 b hb).2.2.2.1 with z | z
   ·exact I.ok.oG b o e z
   ·exact absurd (dW (b8 e) (ae I.ok.ip z)) (gN _)
  ·rcases dX.mp (I3.vR b z) with z | z
   ·exact (f2 b hb).2.1 z
   ·exact (f2 b hb).2.2.1 z
 have IB:∀tk:Nat,Inv (X.bV N scope cl s3 (upd H2 D (.lst [])) fp) [] (none::ρ σ) (upd H2 D (.lst [])) {s3 with heap:=h₁,toks:=tk}:=fun tk=>by
  refine ⟨fE,rfl,I3.bare,Un.kept eS,⟨_,gY,fun j y v e1 e2 e3=>?_⟩,fun y c e=>?_,?_,fun y c e=>I3.iW y c (dQ y c e),(fun p hp=>nomatch hp),I3.aF.kept eS,?_⟩
  ·cases j with
   | zero=>cases e2
   | succ j=>
    obtain ⟨i,y',a1,a2,a3,a4,a5,a6⟩:=B.yZ σ j v e2
    have gE:N[j+1]?=some y:=e1
    rw [gE] at a1
    cases a1
    obtain ⟨m,hn,hl⟩:=I3.loc
    obtain ⟨u,r,l⟩:=hl i y v a2 a3 a4
    refine ⟨u,r,.inr ⟨a6,?_⟩⟩
    obtain ⟨c,ec⟩:=B.has y a6
    rcases l with ⟨k,_⟩ | ⟨_,c',mS,z⟩
    ·rcases a5 with q | q <;> (rw [k] at q;cases q)
    ·have:=dQ y c ec
     rw [this] at mS
     cases mS
     obtain ⟨o,ho,hd⟩:=z
     exact ⟨c,ec,o,eS _ _ ho,hd⟩
  ·obtain ⟨v,o,ho,hd⟩:=I3.cell y c (dQ y c e)
   exact ⟨v,o,eS _ _ ho,hd⟩
  ·exact I3.aF.fresh (aN _)
  ·show (none::ρ σ).length=N.length
   rw [fi]
   exact B.len σ I.len
 have fin:∀{σ':St} {H':Hp} {s':Shared},Inv (X.bV N scope cl s3 (upd H2 D (.lst [])) fp) [] σ' H' s'→Q (.ref D) H'→compPost (model X.prog X.w) X.A X.xe none (EP X pins σ Q) (.ref D) s3.heap.objs.size (.ok .next) s':=fun{σ' H' s'} J q=>by
  obtain ⟨m,hn,_⟩:=J.loc
  refine ⟨m,hn,fun h' g9=>⟨.ref D,H',?_,rfl,q⟩⟩
  have old:∀b o,s3.heap.get? b=some o→b≠s3.heap.objs.size:=below
  have u1:Un (cJ X.stack) fp (upd H2 D (.lst [])) H' s3.heap h':=by
   refine ⟨fun b o e n hb hx=>?_,fun b o e n hb hx=>?_,J.base.free,fun b o e hx=>?_,J.base.gy,J.base.fY,J.base.gz⟩
   ·exact (g9.2 b (old b o e)).trans (J.base.keep b o e n hb hx)
   ·obtain ⟨sl,z⟩:=J.base.slot b o e n hb hx
    exact ⟨sl,(g9.2 b (old b o e)).trans z⟩
   ·obtain ⟨o',z⟩:=J.base.there b o e hx
    exact ⟨o',(g9.2 b (old b o e)).trans z⟩
  have wu:cL X.prog X.w H' h':=fun b u e=>by
   refine (J.aF b u e).ik (fun c v hc z=>(g9.2 c fun y=>?_).trans z) (fun _ z=>z) fun _ _ z=>z
   have fr:=J.free
   have y':c=s3.heap.objs.size:=y
   rcases hc with hc | hc
   ·rw [←hc,y'] at e
    exact absurd (fr.symm.trans e) (by simp)
   ·rw [y'] at hc
    exact absurd (fr.symm.trans hc) (by simp)
  refine I3.mB (s':={s' with heap:=h'}) (ch:=fp) (J.os) u1 wu J.bare fun b hb=>?_
  obtain ⟨g0,g1,g2,g3,g4,g5⟩:=f2 b hb
  exact ⟨g3,g1,g4,g5⟩
 have gB:∀{H':Hp},(∀b∈fp,H' b=none)→∀b∈fp,k7 (X.bV N scope cl s3 (upd H2 D (.lst [])) fp) [] H' b:=fun hn b hb=>by
  refine ⟨hn b hb,?_,?_,.inl hb,fun y c e z=>(f2 b hb).2.2.2.2.1 y c (dQ y c e) z,fun p hp=>nomatch hp⟩
  ·obtain ⟨o,e,_⟩:=jC b hb
   exact below b o (g8 b o e)
  ·exact fE.oH b hb
 have loop:∀tk:Nat,codeAny (model X.prog X.w) X.A (.compLoop (.ListComp elt [⟨.Name x px,iter,ifs,0⟩] scope pos) 0 (.ref it) (.ref D) (compEnvC scope cl s3.heap.objs.size X.env))
   (compPost (model X.prog X.w) X.A X.xe none (EP X pins σ Q) (.ref D) s3.heap.objs.size) {s3 with heap:=h₁,toks:=tk}:=fun tk=>by
  refine codeAny_compLoop_tests (fun n s'=>∃i ys o H',Inv (X.bV N scope cl s3 (upd H2 D (.lst [])) fp) [] (o::ρ σ) H' s'∧tn i s'.heap∧(∀b∈fp,H' b=none)∧W i n ys H') ?_ m0
   ⟨0,[],none,_,IB tk,T.keep _ _ _ ir fun b hb o e=>eS _ _ (g8 _ _ e),fun b hb=>by rw [b7 (wo b hb)];exact (f2 b hb).1,w0⟩
  rintro n s4 ⟨i,ys,o,H4,I4,mT,mU,w4⟩
  obtain ⟨Ij,wx⟩:=turn i n ys H4 w4
  rcases wx with ⟨stop,qn⟩ | ⟨go,step⟩
  ·refine cS (T.done (X.bV N scope cl s3 (upd H2 D (.lst [])) fp) rfl rfl rfl hc i [] s4 _ H4 (fun _ _=>False) I4 (gB mU) mT stop) (fun r s5 ⟨hr,I5⟩=>?_) fun _ _ z=>z.elim
   subst hr
   exact fin I5 qn
  ·refine cS (T.item (X.bV N scope cl s3 (upd H2 D (.lst [])) fp) rfl rfl rfl hc i [] s4 _ H4 (fun _ _=>False) I4 (gB mU) mT go) (fun r s5 ⟨u,hr,h5⟩=>?_) fun _ _ z=>z.elim
   subst hr
   have z:letOwnedTupleGo (.Name x px) (.ref it) u=pure ():=rfl
   rw [z] at h5
   show wpAny _ _ ((pure ():Sem Unit) >>= fun _=>assign (.Name x px) (compEnvC scope cl s3.heap.objs.size X.env) u) _ _ s5
   refine cI (cS h5 (fun _ s5 ⟨y,H5,I5,r5,y5,gC,oO⟩=>?_) fun _ _ z=>z.elim)
   have oP:=I5.pinned (gB oO) (T.obj _ _ gC)
   have pg:PG (X.bV N scope cl s3 (upd H2 D (.lst [])) fp) (.Name x px) (bH 0):=e_ (i:=0) B.nd B.n0 (.inl (ma B.hx)) (.inr (ma B.hx))
   have again:∀{σ7:St} {H7:Hp} {s7:Shared},Inv (X.bV N scope cl s3 (upd H2 D (.lst [])) fp) ([]++j_ fp s5.heap) σ7 H7 s7→Inv (X.bV N scope cl s3 (upd H2 D (.lst [])) fp) [] σ7 H7 s7∧tn (i+1) s7.heap∧∀b∈fp,H7 b=none:=fun{σ7 H7 s7} I7=>by
    refine ⟨I7.rY,T.keep _ _ _ gC fun b hb o e=>(I7.pin (b,o) (eZ _ (eZ _ (mI hb e)))).1,fun b hb=>?_⟩
    obtain ⟨o,e,d⟩:=T.obj _ _ gC b hb
    exact (I7.pin (b,o) (eZ _ (eZ _ (mI hb e)))).2.1
   refine cS (pg _ s5 _ H5 y u (fun σ2 H6=>σ2=some y::ρ σ∧H6=H5) oP r5 ⟨rfl,rfl⟩) (fun _ s6 ⟨σ6,H6,I6,q6⟩=>?_) fun _ _ z=>z.elim
   obtain ⟨rfl,rfl⟩:=q6
   have wy:=step y _ y5
   have tests:∀{jD:TT},mR (X.bV N scope cl s3 (upd H2 D (.lst [])) fp) ifs jD→∀{R:Bool→Hp→Prop},jD (some y::ρ σ) H6 R→wpAny (model X.prog X.w) X.A
     (forIn ifs true fun c r=>if r=true then do let ok ←isTrue c (compEnvC scope cl s3.heap.objs.size X.env) (eval c (compEnvC scope cl s3.heap.objs.size X.env));pure (ForInStep.yield ok) else pure (ForInStep.yield r))
     (fun ok s7=>∃H7,Inv (X.bV N scope cl s3 (upd H2 D (.lst [])) fp) ([]++j_ fp s5.heap) (some y::ρ σ) H7 s7∧R ok H7) (fun _ _=>False) s6:=fun{jD} p {R} hR=>by
    cases p with
    | nil=>exact wpAny_tests_nil ⟨_,I6,hR⟩
    | one p=>exact wpAny_tests_one (p _ s6 _ _ _ I6 hR)
   refine cS (tests (ht s3 _ fp) wy) (fun ok s7 ⟨H7,I7,q7⟩=>?_) fun _ _ z=>z.elim
   cases ok with
   | false=>
    obtain ⟨m',jE,w7⟩:=q7
    obtain ⟨a1,a2,a3⟩:=again I7
    exact ⟨m',jE,i+1,ys,_,H7,a1,a2,a3,w7⟩
   | true=>
    refine cS (he s3 _ fp _ s7 _ H7 _ I7 q7) (fun ev s8 ⟨z,H8,I8,r8,wC,hz,m',jE,w8⟩=>?_) fun _ _ z=>z.elim
    refine cS (yR (X:=X.bV N scope cl s3 (upd H2 D (.lst [])) fp) _ s8 _ H8 (.ref D) [z] (.ref D) [ev] (fun _ H9=>H9=upd H8 D (.lst (ys++[z]))) I8 rfl (.cons r8 .nil) ⟨D,ys,z,rfl,rfl,wC,hz,rfl⟩) (fun _ s9 ⟨_,H9,I9,_,q9⟩=>?_) fun _ _ z=>z.elim
    subst q9
    obtain ⟨a1,a2,a3⟩:=again I9
    exact ⟨m',jE,i+1,ys++[z],_,_,a1,a2,a3,w8⟩
 have start:=loop (s3.toks+([]:List (Str×Value)).length)
 have es:({s3 with heap:=h₁,toks:=s3.toks+([]:List (Str×Value)).length}:Shared)={s2 with heap:=h₁,toks:=s2.toks+([]:List (Str×Value)).length}:=by rw [←eQ]
 rw [es] at start
 exact B7 start (T.self _ 0 _ _ _ (T.keep _ _ _ ir fun b hb o e=>eS _ _ (g8 _ _ e)) start)
end
def aP(i:Int):Prop:=i.natAbs<2 ^ 2048
variable {i:Int}
theorem aP.log(h:aP i):i.natAbs.log2<2048:=by
 by_cases z:i.natAbs=0;·rw [z];decide
 ·exact (Nat.log2_lt z).mpr h
def y6(i j:Int):Prop:=j≠0∧aP j
def y7(i j:Int):Prop:=aP i∧aP j
theorem y7.ok{j:Int}(h:y7 i j):IntMulOk i j:=by
 have b:∀{k:Int},aP k→Builtin.Int.intBits k≤2048:=fun{k} hk=>by
  have z:=hk.log;unfold Builtin.Int.intBits
  split <;> lia
 unfold IntMulOk;have e:Builtin.Int.intTooBig ((Builtin.Int.intBits i:Int)+(Builtin.Int.intBits j:Int))=false:=by
  unfold Builtin.Int.intTooBig;have h1:=b h.1;have h2:=b h.2;have h3:(4096:Int)≤bitsLine:=by decide +kernel
  exact fM (by lia)
 intro z;rw [yo] at z;have z2:=z.2;rw [show Builtin.Int.intTooBig ((Builtin.Int.intBits i:Int)+(Builtin.Int.intBits j:Int))=false from e] at z2;cases z2
section
variable {X:Cx}
theorem wF:cz X (binaryOp .FloorDiv) (rI y6 fun i j=>.int (i.fdiv j)):=oR fun _ _ _ _ _ _ _ hc q=>floordiv_int hc.1 q (.inl (PyProof.noPylong_of_log2 (dW hc.2.log (by decide))))
theorem fF:cz X (binaryOp .Mult) (rI y7 fun i j=>.int (i*j)):=oR fun _ _ _ _ _ _ _ hc q=>mul_int q hc.ok
def P1(i j:Int):Prop:=0<j∧aP j
theorem C4:cz X (binaryOp .FloorDiv) (rI P1 fun i j=>.int (i / j)):=oR fun i j _ _ _ _ _ hc q=>floordiv_int (Int.ne_of_gt hc.1) (by rw [vA i (Int.le_of_lt hc.1)];exact q) (.inl (PyProof.noPylong_of_log2 (dW hc.2.log (by decide))))
def allR(K:aE):List V→Hp→VK→Prop:=fun xs H Q=>∃(p:Addr) (bs:List Bool),xs=[.ref p]∧a_ K H p (bs.map V.bl)∧Q (.bl (bs.all id)) H
theorem P2{K:aE}(hc:X.calm=true)(hK:X.K=K:=by rfl):ka X (.builtin "all") (allR K):=by
 intro pins s σ H xs us Q I r h;subst hK;obtain ⟨p,bs,rfl,hq,q⟩:=h;obtain ⟨u,rfl,ru⟩:=vals1 r;cases ru;obtain ⟨aq,rv,pl,hz⟩:=I.list hq;have mV:p≠s.heap.objs.size:=by obtain ⟨o,e,_⟩:=pl.isList;exact ej (b8 e)
 have hl:aq.length=bs.length:=by rw [←rv.length,aT]
 refine call_all_walk (wpAny_pyIter_list pl.isList ?_);refine ⟨s.heap.objs.size,_,_,_,_,_,fun i=>bs.getD i true,rfl,Walks.list (A:=X.A.in1) (show X.A.in1.handled=none from I.ok.hd hc) s.heap.objs.size p mV aq.toArray,⟨⟨_,gP _ rfl,rfl,rfl⟩,pl.isList.push _⟩,fun i v s' Q' E' hv o4=>?_,fun h' tk hk=>?_⟩
 ·have r_:aq[i]?=some v:=by simpa using hv
  cases eb:bs[i]? with
  | none=>
   have:=rv.none_of (i:=i) (by rw [fP,eb];rfl)
   rw [this] at r_;cases r_
  | some b=>
   obtain ⟨u,hu,ru⟩:=rv.get (i:=i) (x:=V.bl b) (by rw [fP,eb];rfl)
   rw [hu] at r_;cases r_;cases ru;have e:bs.getD i true=b:=by rw [fk,eb];rfl
   have k_:Q' (bs.getD i true) s':=o4;rw [e] at k_;exact kM k_
 ·refine ⟨.bl (bs.all id),H,I.kept fun b o e=>hk b o (fun z=>?_) (dD _ e),?_,q⟩
  ·exact absurd (b8 e) (by rw [iQ.mp z];exact gN _)
  ·show Value.bool _=Value.bool _
   congr 1
   rw [dN,hl];clear hk q rv pl hz hl hq
   induction bs with
   | nil=>rfl
   | cons b bs ih=>rw [fi,List.range_succ_eq_map,List.all_cons,List.all_map,List.all_cons];show (b && (List.range bs.length).all fun i=>bs.getD i true)=(b && bs.all id);rw [ih]
end
theorem boot_all:bootBuiltins "all"=some (.builtin "all"):=by decide +kernel
def C5:Expr→Bool
 | .Starred _ _=>false
 | _=>true
variable {e:Expr} {es:List Expr}
theorem P4{env:Env}(h:C5 e=true):starEach (e::es) env=(false,eval e env)::starEach es env:=by cases e <;> first | rfl | cases h
theorem aO{X:Cx}{e:Expr}{es:List Expr}{te:TE}{t:TA}(hs:C5 e=true)(ha:PE X e te)(hr:PA X es t):PA X (e::es) (cW te t):=
 OH ha hr (P4 hs)
variable {X:Cx} {te:TE}
theorem aa{t:TA}(ha:PE X e te)(hr:PA X es t)(hs:C5 e=true:=by rfl):PA X (e::es) (cW te t):=aO hs ha hr
theorem i6{X:Cx}{pos:Pos}{i:Nat}{x:Str}{e:Expr}{te:TE}{pos':Pos}(hs:swapsWith e (some (.Name x pos')) pos.line X.env=pure false)(hf:X.fn x=true∨X.env.scope.names.lookup x=some .local)(hN:X.N.Nodup)(hi:X.N[i]?=some x)(hx:Loc X.env.scope x)(he:PE X e te) :
  PS X (.Assign [.Name x pos'] e pos) (mF te (bH i)):=NP hN hi hx he hs hf
variable {pos pos':Pos} {x:Str}
theorem putL(i:Nat)(hN:X.N.Nodup)(he:PE X e te)(hs:swapsWith e (some (.Name x pos')) pos.line X.env=pure false:=by rfl)(hi:X.N[i]?=some x:=by rfl)(hx:X.env.scope.names.lookup x=some .local:=by rfl) :
  PS X (.Assign [.Name x pos'] e pos) (mF te (bH i)):=i6 hs (.inr hx) hN hi (.inl hx) he
theorem mX(i:Nat)(hN:X.N.Nodup)(he:PE X e te)(hs:swapsWith e (some (.Name x pos')) pos.line X.env=pure false:=by rfl)(hf:X.fn x=true∨X.env.scope.names.lookup x=some .local:=by first | exact .inl rfl | exact .inr rfl | assumption)(hi:X.N[i]?=some x:=by rfl)(hx:X.env.scope.names.lookup x=some .cell:=by rfl) :
  PS X (.Assign [.Name x pos'] e pos) (mF te (bH i)):=i6 hs hf hN hi (.inr hx) he
def P5:V→List V→Hp→VK→Prop:=fun x xs H Q=>∃i:Int,x=.int i∧xs=[]∧Q (.int ((Builtin.Int.intBits i:Nat):Int)) H
theorem P6:CL X "int.bit_length" P5:=by intro pins s σ H x xs v us Q I rx rv h;obtain ⟨i,rfl,rfl,q⟩:=h;have P7:=rv.zero;subst P7;obtain ⟨t,rfl⟩:=rx;exact call_int_bit_length ⟨.int ((Builtin.Int.intBits i:Nat):Int),H,I.tok _,⟨_,rfl⟩,q⟩
theorem P8(h:aP i):Builtin.Int.intBits i≤2048:=by
 have z:=h.log;unfold Builtin.Int.intBits
 split <;> lia
end L2
namespace My
open PySem L2
theorem C6(a b:Str):decide (V.str a=V.str b)=decide (a=b):=by
 by_cases h:a=b;·subst h;simp
 ·rw [fM h];exact fM fun e=>h (V.str.inj e)
theorem o9(a b:Int):decide (V.int a=V.int b)=decide (a=b):=by
 by_cases h:a=b;·subst h;simp
 ·rw [fM h];exact fM fun e=>h (V.int.inj e)
variable {K:aE}
theorem y8{T:String}:PySem.W.kitOne K (.type T) (.type T)=some true:=by unfold PySem.W.kitOne;rw [ar (beq_self_eq_true _)]
variable {H:Hp}
theorem aB{p:Addr}{o:HO}(h:H p=none):ai H (upd H p o):=fun b u e=>by rw [b7 (fq e h)];exact e
variable {i:Int}
theorem Ik{α:Type}{xs:List α}(h0:0≤i)(h1:i<xs.length):∃v,dA xs i=some v∧v∈xs:=by
 obtain ⟨k,rfl⟩:∃k:Nat,i=(k:Int):=⟨i.toNat,by lia⟩
 have hk:k<xs.length:=by lia
 exact ⟨xs[k],i3 (by simp [hk]),gj _⟩
theorem o_(v:V):([(("prime":Str),v)]:List (Str×V)).lookup ("prime":Str)=some v:=by simp [List.lookup]
inductive Any (H:Hp):V→Prop where
 | aV:Any H .aV
 | bl (b:Bool):Any H (.bl b)
 | int (i:Int):Any H (.int i)
 | str (x:Str):Any H (.str x)
 | lst {a:Addr} {xs:List V} (e:H a=some (.lst xs)):Any H (.ref a)
 | tup {a:Addr} {xs:List V} (e:H a=some (.tup xs)):Any H (.ref a)
 | sJ {a:Addr} (e:H a=some (Ib a)):Any H (.ref a)
def sM:V→Bool
 | .int _=>true
 | _=>false
def sN:V→Bool
 | .bl _=>true
 | _=>false
def y9(H:Hp):V→Bool
 | .ref a=>(match H a with | some (.tup _)=>true | _=>false)
 | _=>false
variable {v:V}
theorem Any.CZ(h:Any H v):∃T:String,wk K H v (.type T)∧PySem.W.kitOne K (.type T) (.type "int")=some (sM v || sN v)∧PySem.W.kitOne K (.type T) (.type "bool")=some (sN v) ∧
  PySem.W.kitOne K (.type T) (.type "tuple")=some (y9 H v):=by
 cases h with
 | aV=>exact ⟨"NoneType",.of .aV,rfl,rfl,rfl⟩
 | bl b=>exact ⟨"bool",.of (.bl b),rfl,rfl,rfl⟩
 | int i=>exact ⟨"int",.of (.int i),rfl,rfl,rfl⟩
 | str x=>exact ⟨"str",.of (.str x),rfl,rfl,rfl⟩
 | lst e=>exact ⟨"list",.of (.lst e),rfl,rfl,by unfold y9;dsimp only;rw [e];rfl⟩
 | tup e=>exact ⟨"tuple",.of (.tup e),rfl,rfl,by unfold y9;dsimp only;rw [e];rfl⟩
 | sJ e=>exact ⟨"dict",.sJ e,rfl,rfl,by unfold y9;dsimp only;rw [e];rfl⟩
theorem P9(h:sN v=true):sM v=false:=by cases v <;> first | rfl | cases h
theorem fG{m:Str}(e:(m == ("prime":Str))=false):([(("prime":Str),v)]:List (Str×V)).lookup m=none:=by simp [List.lookup,e]
theorem Il(m n:Nat):Nat.gcd n (m % n)=Nat.gcd m n:=by rw [Nat.gcd_comm n,←Nat.gcd_rec,Nat.gcd_comm]
theorem y_(a:Int):(if a<0 then -a else a)=(a.natAbs:Int):=by split <;> lia
def lowG(a b:Int):Int:=if b<0 then 0-(Int.gcd a b:Int) else (Int.gcd a b:Int)
variable {b:Int}
theorem pb{a:Int}(h:b≠0):0<Int.gcd a b:=B8 _ (gk.mpr h)
theorem P_{a:Int}(h:b≠0)(m:aP b):Int.gcd a b<2 ^ 2048:=fV (Nat.gcd_le_right _ (gk.mpr h)) m
theorem Im{a:Int}(h:b≠0)(m:aP b):y6 0 (lowG a b):=by
 have h1:=pb (a:=a) h;have h2:=P_ (a:=a) h m;unfold lowG;refine ⟨by split <;> lia,?_⟩
 unfold aP
 split
 ·rw [show (0-(Int.gcd a b:Int)).natAbs=Int.gcd a b by lia];exact h2
 ·rw [Int.natAbs_natCast];exact h2
theorem aP.of_lt(h1:-(10 ^ 70)<i)(h2:i<10 ^ 70):aP i:=by
 have h3:i.natAbs<2 ^ 240:=by lia
 exact dW h3 (dn (by decide) (by decide))
def Qa:Sp:=fun vs H Q _=>∃v:V,vs=[v]∧Any H v∧Q (.bl (sM v)) H
def Qb:Sp:=fun vs H Q _=>∃a b:Int,vs=[.int a,.int b]∧aP b∧Q (.int (Int.gcd a b:Int)) H
def Qc:Sp:=fun vs H Q _=>∃n:Int,vs=[.int n]∧2≤n∧n≤997∧Q (.bl (jB n)) H
def Qd:Sp:=fun vs H Q _=>∃(p:Addr) (d:Td),vs=[.ref p]∧H p=some (.tup d.vs)∧Q (.bl d.wm) H
def Qe:Sp:=fun vs H Q _=>∃(p:Addr) (d:Td),vs=[.ref p]∧H p=some (.tup d.vs)∧Q (.bl d.i5) H
def Qf(C N:Addr):Sp:=fun vs H Q E=>∃(x dx p:Addr) (d:Td),vs=[.ref x,.ref p]∧H x=some (.ins C dx [])∧H p=some (.tup d.vs) ∧
 (d.good=true→Q .aV (upd H x (.ins C dx [("prime",d.prime)])))∧(d.good=false→E (.ref N) none H)
def df(C:Addr)(H:Hp)(x:Addr)(q:Int):Prop:=∃dx,H x=some (.ins C dx [("prime",if q=0 then .aV else .int q)])
variable {H':Hp} {q:Int}
theorem df.mono{C:Addr}{x:Addr}(h:df C H x q)(s:ai H H'):df C H' x q:=by obtain ⟨dx,e⟩:=h;exact ⟨dx,s _ _ e⟩
def Qg:Sp:=fun vs H Q _=>∃a b:Int,vs=[.int a,.int b]∧b≠0∧aP b∧∀(q:Addr) (H':Hp),ai H H'→H' q=some (.tup [.int (a.fdiv (lowG a b)),.int (b.fdiv (lowG a b))])→Q (.ref q) H'
def za(K:aE):Sp:=fun vs H Q _=>∃(a:Addr) (ns:List Int),vs=[.ref a]∧a_ K H a (ns.map V.int)∧ns.length≤63∧∀H',Q (.bl true) H'
theorem wH{u v:Int}(hu:0<u)(h:0<u*v):0<v:=by
 by_cases z:0<v;·exact z
 ·have y:=jU (show v≤0 by lia) (show 0≤u by lia)
  rw [cF] at y;lia
theorem C7{a:Int}(h:∀d:Nat,(d:Int)∣a→(d:Int)∣b→d=1):Int.gcd a b=1:=h _ (vF ..) (ox ..)
variable {d:Nat}
theorem C8{a:Int}(h:Int.gcd a b=1)(h1:(d:Int)∣a)(h2:(d:Int)∣b):d=1:=by have z:(d:Int)∣((Int.gcd a b:Nat):Int):=Int.dvd_coe_gcd h1 h2;rw [h] at z;exact Nat.dvd_one.mp (Int.natCast_dvd_natCast.mp z)
variable {c:Int}
theorem C9{a:Int}(h:Int.gcd b c=1)(h1:(d:Int)∣b)(h2:(d:Int)∣a*c):(d:Int)∣a:=by
 have hc:Nat.Coprime d c.natAbs:=by have z:Nat.Coprime b.natAbs c.natAbs:=h;exact Nat.Coprime.coprime_dvd_left (Int.ofNat_dvd_left.mp h1) z
 have z:d∣a.natAbs*c.natAbs:=by rw [←a7];exact Int.ofNat_dvd_left.mp h2
 exact Int.ofNat_dvd_left.mpr (hc.dvd_of_dvd_mul_right z)
theorem Io{a:Int}(h1:Int.gcd a b=1)(h2:Int.gcd a c=1):Int.gcd a (b*c)=1:=by refine C7 fun d x y=>?_;exact C8 h1 x (C9 (a:=b) (b:=a) (c:=c) h2 x y)
theorem Qh{a:Int}(h:Int.gcd a b=1):Int.gcd b a=1:=by rw [Int.gcd_comm];exact h
theorem Ip{a:Int}(h:b≠0):Int.gcd (a / (Int.gcd a b:Int)) (b / (Int.gcd a b:Int))=1:=by have z:0<Int.gcd a b:=B8 _ (gk.mpr h);exact Int.gcd_ediv_gcd_ediv_gcd z
structure iz (x m:Int):Prop where
 pos:1≤m
 zb:Int.gcd x m=1
def mY(x:Int):Prop:=x.natAbs≤10 ^ 300
theorem Qi:(10:Nat) ^ 300<2 ^ 2048:=by decide +kernel
def Qj(C:Addr)(fr:Int→Int→Int→Int→Int)(rm:Int→Int→Int):Sp:=fun vs H Q _=>∃(z:Addr) (q:Int) (v u:V),vs=[.ref z,v,u]∧df C H z q ∧
  ((q=0∧∃(p r:Addr) (x m y n:Int),v=.ref p∧u=.ref r∧H p=some (.tup [.int x,.int m])∧H r=some (.tup [.int y,.int n])∧iz x m∧iz y n∧mY x∧mY m∧mY y∧mY n ∧
    ∀(r':Addr) (H':Hp) (a d:Int),ai H H'→H' r'=some (.tup [.int a,.int d])→iz a d→a*(m*n)=fr x m y n*d→Q (.ref r') H') ∨
   (2≤q∧∃i j:Int,v=.int i∧u=.int j∧0≤i∧i<1000∧Q (.int (rm i j % q)) H))
def ax(p:Int):Prop:=p=0∨(2≤p∧p≤997∧jB p=true)
inductive aZ (B:Nat) (H:Hp):Int→V→Int→Int→Prop where
 | bR {p:Addr} {x m:Int} (e:H p=some (.tup [.int x,.int m])) (l:iz x m) (bx:x.natAbs≤B) (bm:m.natAbs≤B):aZ B H 0 (.ref p) x m
 | rem {q i:Int} (h0:0≤i) (h1:i<q) (h2:q≤997):aZ B H q (.int i) i 1
theorem aZ.mono{B:Nat}{x m:Int}(h:aZ B H q v x m)(s:ai H H'):aZ B H' q v x m:=by
 cases h with
 | bR e l bx bm=>exact .bR (s _ _ e) l bx bm
 | rem h0 h1 h2=>exact .rem h0 h1 h2
theorem Iq{a:Int}(h:1≤b):∃u d:Int,a.fdiv (lowG a b)=u∧b.fdiv (lowG a b)=d∧iz u d∧u.natAbs≤a.natAbs∧d.natAbs≤b.natAbs:=by
 have hp:=pb (a:=a) (b:=b) (by lia)
 have e:lowG a b=(Int.gcd a b:Int):=by unfold lowG;rw [ao (by lia)]
 rw [e]
 refine ⟨a / (Int.gcd a b:Int),b / (Int.gcd a b:Int),vA _ (by lia),vA _ (by lia),⟨?_,Ip (by lia)⟩,md ..,md ..⟩
 obtain ⟨b',eb⟩:=ox (a:=a) (b:=b)
 have z:b / (Int.gcd a b:Int)=b':=by
                       conv=>lhs;lhs;rw [eb]
                       exact me _ (by lia)
 rw [z]
 exact wH (u:=(Int.gcd a b:Int)) (by lia) (by rw [←eb];lia)
theorem zc{u d T B:Int}(l:iz u d)(hB:0<B)(e:u*B=T*d):d≤B∧u.natAbs≤T.natAbs:=by
 have h0:=l.pos;have hd:d∣B:=by
  have z:((d.natAbs:Nat):Int)∣B:=C9 (a:=B) (b:=d) (c:=u) (Qh l.zb) (Int.natAbs_dvd.mpr (iR d)) ⟨T*(d / (d.natAbs:Int)),by
   have q:(d.natAbs:Int)=d:=by lia
   rw [q,Int.ediv_self (by lia),fO,jV B u,e,jV]⟩
  exact Int.natAbs_dvd.mp z
 have hle:=rE hB hd;refine ⟨hle,?_⟩;have z:u.natAbs*B.natAbs=T.natAbs*d.natAbs:=by rw [←a7,e,a7]
 have z2:T.natAbs*d.natAbs≤T.natAbs*B.natAbs:=dY _ (by lia)
 rw [←z] at z2;exact B9 z2 (by lia)
theorem C_(h1:2≤q)(h2:q≤997)(hp:jB q=true)(b1:1≤b)(b2:b<q):Int.gcd q b=1:=by
 have gp:0<Int.gcd q b:=B8 _ (gk.mpr (by lia))
 by_cases g1:Int.gcd q b=1;·exact g1
 exfalso
 obtain ⟨k,ek⟩:=vF (a:=q) (b:=b);have hb:=rE (by lia) (ox (a:=q) (b:=b))
 generalize Int.gcd q b=g at *;have kp:0<k:=wH (u:=(g:Int)) (by lia) (by rw [←ek];lia)
 have k2:k≠1:=fun z=>by rw [z,fO] at ek;lia
 have no:∀d:Int,2≤d→d*d≤q→q % d=0→False:=fun d x y z=>by rw [Ii h2 x y z] at hp;cases hp
 by_cases c:(g:Int)≤k;·exact no g (by lia) (by rw [ek];exact jU c (by lia)) (by rw [ek];exact Int.mul_emod_right ..)
 ·exact no k (by lia) (by rw [ek];exact Int.mul_le_mul_of_nonneg_right (by lia) (by lia)) (by rw [ek];exact Int.mul_emod_left ..)
structure lq (q b last lt now nt:Int):Prop where
 l:∃s,last=lt*b+s*q
 n:∃s,now=nt*b+s*q
 zb:Int.gcd last now=1
 pos:1≤now
 less:now≤last
variable {last nt:Int}
theorem lq.step{lt now:Int}(h:lq q b last lt now nt)(h1:1<now):lq q b now nt (last-last / now*now) (lt-last / now*nt)∧last-last / now*now<now:=by
 obtain ⟨⟨s,es⟩,⟨r,er⟩,c,p,le⟩:=h;have e:last-last / now*now=last % now:=by have z:=B_ last now;rw [jV] at z;lia
 have lt1:=dJ last (show 0<now by lia)
 have ge:=du last (show now≠0 by lia)
 have c':Int.gcd now (last % now)=1:=C7 fun d x y=>C8 c (by have z:=B_ last now;rw [←z];exact Int.dvd_add y (jj x (vG ..))) x
 have nz:last % now≠0:=fun z=>by rw [z,Int.gcd_zero_right] at c';lia
 refine ⟨⟨⟨r,er⟩,⟨s-last / now*r,?_⟩,by rw [e];exact c',by lia,by lia⟩,by lia⟩
 generalize last / now=f;rw [es,er,Int.sub_mul,Int.sub_mul,jW,ie,ie];lia
theorem lq.done{lt:Int}(h:lq q b last lt 1 nt)(hq:2≤q):(nt % q*b) % q=1:=by
 obtain ⟨s,e⟩:=h.n;have z:nt*b=1+(-s)*q:=by rw [Int.neg_mul];lia
 have y:nt % q*b % q=nt*b % q:=by rw [vH (nt % q) b,Int.emod_emod,←vH]
 rw [y,z,Int.add_mul_emod_self_right];exact mh (by lia) (by lia)
theorem lq.start(h1:2≤q)(h2:q≤997)(hp:jB q=true)(b1:1≤b)(b2:b<q):lq q b q 0 b 1:=
 ⟨⟨1,by lia⟩,⟨0,by lia⟩,C_ h1 h2 hp b1 b2,b1,by lia⟩
end My
namespace L2
open PySem PySem.Spec PyProof.Rows
def Ir(K:aE):R2:=fun x y H Q=>(∃a xs i,x=.ref a∧y=.int i∧d7 K H a xs∧Q (.bl false) H)∨(∃a xs i,x=.int i∧y=.ref a∧d7 K H a xs∧Q (.bl false) H)∨Ie K false x y H Q∨G4 x y H Q
theorem Iu{X:Cx}(hu:X.A.units<cLine):cz X (compareOp .Eq) (Ir X.K):=by
 intro pins s σ H x y v u Q I rx ry h;rcases h with ⟨a,xs,i,rfl,rfl,h1,q⟩ | ⟨a,xs,i,rfl,rfl,h1,q⟩ | h | h
 ·cases rx
  obtain ⟨t,rfl⟩:=ry;obtain ⟨us,r1,t1,_⟩:=I.tuple h1;exact SeqAt.RcAt.tuple_int i t t1 hu _ _ _ _ ⟨.bl false,H,I,rfl,q⟩
 ·cases ry
  obtain ⟨t,rfl⟩:=rx;obtain ⟨us,r1,t1,_⟩:=I.tuple h1;exact SeqAt.RcAt.int_tuple i t t1 hu _ _ _ _ ⟨.bl false,H,I,rfl,q⟩
 ·exact Ih hu pins s σ H x y v u Q I rx ry h
 ·exact dO pins s σ H x y v u Q I rx ry h
end L2
namespace My
open PySem L2
def Qk(N:Addr):Sp:=fun vs H Q E=>∃q b:Int,vs=[.int q,.int b]∧2≤q∧q≤997∧jB q=true∧0≤b∧b<q∧(b=0→E (.ref N) none H)∧(b≠0→∀r:Int,0≤r→r<q→(r*b) % q=1→Q (.int r) H)
def Ql(N:Addr):Sp:=fun vs H Q E=>∃q i j:Int,vs=[.int q,.int i,.int j]∧2≤q∧q≤997∧jB q=true∧0≤i∧i<q∧0≤j∧j<q∧(j=0→E (.ref N) none H)∧(j≠0→∀r:Int,0≤r→r<q→(r*j) % q=i→Q (.int r) H)
theorem Qm{q i j r:Int}(hq:2≤q)(i0:0≤i)(i1:i<q)(h:(r*j) % q=1):(i*r % q*j) % q=i:=by
 have y:i*r % q*j % q=i*(r*j) % q:=by rw [vH (i*r % q) j,Int.emod_emod,←vH,ie]
 rw [y,vH,h,mh i0 i1,fO,mh i0 i1]
end My
namespace L2
open PySem PySem.Spec PyProof.Rows
structure iA (K:aE) (x qual:Str) (st:Stmt) (i:Int) (f:Addr) (fd:FuncData):Prop where
 ex:∃(oc:Value) (od:Option Addr) (kV doc pm:Value) (an:Option Addr) (aU ct:Value) (fb:Array (Option Value)) (dT:Addr) (tk:Tok) (mZ:Value) (m4:Option Addr) (n:Nat) (m6:Array (Option Value)),
  fd=PySem.W.fnOf x qual (iy st) (fD st) (aL st) (.ref dT) kV doc pm an aU ct∧K.lookup f=some ⟨oc,od,.func fd,fb⟩∧PySem.W.codeIn K aU qual=true∧K.lookup dT=some ⟨mZ,m4,.seq #[.int i tk] n,m6⟩
 kp:PySem.W.keepIn K (.ref f)=true
section
variable {P:Program} {w:World} {K:aE} {mg:dj} {base:Heap}
variable {x qual:Str} {st:Stmt} {i:Int} {f:Addr} {fd:FuncData} {ps:List Str}
theorem iA.CY{N:List Str}{k:Nat}{sp:Sp}(F:iA K x qual st i f fd)(S:bo N ps (aL st))(len:∀vs H Q E,sp vs H Q E→vs.length=ps.length)
  (jy:∀(aU:Value) (A:Around) (outer:List Env) (s:Shared) (H:Hp) (vs:List V) (Q:VK) (E:XK),cV k (A.deeper (envOfC qual (aL st) s.heap.objs.size f aU))→sp vs H Q E→
   sG (ix (dP P w) P w K mg base N qual (aL st) f aU A outer s H E) E→
   ∃t,eE (ix (dP P w) P w K mg base N qual (aL st) f aU A outer s H E) (fD st) t∧t {nx:=fun _ H'=>Q .aV H',rt:=Q} (start N vs) H):aW P w K mg base (dP P w) (k+1) f fd ps sp:=by
 obtain ⟨oc,od,kV,doc,pm,an,aU,ct,fb,dT,tk,mZ,m4,n,m6,rfl,lk,e7,ld⟩:=F.ex;exact CH lk e7 S len fun A outer s H vs Q E hr iZ=>jy aU A outer s H vs Q E hr iZ ⟨rfl,rfl,rfl,rfl⟩
theorem zd{dT:Addr}{oc:Value}{od an:Option Addr}{fb:Array (Option Value)}{kV doc pm aU ct:Value}{tk:Tok}{mZ:Value}{m4:Option Addr}{n:Nat}{m6:Array (Option Value)}
  (l:K.lookup f=some ⟨oc,od,.func (PySem.W.fnOf x qual (iy st) (fD st) (aL st) (.ref dT) kV doc pm an aU ct),fb⟩)
  (c:PySem.W.codeIn K aU qual=true) (k:PySem.W.keepIn K (.ref f)=true) (ld:K.lookup dT=some ⟨mZ,m4,.seq #[.int i tk] n,m6⟩):iA K x qual st i f (PySem.W.fnOf x qual (iy st) (fD st) (aL st) (.ref dT) kV doc pm an aU ct):=
 ⟨⟨oc,od,kV,doc,pm,an,aU,ct,fb,dT,tk,mZ,m4,n,m6,rfl,l,c,ld⟩,k⟩
theorem iA.binds(F:iA K x qual st i f fd)
  (h:∀(s:Shared) (dT:Addr) (kV doc pm:Value) (an:Option Addr) (aU ct:Value) (tk:Tok) (o:Obj) (n:Nat) (us:List Value),s.heap.get? dT=some o→o.data=.seq #[.int i tk] n→us.length=ps.length→
   BindsTo s (PySem.W.fnOf x qual (iy st) (fD st) (aL st) (.ref dT) kV doc pm an aU ct) ⟨us,[]⟩ (ps.zip us)):Binds K fd ps []:=by
 obtain ⟨oc,od,kV,doc,pm,an,aU,ct,fb,dT,tk,mZ,m4,n,m6,rfl,lk,e7,ld⟩:=F.ex;intro s us X hl;rw [ot] at hl ⊢;exact h s dT kV doc pm an aU ct tk _ n us (X _ _ ld) rfl hl
theorem iA.Qn(F:iA K x qual st i f fd)
  (h:∀(s:Shared) (dT:Addr) (kV doc pm:Value) (an:Option Addr) (aU ct:Value) (tk:Tok) (o:Obj) (n:Nat) (us:List Value),s.heap.get? dT=some o→o.data=.seq #[.int i tk] n→us.length+1=ps.length→
   BindsTo s (PySem.W.fnOf x qual (iy st) (fD st) (aL st) (.ref dT) kV doc pm an aU ct) ⟨us,[]⟩ (ps.zip (us++[.int i tk]))):∃v,Vals [V.int i] [v]∧Binds K fd ps [v]:=by
 obtain ⟨oc,od,kV,doc,pm,an,aU,ct,fb,dT,tk,mZ,m4,n,m6,rfl,lk,e7,ld⟩:=F.ex;refine ⟨.int i tk,.cons ⟨tk,rfl⟩ .nil,fun s us X hl=>?_⟩;exact h s dT kV doc pm an aU ct tk _ n us (X _ _ ld) rfl (by simpa using hl)
theorem iA.Qo{y:Str}(F:iA K x qual st i f fd)
  (h:∀(s:Shared) (dT:Addr) (kV doc pm:Value) (an:Option Addr) (aU ct:Value) (tk:Tok) (o:Obj) (n:Nat) (us ws:List Value),s.heap.get? dT=some o→o.data=.seq #[.int i tk] n→ws.length=1→us.length+1=ps.length→
   BindsTo s (PySem.W.fnOf x qual (iy st) (fD st) (aL st) (.ref dT) kV doc pm an aU ct) ⟨us,[y].zip ws⟩ (ps.zip (us++ws))) :
  ∀(s:Shared) (us ws:List Value),K.In s.heap→ws.length=1→us.length+1=ps.length→BindsTo s fd ⟨us,[y].zip ws⟩ (ps.zip (us++ws)):=by
 obtain ⟨oc,od,kV,doc,pm,an,aU,ct,fb,dT,tk,mZ,m4,n,m6,rfl,lk,e7,ld⟩:=F.ex;intro s us ws X hw hl;exact h s dT kV doc pm an aU ct tk _ n us ws (X _ _ ld) rfl hw hl
end
section
variable {X:Cx} {CX:iw} {k:Nat} {f C:Addr} {fd:FuncData} {ps:List Str} {y:Str} {sp:Sp} {E:XK} {m:Str} {pos apos ON:Pos} {e e' o:Expr} {ta:TE} {t tk:TA}
end
end L2
namespace My
open PySem L2
def fH(a b:Int):Int:=a.fdiv (lowG a b)
def fI(a b:Int):Int:=b.fdiv (lowG a b)
variable {b:Int}
theorem Dc{a:Int}(hb:b≠0):iz (fH a b) (fI a b)∧fH a b*b=a*fI a b∧(fH a b).natAbs≤a.natAbs∧(fI a b).natAbs≤b.natAbs:=by
 have gp:=pb (a:=a) hb;have c:=Ip (a:=a) hb;obtain ⟨a',ea⟩:=vF (a:=a) (b:=b);obtain ⟨b',eb⟩:=ox (a:=a) (b:=b);unfold fH fI lowG;generalize Int.gcd a b=g at *;have g0:(g:Int)≠0:=by lia
 have ga:a / (g:Int)=a':=by rw [ea];exact me _ g0
 have gb:b / (g:Int)=b':=by rw [eb];exact me _ g0
 rw [ga,gb] at c;have la:a'.natAbs≤a.natAbs:=by rw [←ga];exact md ..
 have lb:b'.natAbs≤b.natAbs:=by rw [←gb];exact md ..
 have cr:a'*b=a*b':=by rw [ea,eb];simp only [ie,jV,Int.mul_left_comm]
 by_cases h:b<0
 ·have d1:(0-(g:Int))∣a:=⟨-a',by rw [ea,rF,Int.neg_mul_neg]⟩
  have d2:(0-(g:Int))∣b:=⟨-b',by rw [eb,rF,Int.neg_mul_neg]⟩
  rw [ar h,yq d1,yq d2,rF,Int.ediv_neg,Int.ediv_neg,ga,gb];refine ⟨⟨?_,by rw [Int.neg_gcd,Int.gcd_neg];exact c⟩,?_,?_,?_⟩
  ·have z:0 < -b':=wH (u:=(g:Int)) (by lia) (by rw [gq,←eb];lia)
   lia
  ·rw [Int.neg_mul,gq,cr]
  ·rw [Int.natAbs_neg];exact la
  ·rw [Int.natAbs_neg];exact lb
 ·rw [ao h,yq ⟨a',ea⟩,yq ⟨b',eb⟩,ga,gb]
  have z:0<b':=wH (u:=(g:Int)) (by lia) (by rw [←eb];lia)
  exact ⟨⟨by lia,c⟩,cr,la,lb⟩
theorem Iv(a:Int):fH a 1=a∧fI a 1=1:=by
 unfold fH fI lowG;rw [yr,ao (by decide)]
 exact ⟨Int.fdiv_one a,Int.fdiv_one 1⟩
def Qp(N:Addr):Sp:=fun vs H Q E=>∃a b:Int,vs=[.int a,.int b]∧aP b∧(b=0→E (.ref N) none H)∧(b≠0→∀(r:Addr) (H':Hp),ai H H'→H' r=some (.tup [.int (fH a b),.int (fI a b)])→Q (.ref r) H')
def kl(q b:Int):Prop:=if q=0 then b=0 else b % q=0
def pd(H:Hp)(q:Int)(v:V)(a b:Int):Prop:=
 (q=0∧∃r:Addr,v=.ref r∧H r=some (.tup [.int (fH a b),.int (fI a b)]))∨(2≤q∧∃r:Int,v=.int r∧0≤r∧r<q∧(r*(b % q)) % q=a % q)
theorem pd.mono{H H':Hp}{q:Int}{v:V}{a:Int}(h:pd H q v a b)(s:ai H H'):pd H' q v a b:=by
 rcases h with ⟨h,r,e,h2⟩ | h;·exact .inl ⟨h,r,e,s _ _ h2⟩
 ·exact .inr h
def Qq(C N:Addr):Sp:=fun vs H Q E=>∃(z:Addr) (q a b:Int),vs=[.ref z,.int a,.int b]∧df C H z q∧ax q∧aP b ∧
 (kl q b→E (.ref N) none H)∧(¬kl q b→∀(v:V) (H':Hp),ai H H'→pd H' q v a b→Q v H')
end My
namespace L2
open PySem PySem.Spec PyProof.Rows
section
variable {X:Cx}
end
end L2
namespace My
open PySem L2
inductive km (H:Hp):Int→V→Int→Int→Prop where
 | bR {p:Addr} {u d t b:Int} (e:H p=some (.tup [.int u,.int d])) (l:iz u d) (hb:b≠0) (h:u*b=t*d):km H 0 (.ref p) t b
 | rem {q r t b:Int} (q2:2≤q) (h0:0≤r) (h1:r<q) (g:Int.gcd q b=1) (h:q∣r*b-t):km H q (.int r) t b
variable {B:Nat} {H:Hp} {q x m:Int} {v:V}
theorem aZ.ze(h:aZ B H q v x m)(hq:ax q):km H q v x m:=by
 cases h with
 | bR e l bx bm=>exact .bR e l (by have:=l.pos;lia) rfl
 | rem h0 h1 h2=>
  have q2:2≤q:=(hq.resolve_left (by lia)).1
  exact .rem q2 h0 h1 (by rw [yr]) ⟨0,by lia⟩
variable {t b:Int}
theorem Iw{u d:Int}(l:iz u d)(hb:b≠0)(e:u*b=t*d):u.natAbs≤t.natAbs∧d.natAbs≤b.natAbs:=by
 have h3:=l.pos;by_cases c:0<b
 ·obtain ⟨z1,z2⟩:=zc l c e
  lia
 ·have e':u*(-b)=(-t)*d:=by rw [gq,e,Int.neg_mul]
  obtain ⟨z1,z2⟩:=zc l (show 0 < -b by lia) e'
  lia
variable {c:Int}
theorem Dd{a:Int}(h:c≠0)(e:a*c=b*c):a=b:=Ca h e
theorem Qr(h:Int.gcd q c=1)(d:q∣c-t):Int.gcd q t=1:=by
 refine C7 fun e h1 h2=>C8 h h1 ?_;have z:=Int.dvd_add (jj h1 d) h2;rw [show c-t+t=c by lia] at z
 exact z
theorem Iy{a:Int}(q2:2≤q)(g:Int.gcd q c=1)(d:q∣a*c):q∣a:=by
 have qq:((q.natAbs:Nat):Int)=q:=by lia
 have z:=C9 (a:=a) (b:=q) (c:=c) (d:=q.natAbs) g (by rw [qq];exact iR q) (by rw [qq];exact d)
 rw [qq] at z;exact z
theorem zf(a q:Int):∃w,a % q+q*w=a:=⟨a / q,B_ a q⟩
section
variable {C N z:Addr} {q:Int} {v u:V} {t b t' b':Int} {H:Hp} {Q:VK} {E:XK}
theorem abQ(hw:df C H z q)(hq:ax q)(hv:km H q v t b)(hu:km H q u t' b')(b1:mY t)(b2:mY b)(b3:mY t')(b4:mY b')
  (k:∀(v':V) (H':Hp),ai H H'→km H' q v' (t*b'+t'*b) (b*b')→Q v' H'):Qj C (fun x m y n=>x*n+y*m) (fun i j=>i+j) [.ref z,v,u] H Q E:=by
 refine ⟨z,q,v,u,rfl,hw,?_⟩;cases hv with
 | bR e l hb h=>
  cases hu with
  | bR e' l' sO h'=>
   rename_i p x m p' y n
   obtain ⟨c1,c2⟩:=Iw l hb h;obtain ⟨c3,c4⟩:=Iw l' sO h';refine .inl ⟨rfl,_,_,x,m,y,n,rfl,rfl,e,e',l,l',ae c1 b1,ae c2 b2,ae c3 b3,ae c4 b4,fun r' H' a d s' er la ea=>k _ H' s' (.bR er la (Int.mul_ne_zero hb sO) ?_)⟩;have m0:=l.pos;have n0:=l'.pos;refine Dd (c:=m*n) (Int.mul_ne_zero (by lia) (by lia)) ?_
   grind
  | rem q2 h0 h1 g h=>lia
 | rem q2 h0 h1 g h=>
  cases hu with
  | bR e' l' sO h'=>lia
  | rem Qs m7 zg g' h'=>
   rename_i i j
   have q3:q≤997:=(hq.resolve_left (by lia)).2.1
   refine .inr ⟨q2,i,j,rfl,rfl,h0,by lia,k _ H (ai.refl H) (.rem q2 (du _ (by lia)) (dJ _ (by lia)) (Io g g') ?_)⟩
   obtain ⟨k1,e1⟩:=h;obtain ⟨k2,e2⟩:=h';obtain ⟨w,ew⟩:=zf (i+j) q;exact ⟨k1*b'+k2*b-w*(b*b'),by grind⟩
theorem Iz(nz:¬q∣b):¬kl q b:=fun h=>nz (by
  unfold kl at h;by_cases z:q=0;·rw [ar z] at h;rw [h];exact dw q
  ·rw [ao z] at h;exact Cb h)
theorem IA{u d u' d':Int}(l:iz u d)(l':iz u' d')(e:u*d'=u'*d):u=u'∧d=d':=by
 have h1:=l.pos;have h2:=l'.pos;have a:=(zc l (show 0<d' by lia) e).1
 have c:=(zc l' (show 0<d by lia) e.symm).1
 have dd:d=d':=by lia
 subst dd;exact ⟨Dd (show d≠0 by lia) e,rfl⟩
theorem Qt(hv:km H q v t b)(hu:km H q u t' b')(e:t*b'=t'*b) :
  (∃p p' x m,v=.ref p∧u=.ref p'∧H p=some (.tup [.int x,.int m])∧H p'=some (.tup [.int x,.int m]))∨(∃i:Int,v=.int i∧u=.int i):=by
 cases hv with
 | bR e1 l hb h=>
  cases hu with
  | bR e2 l' sO h'=>
   rename_i p x m p' y n
   have z:x*n=y*m:=by refine Dd (c:=b*b') (Int.mul_ne_zero hb sO) ?_;grind
   obtain ⟨rfl,rfl⟩:=IA l l' z;exact .inl ⟨_,_,_,_,rfl,rfl,e1,e2⟩
  | rem q2 h0 h1 g h=>lia
 | rem q2 h0 h1 g h=>
  cases hu with
  | bR e' l' sO h'=>lia
  | rem Qs m7 zg g' h'=>
   rename_i i j
   have d:q∣(i-j)*(b*b'):=by obtain ⟨k1,e1⟩:=h;obtain ⟨k2,e2⟩:=h';exact ⟨k1*b'-k2*b,by grind⟩
   have d2:=Iy q2 (Io g g') d;have ij:i=j:=by
    obtain ⟨k,ek⟩:=d2;by_cases z:k=0;·rw [z,cF] at ek;lia
    ·exfalso
     rcases Int.lt_or_gt_of_ne z with z | z
     ·have:=jU (show k≤-1 by lia) (show 0≤q by lia)
      lia
     ·have:=jU (show 1≤k by lia) (show 0≤q by lia)
      lia
   subst ij;exact .inr ⟨_,rfl,rfl⟩
theorem Qu(x m:Int):gX [V.int x,V.int m] [V.int x,V.int m]=true:=by show ((x == x) && ((m == m) && true))=true;simp
end
theorem aZ.cQ{H':Hp}{D:Addr}{ys:List V}(h:aZ B H q v x m)(eD:H D=some (.lst ys))(k:∀b o,b≠D→H b=some o→H' b=some o):aZ B H' q v x m:=by
 cases h with
 | bR e l bx bm=>refine .bR (k _ _ (fun z=>?_) e) l bx bm;rw [z,eD] at e;cases e
 | rem h0 h1 h2=>exact .rem h0 h1 h2
end My
namespace L2
open PySem PySem.Spec PyProof.Rows
structure sP (J:It) (xs:List V) (H1:Hp):Prop where
 go:∀i Hc,ai H1 Hc→i<xs.length→J.go i Hc
 eI:∀i Hc x H',ai H1 Hc→J.eI i Hc x H'→H'=Hc∧(i<xs.length→xs[i]?=some x)
 stop:∀i Hc,ai H1 Hc→xs.length≤i→J.stop i Hc
variable {K:aE} {xs:List V} {H1:Hp}
theorem m8{a:Addr}(h:a_ K H1 a xs):sP (rX K a) xs H1 where
 go:=fun i Hc s hi=>⟨xs,xs[i],s.seq h,by simp [hi]⟩
 eI:=fun i Hc x H' s y=>⟨y.1,fun _=>y.2 xs (s.seq h)⟩
 stop:=fun i Hc s hi=>⟨xs,s.seq h,hi⟩
theorem zh{lo:Int}{n:Nat}:sP (mH lo n) ((List.range n).map fun i:Nat=>V.int (lo+(i:Int))) H1 where
 go:=fun i Hc s hi=>by
  have hi:i<n:=by simpa using hi
  exact hi
 eI:=fun i Hc x H' s y=>⟨y.1,fun hi=>by
  have hi:i<n:=by simpa using hi
  rw [y.2];simp [hi]⟩
 stop:=fun i Hc s hi=>by
  have hi:n≤i:=by simpa using hi
  exact hi
variable {H:Hp} {D:Addr}
theorem kn{H':Hp}{o:HO}(s:ai H H')(n:H D=none):ai H (upd H' D o):=fun b u e=>by rw [b7 (fq e n)];exact s b u e
variable {te:TE} {Q:VK}
theorem IC{J:It}{ρσ:St}(js:sP J xs H1)(nD:H1 D=none)(hn:xs.length<sizeLine)
  (P:Nat→V→Hp→Prop) (mono:∀i y H H' ys,P i y H→H D=some (.lst ys)→(∀b o,b≠D→H b=some o→H' b=some o)→P i y H')
  (step:∀i x,xs[i]?=some x→∀(Hc:Hp) (R:VK),ai H1 Hc→(∃ys,Hc D=some (.lst ys))→(∀y H3,ai Hc H3→P i y H3→R y H3)→te (some x::ρσ) Hc R)
  (fin:∀ys Hc,ai H1 Hc→ys.length=xs.length→(∀i y,ys[i]?=some y→P i y Hc)→Hc D=some (.lst ys)→Q (.ref D) Hc) :
  ∃W:Nat→Nat→List V→Hp→Prop,(∃m,W 0 m [] (upd H1 D (.lst []))) ∧
   ∀i m ys Hc,W i m ys Hc→Hc D=some (.lst ys)∧((J.stop i Hc∧Q (.ref D) Hc)∨(J.go i Hc∧∀x H',J.eI i Hc x H'→
    if true=true then te (some x::ρσ) H' fun y H3=>H3 D=some (.lst ys)∧ys.length<sizeLine∧∃m',m'<m∧W (i+1) m' (ys++[y]) (upd H3 D (.lst (ys++[y]))) else ∃m',m'<m∧W (i+1) m' ys H')):=by
 refine ⟨fun i m ys Hc=>m=xs.length-i∧i≤xs.length∧Hc D=some (.lst ys)∧ai H1 Hc∧ys.length=i∧∀j y,ys[j]?=some y→P j y Hc,⟨_,rfl,b9 _,av,kn (ai.refl H1) nD,rfl,fun j y e=>by simp at e⟩,?_⟩
 rintro i m ys Hc ⟨rfl,hi,eD,sH,el,hP⟩;refine ⟨eD,?_⟩;by_cases cK:i<xs.length
 ·refine .inr ⟨js.go i Hc sH cK,fun x H' hy=>?_⟩
  obtain ⟨rfl,hx⟩:=js.eI i Hc x H' sH hy;rw [ar rfl];refine step i x (hx cK) _ _ sH ⟨ys,eD⟩ fun y H3 s3 hp=>?_;have e3:=s3 _ _ eD;refine ⟨e3,by lia,xs.length-(i+1),by lia,rfl,cK,av,kn (sH.trans s3) nD,by simp [el],fun j y' e=>?_⟩
  have cQ:∀b o,b≠D→H3 b=some o→upd H3 D (.lst (ys++[y])) b=some o:=fun b o nb e=>by rw [b7 nb];exact e
  by_cases hj:j<i
  ·have e':ys[j]?=some y':=by rw [ib (by lia)] at e;exact e
   refine mono j y' H' _ ys (hP j y' e') eD fun b o nb e=>?_;exact cQ b o nb (s3 _ _ e)
  ·have hj:j=i:=by have:=(cU.mp e).1;simp at this;lia
   subst hj;have e':y'=y:=by rw [gQ (by lia),el,kS] at e;simpa using e.symm
   subst e';exact mono _ _ H3 _ ys hp e3 cQ
 ·have e:i=xs.length:=by lia
  subst e;exact .inl ⟨js.stop _ Hc sH (aN _),fin ys Hc sH el hP eD⟩
variable {wi:TI} {ρ:St→St} {σ:St}
theorem Qv(iB:∀R:It→Hp→Prop,(∀J H1,ai H H1→sP J xs H1→R J H1)→wi σ H R)(hn:xs.length<sizeLine)
  (P:Addr→Nat→V→Hp→Prop) (mono:∀D i y H H' ys,P D i y H→H D=some (.lst ys)→(∀b o,b≠D→H b=some o→H' b=some o)→P D i y H')
  (step:∀D i x,xs[i]?=some x→∀(Hc:Hp) (R:VK),ai H Hc→(∃ys,Hc D=some (.lst ys))→(∀y H3,ai Hc H3→P D i y H3→R y H3)→te (some x::ρ σ) Hc R)
  (fin:∀D ys Hc,ai H Hc→ys.length=xs.length→(∀i y,ys[i]?=some y→P D i y Hc)→Hc D=some (.lst ys)→Q (.ref D) Hc):o8 wi ρ (fun _ H Q=>Q true H) te σ H Q:=by
 refine iB _ fun J H1 s1 js=>?_;intro D nD;exact IC (ρσ:=ρ σ) (te:=te) (Q:=Q) js nD hn (P D) (mono D) (fun i x hx Hc R sc=>step D i x hx Hc R (s1.trans sc)) (fun ys Hc sc=>fin D ys Hc (s1.trans sc))
theorem dq{g:TG}{D:Ends}(h:te σ H fun x H1=>g x σ H1 D.nx):mF te g D σ H:=h
theorem iC{a b:TS}{D:Ends}(h:a {D with nx:=fun σ H=>b D σ H} σ H):Co a b D σ H:=h
section
variable {X:Cx} {N:List Str} {scope:Scope} {cl:List (Str×Addr)} {x:Str} {px pos:Pos} {iter elt:Expr} {ifs:List Expr} {wi:TI} {ρ:St→St} {tt:TT} {te:TE}
theorem sQ{y:Str}{py ID:Pos}{i0:Nat}(B:C1 X N scope cl x ρ)(hc:X.calm=true)(hN:X.N.Nodup)(ph:X.N[i0]?=some y)(hy:Loc X.env.scope y)(hi:PI X (.Name x px) iter wi)(ht:∀s₃ H₃ fp,mR (X.bV N scope cl s₃ H₃ fp) ifs tt)(he:∀s₃ H₃ fp,PE (X.bV N scope cl s₃ H₃ fp) elt te)
  (Qw:swapsWith (.ListComp elt [⟨.Name x px,iter,ifs,0⟩] scope pos) (some (.Name y py)) ID.line X.env=pure true:=by rfl) (hf:X.fn y=true∨X.env.scope.names.lookup y=some .local:=by first | exact .inl rfl | exact .inr rfl | assumption)
  (hs:∀x,foldedSetIterable iter X.env x=pure x:=by intro _;rfl):PS X (.Assign [.Name y py] (.ListComp elt [⟨.Name x px,iter,ifs,0⟩] scope pos) ID) (mF (o8 wi ρ tt te) (bH i0)):=by
 intro pins s σ H D0 I h
 have h:o8 wi ρ tt te σ H (fun v H1=>D0.nx (σ.set i0 (some v)) H1):=h
 rw [exec_Assign_Name_used _ _ _ _ Qw]
 refine cI (wpAny_standAt (cI ?_))
 show wpAny _ X.A (do let _ ←comprehension (.ListComp elt [⟨.Name x px,iter,ifs,0⟩] scope pos) scope X.env _ (newList []) false (eval iter X.env) (some (assign (.Name y py) X.env))) _ _ s
 refine cI (cS (Q:=fun _ s'=>SP X pins D0 .next s') ?_ (fun _ s' hq=>eY (eY hq)) fun _ _ e=>e)
 refine B6 (use:=some (assign (.Name y py) X.env)) rfl hs B.yX B.kind B.names (aG (hi pins s σ H _ I h) fun v s1 h1=>aG h1 fun v_ s2 h2=>?_)
 obtain ⟨it,fp,tn,J,H2,rfl,I2,T,ir,f2,q2⟩:=h2
 have nD:H2 s2.heap.objs.size=none:=I2.aF.fresh (aN _)
 obtain ⟨W,⟨m0,w0⟩,turn⟩:=q2 _ nD
 refine yk (wpAny_newFunctionEnv B.yY (by intro y hy;simp at hy) (fun h₁ gY gZ=>?_) B.kind)
 dsimp only at gY gZ ⊢
 generalize hD:s2.heap.objs.size=D at nD w0 turn gY gZ ⊢
 generalize eQ:({s2 with heap:=s2.heap.push {cls:=.type "list",dict:=none,data:=.seq ([]:List Value).toArray}}:Shared)=s3
 have I3:Inv X pins σ (upd H2 D (.lst [])) s3:=by
  subst hD eQ
  exact I2.laid (t':=s2.toks) (fun b u e=>dD _ e) (aN _) ⟨b9 _,[],_,.nil,gP _ rfl⟩
 have e3:s3.heap=s2.heap.push {cls:=.type "list",dict:=none,data:=.seq ([]:List Value).toArray}:=by rw [←eQ]
 have g8:∀b o,s2.heap.get? b=some o→s3.heap.get? b=some o:=fun b o e=>by rw [e3];exact dD _ e
 rw [←e3] at gY gZ ⊢
 have below:∀b o,s3.heap.get? b=some o→b≠s3.heap.objs.size:=fun b o e=>ej (b8 e)
 have eS:∀b o,s3.heap.get? b=some o→h₁.get? b=some o:=fun b o e=>gZ.extBut b o (below b o e) (dD _ e)
 have jC:∀b∈fp,∃o,s2.heap.get? b=some o∧∀v,o.data≠.cell v:=T.obj _ _ ir
 have wo:∀b∈fp,b≠D:=fun b hb z=>by
  obtain ⟨o,e,_⟩:=jC b hb
  rw [z,←hD] at e
  exact absurd (b8 e) (gN _)
 have dQ:∀y c,cl.lookup y=some c→X.env.cells.lookup y=some c:=fun y c e=>B.sub (y,c) (kO e)
 have wt:=I3.vS
 have fE:(X.bV N scope cl s3 (upd H2 D (.lst [])) fp).Ok:=by
  refine ⟨I.ok.mod,B.kind,I.ok.glob,I.ok.blt,aN _,fun a b c e1 e2=>I.ok.inj a b c (dQ a c e1) (dQ b c e2),fun y hy=>B.has y hy,(fun _ _ z _=>absurd z dm),(fun _=>I.ok.hd hc),I.ok.frames,.inl rfl,fun b hb=>⟨?_,fun y c e z=>?_⟩,fun b o e=>?_,ae I.ok.ip I3.sz,fun b o e hb=>?_,fun b hb z=>?_,I3.stack,wt⟩
  ·obtain ⟨o,e,_⟩:=jC b hb
   exact below b o (g8 b o e)
  ·exact (f2 b hb).2.2.2.2.1 y c (dQ y c e) z
  ·exact I3.bs b o e
  ·rcases (f2 b hb).2.2.2.1 with z | z
   ·exact I.ok.oG b o e z
   ·exact absurd (dW (b8 e) (ae I.ok.ip z)) (gN _)
  ·rcases dX.mp (I3.vR b z) with z | z
   ·exact (f2 b hb).2.1 z
   ·exact (f2 b hb).2.2.1 z
 have IB:∀tk:Nat,Inv (X.bV N scope cl s3 (upd H2 D (.lst [])) fp) [] (none::ρ σ) (upd H2 D (.lst [])) {s3 with heap:=h₁,toks:=tk}:=fun tk=>by
  refine ⟨fE,rfl,I3.bare,Un.kept eS,⟨_,gY,fun j y v e1 e2 e3=>?_⟩,fun y c e=>?_,?_,fun y c e=>I3.iW y c (dQ y c e),(fun p hp=>nomatch hp),I3.aF.kept eS,?_⟩
  ·cases j with
   | zero=>cases e2
   | succ j=>
    obtain ⟨i,y',a1,a2,a3,a4,a5,a6⟩:=B.yZ σ j v e2
    have gE:N[j+1]?=some y:=e1
    rw [gE] at a1
    cases a1
    obtain ⟨m,hn,hl⟩:=I3.loc
    obtain ⟨u,r,l⟩:=hl i y v a2 a3 a4
    refine ⟨u,r,.inr ⟨a6,?_⟩⟩
    obtain ⟨c,ec⟩:=B.has y a6
    rcases l with ⟨k,_⟩ | ⟨_,c',mS,z⟩
    ·rcases a5 with q | q <;> (rw [k] at q;cases q)
    ·have:=dQ y c ec
     rw [this] at mS
     cases mS
     obtain ⟨o,ho,hd⟩:=z
     exact ⟨c,ec,o,eS _ _ ho,hd⟩
  ·obtain ⟨v,o,ho,hd⟩:=I3.cell y c (dQ y c e)
   exact ⟨v,o,eS _ _ ho,hd⟩
  ·exact I3.aF.fresh (aN _)
  ·show (none::ρ σ).length=N.length
   rw [fi]
   exact B.len σ I.len
 have De:∀b o,s3.heap.get? b=some o→b≠s3.heap.objs.size:=below
 have fin:∀{σ':St} {H':Hp} {s':Shared},Inv (X.bV N scope cl s3 (upd H2 D (.lst [])) fp) [] σ' H' s'→D0.nx (σ.set i0 (some (.ref D))) H'→compPost (model X.prog X.w) X.A X.xe (some (assign (.Name y py) X.env)) (fun _ s'=>SP X pins D0 .next s') (.ref D) s3.heap.objs.size (.ok .next) s':=fun{σ' H' s'} J q=>by
  obtain ⟨m,hn,_⟩:=J.loc
  have hn:s'.heap.Ns s3.heap.objs.size m:=hn
  have JC:H' s3.heap.objs.size=none:=J.free
  have u1:Un (cJ X.stack) fp (upd H2 D (.lst [])) H' s3.heap s'.heap:=by
   refine ⟨fun b o e n hb hx=>J.base.keep b o e n hb hx,fun b o e n hb hx=>J.base.slot b o e n hb hx,J.base.free,fun b o e hx=>J.base.there b o e hx,J.base.gy,J.base.fY,J.base.gz⟩
  have IX:Inv X pins σ H' s':=I3.mB (ch:=fp) (J.os) u1 J.aF J.bare fun b hb=>by
   obtain ⟨g0,g1,g2,g3,g4,g5⟩:=f2 b hb
   exact ⟨g3,g1,g4,g5⟩
  have nl:X.env.locals≠s3.heap.objs.size:=by
   obtain ⟨m3,⟨o3,_,_,e3,_⟩,_⟩:=I3.loc
   exact De _ _ e3
  have nc:∀z c,X.env.cells.lookup z=some c→c≠s3.heap.objs.size:=fun z c e=>by
   obtain ⟨v3,o3,e3,_⟩:=I3.cell z c e
   exact De _ _ e3
  refine wpAny_assign_Name (GH (v:=.ref D) IX hN ph hy rfl (fun fC Df Dg=>?_) hf)
  obtain ⟨a,Dg,ha⟩:=Dg
  have na:s3.heap.objs.size≠a:=by
   rcases ha with rfl | e
   ·exact fun z=>nl z.symm
   ·exact fun z=>nc _ _ e z.symm
  refine ⟨m,hn.sameBut Dg na,fun h' g9=>⟨σ.set i0 (some (.ref D)),H',?_,q⟩⟩
  have u2:Un (cJ X.stack) [s3.heap.objs.size] H' H' fC.heap h':=by
   refine ⟨fun b o e n hb hx=>(g9.2 b (by simpa using hx)).trans e,fun b o e n hb hx=>⟨o.slots,(g9.2 b (by simpa using hx)).trans e⟩,fun b o e n hx=>n,fun b o e hx=>⟨o,(g9.2 b (by simpa using hx)).trans e⟩,fun b xs z=>z,fun b o u z=>z,fun b ps z=>⟨#[],by simpa using z⟩⟩
  have wu:cL X.prog X.w H' h':=fun b u e=>by
   refine (Df.aF b u e).ik (fun c v hc z=>(g9.2 c fun y=>?_).trans z) (fun _ z=>z) fun _ _ z=>z
   have y':c=s3.heap.objs.size:=y
   rcases hc with hc | hc
   ·rw [←hc,y',JC] at e
    cases e
   ·rw [y',JC] at hc
    cases hc
  refine Df.mB (s':={fC with heap:=h'}) (ch:=[s3.heap.objs.size]) rfl u2 wu Df.bare fun b hb=>?_
  have eb:b=s3.heap.objs.size:=by simpa using hb
  subst eb
  refine ⟨.inr I3.sz,fun z=>nl z.symm,fun z c e=>nc z c e,fun p hp=>?_⟩
  exact De _ _ (I3.pin p hp).1
 have gB:∀{H':Hp},(∀b∈fp,H' b=none)→∀b∈fp,k7 (X.bV N scope cl s3 (upd H2 D (.lst [])) fp) [] H' b:=fun hn b hb=>by
  refine ⟨hn b hb,?_,?_,.inl hb,fun y c e z=>(f2 b hb).2.2.2.2.1 y c (dQ y c e) z,fun p hp=>nomatch hp⟩
  ·obtain ⟨o,e,_⟩:=jC b hb
   exact below b o (g8 b o e)
  ·exact fE.oH b hb
 have loop:∀tk:Nat,codeAny (model X.prog X.w) X.A (.compLoop (.ListComp elt [⟨.Name x px,iter,ifs,0⟩] scope pos) 0 (.ref it) (.ref D) (compEnvC scope cl s3.heap.objs.size X.env))
   (compPost (model X.prog X.w) X.A X.xe (some (assign (.Name y py) X.env)) (fun _ s'=>SP X pins D0 .next s') (.ref D) s3.heap.objs.size) {s3 with heap:=h₁,toks:=tk}:=fun tk=>by
  refine codeAny_compLoop_tests (fun n s'=>∃i ys o H',Inv (X.bV N scope cl s3 (upd H2 D (.lst [])) fp) [] (o::ρ σ) H' s'∧tn i s'.heap∧(∀b∈fp,H' b=none)∧W i n ys H') ?_ m0
   ⟨0,[],none,_,IB tk,T.keep _ _ _ ir fun b hb o e=>eS _ _ (g8 _ _ e),fun b hb=>by rw [b7 (wo b hb)];exact (f2 b hb).1,w0⟩
  rintro n s4 ⟨i,ys,o,H4,I4,mT,mU,w4⟩
  obtain ⟨Ij,wx⟩:=turn i n ys H4 w4
  rcases wx with ⟨stop,qn⟩ | ⟨go,step⟩
  ·refine cS (T.done (X.bV N scope cl s3 (upd H2 D (.lst [])) fp) rfl rfl rfl hc i [] s4 _ H4 (fun _ _=>False) I4 (gB mU) mT stop) (fun r s5 ⟨hr,I5⟩=>?_) fun _ _ z=>z.elim
   subst hr
   exact fin I5 qn
  ·refine cS (T.item (X.bV N scope cl s3 (upd H2 D (.lst [])) fp) rfl rfl rfl hc i [] s4 _ H4 (fun _ _=>False) I4 (gB mU) mT go) (fun r s5 ⟨u,hr,h5⟩=>?_) fun _ _ z=>z.elim
   subst hr
   have z:letOwnedTupleGo (.Name x px) (.ref it) u=pure ():=rfl
   rw [z] at h5
   show wpAny _ _ ((pure ():Sem Unit) >>= fun _=>assign (.Name x px) (compEnvC scope cl s3.heap.objs.size X.env) u) _ _ s5
   refine cI (cS h5 (fun _ s5 ⟨y,H5,I5,r5,y5,gC,oO⟩=>?_) fun _ _ z=>z.elim)
   have oP:=I5.pinned (gB oO) (T.obj _ _ gC)
   have pg:PG (X.bV N scope cl s3 (upd H2 D (.lst [])) fp) (.Name x px) (bH 0):=e_ (i:=0) B.nd B.n0 (.inl (ma B.hx)) (.inr (ma B.hx))
   have again:∀{σ7:St} {H7:Hp} {s7:Shared},Inv (X.bV N scope cl s3 (upd H2 D (.lst [])) fp) ([]++j_ fp s5.heap) σ7 H7 s7→Inv (X.bV N scope cl s3 (upd H2 D (.lst [])) fp) [] σ7 H7 s7∧tn (i+1) s7.heap∧∀b∈fp,H7 b=none:=fun{σ7 H7 s7} I7=>by
    refine ⟨I7.rY,T.keep _ _ _ gC fun b hb o e=>(I7.pin (b,o) (eZ _ (eZ _ (mI hb e)))).1,fun b hb=>?_⟩
    obtain ⟨o,e,d⟩:=T.obj _ _ gC b hb
    exact (I7.pin (b,o) (eZ _ (eZ _ (mI hb e)))).2.1
   refine cS (pg _ s5 _ H5 y u (fun σ2 H6=>σ2=some y::ρ σ∧H6=H5) oP r5 ⟨rfl,rfl⟩) (fun _ s6 ⟨σ6,H6,I6,q6⟩=>?_) fun _ _ z=>z.elim
   obtain ⟨rfl,rfl⟩:=q6
   have wy:=step y _ y5
   have tests:∀{jD:TT},mR (X.bV N scope cl s3 (upd H2 D (.lst [])) fp) ifs jD→∀{R:Bool→Hp→Prop},jD (some y::ρ σ) H6 R→wpAny (model X.prog X.w) X.A
     (forIn ifs true fun c r=>if r=true then do let ok ←isTrue c (compEnvC scope cl s3.heap.objs.size X.env) (eval c (compEnvC scope cl s3.heap.objs.size X.env));pure (ForInStep.yield ok) else pure (ForInStep.yield r))
     (fun ok s7=>∃H7,Inv (X.bV N scope cl s3 (upd H2 D (.lst [])) fp) ([]++j_ fp s5.heap) (some y::ρ σ) H7 s7∧R ok H7) (fun _ _=>False) s6:=fun{jD} p {R} hR=>by
    cases p with
    | nil=>exact wpAny_tests_nil ⟨_,I6,hR⟩
    | one p=>exact wpAny_tests_one (p _ s6 _ _ _ I6 hR)
   refine cS (tests (ht s3 _ fp) wy) (fun ok s7 ⟨H7,I7,q7⟩=>?_) fun _ _ z=>z.elim
   cases ok with
   | false=>
    obtain ⟨m',jE,w7⟩:=q7
    obtain ⟨a1,a2,a3⟩:=again I7
    exact ⟨m',jE,i+1,ys,_,H7,a1,a2,a3,w7⟩
   | true=>
    refine cS (he s3 _ fp _ s7 _ H7 _ I7 q7) (fun ev s8 ⟨z,H8,I8,r8,wC,hz,m',jE,w8⟩=>?_) fun _ _ z=>z.elim
    refine cS (yR (X:=X.bV N scope cl s3 (upd H2 D (.lst [])) fp) _ s8 _ H8 (.ref D) [z] (.ref D) [ev] (fun _ H9=>H9=upd H8 D (.lst (ys++[z]))) I8 rfl (.cons r8 .nil) ⟨D,ys,z,rfl,rfl,wC,hz,rfl⟩) (fun _ s9 ⟨_,H9,I9,_,q9⟩=>?_) fun _ _ z=>z.elim
    subst q9
    obtain ⟨a1,a2,a3⟩:=again I9
    exact ⟨m',jE,i+1,ys++[z],_,_,a1,a2,a3,w8⟩
 have start:=loop (s3.toks+([]:List (Str×Value)).length)
 have es:({s3 with heap:=h₁,toks:=s3.toks+([]:List (Str×Value)).length}:Shared)={s2 with heap:=h₁,toks:=s2.toks+([]:List (Str×Value)).length}:=by rw [←eQ]
 rw [es] at start
 exact B7 start (T.self _ 0 _ _ _ (T.keep _ _ _ ir fun b hb o e=>eS _ _ (g8 _ _ e)) start)
end
def Dh(K:aE)(l1 l2:Addr):It:=
  ⟨fun i H=>∃xs ys x y,a_ K H l1 xs∧a_ K H l2 ys∧xs[i]?=some x∧ys[i]?=some y,
   fun i H v H'=>∃T x y,H T=none∧v=.ref T∧H'=upd H T (.tup [x,y])∧∀xs ys,a_ K H l1 xs→a_ K H l2 ys→xs[i]?=some x∧ys[i]?=some y,
   fun i H=>∃xs ys,a_ K H l1 xs∧a_ K H l2 ys∧(xs.length≤i∨ys.length≤i)⟩
theorem Qx{P:Program}{w:World}{elts:List Expr}{k:Nat}{pos:Pos}{z TI TO i1 i2 l1 l2:Addr}(D:ZipApart z TI TO i1 i2 l1 l2):Turn P w K (.Tuple elts k pos) (Dh K l1 l2) [z,TI,TO,i1,i2] z
  (fun i h=>IsZip h z TI TO .none∧IsPair h TI (.ref i1) (.ref i2)∧(∃a b,IsPair h TO a b)∧h.IsListIter i1 l1 i∧h.IsListIter i2 l2 i) where
 mem:=by simp
 obj:=fun i h st b hb=>by
  obtain ⟨hz,lA,⟨a,c,m9⟩,h1,h2⟩:=st;simp only [dX,jX,jY] at hb;rcases hb with rfl | rfl | rfl | rfl | rfl;·exact ⟨_,hz,fun v z=>by cases z⟩
  ·exact ⟨_,lA,fun v z=>by cases z⟩
  ·exact ⟨_,m9,fun v z=>by cases z⟩
  ·obtain ⟨o,e,c,d⟩:=h1
   exact ⟨o,e,fun v z=>by rw [d] at z;cases z⟩
  ·obtain ⟨o,e,c,d⟩:=h2
   exact ⟨o,e,fun v z=>by rw [d] at z;cases z⟩
 keep:=fun i h h' st k=>by obtain ⟨hz,lA,⟨a,c,m9⟩,h1,h2⟩:=st;exact ⟨k _ (by simp) _ hz,k _ (by simp) _ lA,⟨a,c,k _ (by simp) _ m9⟩,h1.at fun o e=>k _ (by simp) o e,h2.at fun o e=>k _ (by simp) o e⟩
 item:=by
  intro X hP hw hK hc i pins s σ H E I hf st hg;subst hP hw hK;obtain ⟨hz,lA,⟨a,c,m9⟩,h1,h2⟩:=st;obtain ⟨xs,ys,x,y,iD,k_,hx,hy⟩:=hg;obtain ⟨aq,rv,p,_⟩:=I.list iD;obtain ⟨IE,zi,p',_⟩:=I.list k_;obtain ⟨u,hu,ru⟩:=rv.get hx;obtain ⟨u',ko,Qy⟩:=zi.get hy;refine wpAny_pyNext_zip_item D hz lA m9 h1 h2 p.isList p'.isList (x:=u) (y:=u') (by simpa using hu) (by simpa using ko) fun h' g1 g2 g3 g4 g5 g6 g7=>⟨_,rfl,?_⟩
  refine wpAny_letOwnedTupleGo_zip g1 fun kq q1 sb=>?_;have wI:H s.heap.objs.size=none:=I.aF.fresh (aN _);have lt:∀b o,s.heap.get? b=some o→b≠s.heap.objs.size:=fun b o e=>ej (b8 e);have keep:∀b o,b∉[z,TI,TO,i1,i2]→s.heap.get? b=some o→kq.get? b=some o:=fun b o nb e=>by simp only [dX,jX,jY,not_or] at nb;exact sb.extBut _ _ nb.1 (g7 b o nb.1 nb.2.2.1 nb.2.2.2.1 nb.2.2.2.2 e)
  have Qz:z≠s.heap.objs.size:=lt _ _ hz;have pT:IsPair kq s.heap.objs.size u u':=sb.extBut _ _ Qz.symm g5;have jF:∀{b:Addr} {o:HO} (e:H b=some o),upd H s.heap.objs.size (.tup [x,y]) b=some o:=fun e=>by rw [b7 (fq e wI)];exact e
  have aF:cL X.prog X.w (upd H s.heap.objs.size (.tup [x,y])) kq:=fun b o e=>by
   by_cases hb:b=s.heap.objs.size
   ·subst hb
    rw [av] at e;cases e;exact ⟨by show 2≤sizeLine;decide,[u,u'],.cons ru (.cons Qy .nil),⟨_,pT,rfl,_,rfl⟩⟩
   ·rw [b7 hb] at e
    refine (I.aF b o e).ik (fun c v d4 q=>keep c v (fun m=>?_) q) (fun c q=>jF q) fun c xs q=>jF q;have nn:=(hf c m).1;rcases d4 with rfl | d4;·rw [nn] at e;cases e
    ·rw [nn] at d4;cases d4
  have u1:Un (cJ X.stack) [z,TI,TO,i1,i2] H (upd H s.heap.objs.size (.tup [x,y])) s.heap kq:=
   ⟨fun b o e n _ hx=>keep b o hx e,fun b o e n _ hx=>⟨o.slots,keep b o hx e⟩,fun b o e n hx=>by rw [b7 (lt b o e)];exact n,fun b o e hx=>⟨o,keep b o hx e⟩,fun b xs e=>jF e,fun b o u e=>jF e,fun b ps e=>⟨#[],by rw [jF e];simp⟩⟩
  refine ⟨.ref s.heap.objs.size,upd H s.heap.objs.size (.tup [x,y]),I.mB (s':={s with heap:=kq}) (ch:=[z,TI,TO,i1,i2]) rfl u1 aF I.bare (fun b hb=>?_),rfl,⟨_,x,y,wI,rfl,rfl,fun as bs ha hb=>⟨by rw [I.yF ha iD];exact hx,by rw [I.yF hb k_];exact hy⟩⟩,?_,fun b hb=>?_⟩
  ·obtain ⟨f0,f1,f2,f3,f4,f5⟩:=hf b hb
   exact ⟨f3,f1,f4,f5⟩
  ·exact ⟨q1,sb.extBut _ _ D.TIz (g7 _ _ D.TIz D.TITO D.TIi1 D.TIi2 lA),⟨_,_,sb.extBut _ _ D.TOz g2⟩,g3.extBut sb.extBut D.i1z,g4.extBut sb.extBut D.i2z⟩
  ·have nb:b≠s.heap.objs.size:=by
    simp only [dX,jX,jY] at hb;rcases hb with rfl | rfl | rfl | rfl | rfl;·exact lt _ _ hz
    ·exact lt _ _ lA
    ·exact lt _ _ m9
    ·obtain ⟨o,e,_⟩:=h1;exact lt _ _ e
    ·obtain ⟨o,e,_⟩:=h2;exact lt _ _ e
   rw [b7 nb];exact (hf b hb).1
 done:=by
  intro X hP hw hK hc i pins s σ H E I hf st hg;subst hP hw hK;obtain ⟨hz,lA,⟨a,c,m9⟩,h1,h2⟩:=st;obtain ⟨xs,ys,iD,k_,hx⟩:=hg;obtain ⟨aq,rv,p,_⟩:=I.list iD;obtain ⟨IE,zi,p',_⟩:=I.list k_;have hl:=rv.length;have hl':=zi.length;refine wpAny_pyNext_zip_end (I.ok.hd hc) D hz lA m9 h1 h2 p.isList p'.isList (hx.imp (fun h=>by simp;lia) fun h=>by simp;lia) fun h' g=>⟨rfl,?_⟩
  have keep:∀b o,b∉[z,TI,TO,i1,i2]→s.heap.get? b=some o→h'.get? b=some o:=fun b o nb e=>by simp only [dX,jX,jY,not_or] at nb;exact g b o nb.1 nb.2.2.1 nb.2.2.2.1 nb.2.2.2.2 e
  have aF:cL X.prog X.w H h':=fun b o e=>by
   refine (I.aF b o e).ik (fun c v d4 q=>keep c v (fun m=>?_) q) (fun c q=>q) fun c xs q=>q;have nn:=(hf c m).1;rcases d4 with rfl | d4;·rw [nn] at e;cases e
   ·rw [nn] at d4;cases d4
  have u1:Un (cJ X.stack) [z,TI,TO,i1,i2] H H s.heap h':=
   ⟨fun b o e n _ hx=>keep b o hx e,fun b o e n _ hx=>⟨o.slots,keep b o hx e⟩,fun b o e n hx=>n,fun b o e hx=>⟨o,keep b o hx e⟩,fun b xs e=>e,fun b o u e=>e,fun b ps e=>⟨#[],by rw [e];simp⟩⟩
  refine I.mB (s':={s with heap:=h'}) (ch:=[z,TI,TO,i1,i2]) rfl u1 aF I.bare fun b hb=>?_;obtain ⟨f0,f1,f2,f3,f4,f5⟩:=hf b hb;exact ⟨f3,f1,f4,f5⟩
 self:=fun _ _ _ _ _ st h=>wpAny_pyIter_zip st.1 h
theorem boot_zip:bootBuiltins "zip"=some (.type "zip"):=by decide +kernel
def QA(K:aE)(ta:TA):TI:=fun σ H R=>ta σ H fun vs H1=>∃l1 l2,vs=[.ref l1,.ref l2]∧(∃xs,a_ K H1 l1 xs)∧(∃ys,a_ K H1 l2 ys)∧R (Dh K l1 l2) H1
section
variable {X:Cx}
theorem Di{elts:List Expr}{k:Nat}{rT:Pos}{a b:Expr}{ta:TA}{p pos:Pos}(hg:Gl X "zip")(hm:X.mg "zip"=none)(ha:PA X [a,b] ta)(hs:starEach [a,b] X.env=[(false,eval a X.env),(false,eval b X.env)]:=by rfl)(kg:starEach [b] X.env=[(false,eval b X.env)]:=by rfl) :
  PI X (.Tuple elts k rT) (.Call (.Name "zip" p) [a,b] [] pos) (QA X.K ta):=by
 intro pins s σ H R I h;refine Call_ (oJ I hg hm boot_zip (vz (aG (ha pos pins s σ H _ I h) fun us s1 ⟨vs,H1,I1,r1,q1⟩=>?_) (by rw [hs,kg]) (by rw [kg];rfl)))
 obtain ⟨l1,l2,e,⟨xs,iD⟩,⟨ys,k_⟩,q⟩:=q1;subst e;cases r1 with
 | cons r rr=>
  cases rr with
  | cons r' rr=>
   cases rr;cases r;cases r';obtain ⟨aq,rv,p1,_⟩:=I1.list iD;obtain ⟨IE,zi,p2,_⟩:=I1.list k_;have b1:l1<s1.heap.objs.size:=by obtain ⟨o,e,_⟩:=p1.isList;exact b8 e
   have b2:l2<s1.heap.objs.size:=by obtain ⟨o,e,_⟩:=p2.isList;exact b8 e
   refine call_zip_2 p1.isList p2.isList fun h' z1 z2 z3 z4 z5 z6 z7=>?_;refine wpAny_pyIter_zip (s:={s1 with heap:=h'}) z1 ?_;have D:ZipApart (s1.heap.objs.size+4) (s1.heap.objs.size+2) (s1.heap.objs.size+3) s1.heap.objs.size (s1.heap.objs.size+1) l1 l2:=by constructor <;> (intro h;have h:@Eq Nat _ _:=h;have b1:@LT.lt Nat _ l1 s1.heap.objs.size:=b1;have b2:@LT.lt Nat _ l2 s1.heap.objs.size:=b2;lia)
   refine ⟨_,_,_,_,H1,rfl,I1.kept (t':=s1.toks) z7,Qx D,⟨z1,z2,⟨_,_,z3⟩,z4,z5⟩,fun b hb=>?_,q⟩;have le:s1.heap.objs.size≤b:=by
    simp only [dX,jX,jY] at hb;rcases hb with rfl | rfl | rfl | rfl | rfl;·exact oy ..
    ·exact oy ..
    ·exact oy ..
    ·exact aN _
    ·exact oy ..
   exact I1.rV le (I1.aF.fresh le)
end
section
variable {prog:Program} {w:World} {A:Around} {R:Result→Shared→Prop} {s:Shared}
theorem QB{elt target iter:Expr}{ifs:List Expr}{scope:Scope}{pos:Pos}{it acc:Value}{env:Env}(I:Nat→Shared→Prop)
  (turn:∀n s,I n s→wpAny (model prog w) A (pyNext it) (fun r s₁=>match r with
   | none=>R (.ok .next) s₁
   | some v=>wpAny (model prog w) A (letOwnedTupleGo target it v) (fun _ s₁=>wpAny (model prog w) A (assign target env v) (fun _ s₂=>
     wpAny (model prog w) A (forIn ifs true fun c r=>if r=true then do let ok ←isTrue c env (eval c env);pure (ForInStep.yield ok) else pure (ForInStep.yield r)) (fun ok s₃=>
      if ok=true then wpAny (model prog w) A (eval elt env) (fun x s₄=>
       wpAny (model prog w) A (call (.builtin "list.append") [acc,x]) (fun _ s₅=>∃m,m<n∧I m s₅) (notedBy (model prog w) A env fun e s'=>R (.error e) s') s₄) (notedBy (model prog w) A env fun e s'=>R (.error e) s') s₃
      else ∃m,m<n∧I m s₃) (notedBy (model prog w) A env fun e s'=>R (.error e) s') s₂) (notedBy (model prog w) A env fun e s'=>R (.error e) s') s₁) (notedBy (model prog w) A env fun e s'=>R (.error e) s') s₁) (notedBy (model prog w) A env fun e s'=>R (.error e) s') s)
  (n:Nat) (h:I n s):codeAny (model prog w) A (.compLoop (.ListComp elt [⟨target,iter,ifs,0⟩] scope pos) 0 it acc env) R s:=by
 refine codeAny_loop rfl I (fun n s hI=>?_) n h
 show wpAny _ A ((compTurn (.ListComp elt [⟨target,iter,ifs,0⟩] scope pos) 0 it acc env).onRaise (fun x=>do noteFrame x env;theTreesLotGoes x)) _ _ s
 refine wpAny_noted ?_
 rw [compTurn_list]
 refine cI (wpAny_standAt (cI (cS (turn n s hI) (fun r s₁ h₁=>?_) fun _ _ h'=>h')))
 cases r with
 | none=>exact eY h₁
 | some v=>
  refine cI (cS h₁ (fun _ s₁ h₁=>?_) fun _ _ h'=>h')
  refine cI (cS h₁ (fun _ s₂ h₂=>cI (cS h₂ (fun ok s₃ h₃=>?_) fun _ _ h'=>h')) fun _ _ h'=>h')
  cases ok with
  | false=>exact eY ⟨rfl,h₃⟩
  | true=>
   exact cI (cI (cS h₃ (fun x s₄ h₄=>cI (cS h₄ (fun _ s₅ h₅=>eY (eY ⟨rfl,h₅⟩)) fun _ _ h'=>h')) fun _ _ h'=>h'))
end
def zj(K:aE)(wi:TI)(ρ:St→St)(tt:TT)(te:TE):TE:=fun σ H Q=>wi σ H fun J H1=>∀D,H1 D=none→∃W:Nat→Nat→List V→Hp→Prop,(∃m,W 0 m [] (upd H1 D (.lst []))) ∧
 ∀i m ys Hc,W i m ys Hc→Hc D=some (.lst ys)∧((J.stop i Hc∧Q (.ref D) Hc)∨(J.go i Hc∧∀v H',J.eI i Hc v H'→∃T x1 x2,v=.ref T∧d7 K H' T [x1,x2]∧tt (some x1::some x2::ρ σ) H' fun b H2=>
  if b=true then te (some x1::some x2::ρ σ) H2 fun y H3=>H3 D=some (.lst ys)∧ys.length<sizeLine∧∃m',m'<m∧W (i+1) m' (ys++[y]) (upd H3 D (.lst (ys++[y]))) else ∃m',m'<m∧W (i+1) m' ys H2))
section
variable {X:Cx} {N:List Str} {scope:Scope} {cl:List (Str×Addr)} {x y:Str} {px py pos tp:Pos} {zk:Nat} {iter elt:Expr} {ifs:List Expr} {wi:TI} {ρ:St→St} {tt:TT} {te:TE}
structure IF (X:Cx) (N:List Str) (scope:Scope) (cl:List (Str×Addr)) (x y:Str) (ρ:St→St):Prop where
 yX:closureFor scope X.env=pure cl
 kind:scope.kind=.function
 yY:∀y∈scope.names,y.2≠.cell
 names:∀y∈scope.names,y.2=.local→scope.names.lookup y.1=some .local
 sub:∀p∈cl,X.env.cells.lookup p.1=some p.2
 has:∀y,((relabel scope X.env).names.lookup y=some .cell∨(relabel scope X.env).names.lookup y=some .free)→∃c,cl.lookup y=some c
 n0:N[0]?=some x
 n1:N[1]?=some y
 nd:N.Nodup
 hx:scope.names.lookup x=some .local
 hy:scope.names.lookup y=some .local
 yZ:∀(σ:St) (j:Nat) (v:V),(ρ σ)[j]?=some (some v)→∃(i:Nat) (y:Str),N[j+1+1]?=some y∧X.N[i]?=some y∧σ[i]?=some (some v)∧mz X.env.scope y∧(X.env.kindOf y=some .cell∨X.env.kindOf y=some .free)∧((relabel scope X.env).names.lookup y=some .cell∨(relabel scope X.env).names.lookup y=some .free)
 len:∀σ:St,σ.length=X.N.length→(ρ σ).length+1+1=N.length
theorem Dj(is:List Nat)(h1:closureFor scope X.env=pure cl)(h:y4 X scope N.tail.tail is:=by repeat' first | exact True.intro | refine And.intro ⟨rfl,Or.inr (Or.inl rfl),.inl rfl,.inl rfl⟩ ?_)(h2:scope.kind=.function:=by rfl)(h3:∀y∈scope.names,y.2≠.cell:=by decide +kernel)(h4:∀y∈scope.names,y.2=.local→scope.names.lookup y.1=some .local:=by decide +kernel)(h5:∀p∈cl,X.env.cells.lookup p.1=some p.2:=by repeat' first | exact List.forall_mem_nil _ | refine yp.mpr ⟨rfl,?_⟩)(h6:((relabel scope X.env).names.all fun q=>(q.2 != .cell && q.2 != .free) || (cl.lookup q.1).isSome)=true:=by rfl)(h7:N[0]?=some x:=by rfl)(QC:N[1]?=some y:=by rfl)(h8:N.Nodup:=by decide +kernel)(h9:scope.names.lookup x=some .local:=by rfl)(QD:scope.names.lookup y=some .local:=by rfl)(hr:∀σ:St,ρ σ=is.map fun i=>σ[i]?.join:=by exact fun _=>rfl)(hl:is.length+1+1=N.length:=by rfl):IF X N scope cl x y ρ:=
 ⟨h1,h2,h3,h4,h5,C2 h6,h7,QC,h8,h9,QD,fun σ j v e=>by rw [hr] at e;rw [←List.getElem?_tail,←List.getElem?_tail];exact C3 h σ j v e,fun σ _=>by rw [hr,aT];exact hl⟩
theorem IG(B:IF X N scope cl x y ρ)(hc:X.calm=true)(hi:PI X (.Tuple [.Name x px,.Name y py] zk tp) iter wi)(ht:∀s₃ H₃ fp,mR (X.bV N scope cl s₃ H₃ fp) ifs tt)(he:∀s₃ H₃ fp,PE (X.bV N scope cl s₃ H₃ fp) elt te)
  (hs:∀x,foldedSetIterable iter X.env x=pure x:=by intro _;rfl):PE X (.ListComp elt [⟨.Tuple [.Name x px,.Name y py] zk tp,iter,ifs,0⟩] scope pos) (zj X.K wi ρ tt te):=by
 intro pins s σ H Q I h
 rw [eval_ListComp]
 refine B6 (use:=none) rfl hs B.yX B.kind B.names (aG (hi pins s σ H _ I h) fun v s1 h1=>aG h1 fun v_ s2 h2=>?_)
 obtain ⟨it,fp,tn,J,H2,rfl,I2,T,ir,f2,q2⟩:=h2
 have nD:H2 s2.heap.objs.size=none:=I2.aF.fresh (aN _)
 obtain ⟨W,⟨m0,w0⟩,turn⟩:=q2 _ nD
 refine yk (wpAny_newFunctionEnv B.yY (by intro y hy;simp at hy) (fun h₁ gY gZ=>?_) B.kind)
 dsimp only at gY gZ ⊢
 generalize hD:s2.heap.objs.size=D at nD w0 turn gY gZ ⊢
 generalize eQ:({s2 with heap:=s2.heap.push {cls:=.type "list",dict:=none,data:=.seq ([]:List Value).toArray}}:Shared)=s3
 have I3:Inv X pins σ (upd H2 D (.lst [])) s3:=by
  subst hD eQ
  exact I2.laid (t':=s2.toks) (fun b u e=>dD _ e) (aN _) ⟨b9 _,[],_,.nil,gP _ rfl⟩
 have e3:s3.heap=s2.heap.push {cls:=.type "list",dict:=none,data:=.seq ([]:List Value).toArray}:=by rw [←eQ]
 have g8:∀b o,s2.heap.get? b=some o→s3.heap.get? b=some o:=fun b o e=>by rw [e3];exact dD _ e
 rw [←e3] at gY gZ ⊢
 have below:∀b o,s3.heap.get? b=some o→b≠s3.heap.objs.size:=fun b o e=>ej (b8 e)
 have eS:∀b o,s3.heap.get? b=some o→h₁.get? b=some o:=fun b o e=>gZ.extBut b o (below b o e) (dD _ e)
 have jC:∀b∈fp,∃o,s2.heap.get? b=some o∧∀v,o.data≠.cell v:=T.obj _ _ ir
 have wo:∀b∈fp,b≠D:=fun b hb z=>by
  obtain ⟨o,e,_⟩:=jC b hb
  rw [z,←hD] at e
  exact absurd (b8 e) (gN _)
 have dQ:∀y c,cl.lookup y=some c→X.env.cells.lookup y=some c:=fun y c e=>B.sub (y,c) (kO e)
 have wt:=I3.vS
 have fE:(X.bV N scope cl s3 (upd H2 D (.lst [])) fp).Ok:=by
  refine ⟨I.ok.mod,B.kind,I.ok.glob,I.ok.blt,aN _,fun a b c e1 e2=>I.ok.inj a b c (dQ a c e1) (dQ b c e2),fun y hy=>B.has y hy,(fun _ _ z _=>absurd z dm),(fun _=>I.ok.hd hc),I.ok.frames,.inl rfl,fun b hb=>⟨?_,fun y c e z=>?_⟩,fun b o e=>?_,ae I.ok.ip I3.sz,fun b o e hb=>?_,fun b hb z=>?_,I3.stack,wt⟩
  ·obtain ⟨o,e,_⟩:=jC b hb
   exact below b o (g8 b o e)
  ·exact (f2 b hb).2.2.2.2.1 y c (dQ y c e) z
  ·exact I3.bs b o e
  ·rcases (f2 b hb).2.2.2.1 with z | z
   ·exact I.ok.oG b o e z
   ·exact absurd (dW (b8 e) (ae I.ok.ip z)) (gN _)
  ·rcases dX.mp (I3.vR b z) with z | z
   ·exact (f2 b hb).2.1 z
   ·exact (f2 b hb).2.2.1 z
 have IB:∀tk:Nat,Inv (X.bV N scope cl s3 (upd H2 D (.lst [])) fp) [] (none::none::ρ σ) (upd H2 D (.lst [])) {s3 with heap:=h₁,toks:=tk}:=fun tk=>by
  refine ⟨fE,rfl,I3.bare,Un.kept eS,⟨_,gY,fun j y v e1 e2 e3=>?_⟩,fun y c e=>?_,?_,fun y c e=>I3.iW y c (dQ y c e),(fun p hp=>nomatch hp),I3.aF.kept eS,?_⟩
  ·cases j with
   | zero=>cases e2
   | succ j=>
   cases j with
   | zero=>cases e2
   | succ j=>
    obtain ⟨i,y',a1,a2,a3,a4,a5,a6⟩:=B.yZ σ j v e2
    have gE:N[j+1+1]?=some y:=e1
    rw [gE] at a1
    cases a1
    obtain ⟨m,hn,hl⟩:=I3.loc
    obtain ⟨u,r,l⟩:=hl i y v a2 a3 a4
    refine ⟨u,r,.inr ⟨a6,?_⟩⟩
    obtain ⟨c,ec⟩:=B.has y a6
    rcases l with ⟨k,_⟩ | ⟨_,c',mS,z⟩
    ·rcases a5 with q | q <;> (rw [k] at q;cases q)
    ·have:=dQ y c ec
     rw [this] at mS
     cases mS
     obtain ⟨o,ho,hd⟩:=z
     exact ⟨c,ec,o,eS _ _ ho,hd⟩
  ·obtain ⟨v,o,ho,hd⟩:=I3.cell y c (dQ y c e)
   exact ⟨v,o,eS _ _ ho,hd⟩
  ·exact I3.aF.fresh (aN _)
  ·show (none::none::ρ σ).length=N.length
   rw [fi,fi]
   exact B.len σ I.len
 have fin:∀{σ':St} {H':Hp} {s':Shared},Inv (X.bV N scope cl s3 (upd H2 D (.lst [])) fp) [] σ' H' s'→Q (.ref D) H'→compPost (model X.prog X.w) X.A X.xe none (EP X pins σ Q) (.ref D) s3.heap.objs.size (.ok .next) s':=fun{σ' H' s'} J q=>by
  obtain ⟨m,hn,_⟩:=J.loc
  refine ⟨m,hn,fun h' g9=>⟨.ref D,H',?_,rfl,q⟩⟩
  have old:∀b o,s3.heap.get? b=some o→b≠s3.heap.objs.size:=below
  have u1:Un (cJ X.stack) fp (upd H2 D (.lst [])) H' s3.heap h':=by
   refine ⟨fun b o e n hb hx=>?_,fun b o e n hb hx=>?_,J.base.free,fun b o e hx=>?_,J.base.gy,J.base.fY,J.base.gz⟩
   ·exact (g9.2 b (old b o e)).trans (J.base.keep b o e n hb hx)
   ·obtain ⟨sl,z⟩:=J.base.slot b o e n hb hx
    exact ⟨sl,(g9.2 b (old b o e)).trans z⟩
   ·obtain ⟨o',z⟩:=J.base.there b o e hx
    exact ⟨o',(g9.2 b (old b o e)).trans z⟩
  have wu:cL X.prog X.w H' h':=fun b u e=>by
   refine (J.aF b u e).ik (fun c v hc z=>(g9.2 c fun y=>?_).trans z) (fun _ z=>z) fun _ _ z=>z
   have fr:=J.free
   have y':c=s3.heap.objs.size:=y
   rcases hc with hc | hc
   ·rw [←hc,y'] at e
    exact absurd (fr.symm.trans e) (by simp)
   ·rw [y'] at hc
    exact absurd (fr.symm.trans hc) (by simp)
  refine I3.mB (s':={s' with heap:=h'}) (ch:=fp) (J.os) u1 wu J.bare fun b hb=>?_
  obtain ⟨g0,g1,g2,g3,g4,g5⟩:=f2 b hb
  exact ⟨g3,g1,g4,g5⟩
 have gB:∀{H':Hp},(∀b∈fp,H' b=none)→∀b∈fp,k7 (X.bV N scope cl s3 (upd H2 D (.lst [])) fp) [] H' b:=fun hn b hb=>by
  refine ⟨hn b hb,?_,?_,.inl hb,fun y c e z=>(f2 b hb).2.2.2.2.1 y c (dQ y c e) z,fun p hp=>nomatch hp⟩
  ·obtain ⟨o,e,_⟩:=jC b hb
   exact below b o (g8 b o e)
  ·exact fE.oH b hb
 have loop:∀tk:Nat,codeAny (model X.prog X.w) X.A (.compLoop (.ListComp elt [⟨.Tuple [.Name x px,.Name y py] zk tp,iter,ifs,0⟩] scope pos) 0 (.ref it) (.ref D) (compEnvC scope cl s3.heap.objs.size X.env))
   (compPost (model X.prog X.w) X.A X.xe none (EP X pins σ Q) (.ref D) s3.heap.objs.size) {s3 with heap:=h₁,toks:=tk}:=fun tk=>by
  refine QB (fun n s'=>∃i ys o o2 H',Inv (X.bV N scope cl s3 (upd H2 D (.lst [])) fp) [] (o::o2::ρ σ) H' s'∧tn i s'.heap∧(∀b∈fp,H' b=none)∧W i n ys H') ?_ m0
   ⟨0,[],none,none,_,IB tk,T.keep _ _ _ ir fun b hb o e=>eS _ _ (g8 _ _ e),fun b hb=>by rw [b7 (wo b hb)];exact (f2 b hb).1,w0⟩
  rintro n s4 ⟨i,ys,o,o2,H4,I4,mT,mU,w4⟩
  obtain ⟨Ij,wx⟩:=turn i n ys H4 w4
  rcases wx with ⟨stop,qn⟩ | ⟨go,step⟩
  ·refine cS (T.done (X.bV N scope cl s3 (upd H2 D (.lst [])) fp) rfl rfl rfl hc i [] s4 _ H4 (fun _ _=>False) I4 (gB mU) mT stop) (fun r s5 ⟨hr,I5⟩=>?_) fun _ _ z=>z.elim
   subst hr
   exact fin I5 qn
  ·refine cS (T.item (X.bV N scope cl s3 (upd H2 D (.lst [])) fp) rfl rfl rfl hc i [] s4 _ H4 (fun _ _=>False) I4 (gB mU) mT go) (fun r s5 ⟨u,hr,h5⟩=>?_) fun _ _ z=>z.elim
   subst hr
   refine cS h5 (fun _ s5 ⟨y0,H5,I5,r5,y5,gC,oO⟩=>?_) fun _ _ z=>z.elim
   obtain ⟨Tt,x1,x2,e0,QE,wy⟩:=step y0 _ y5
   subst e0
   have oP:=I5.pinned (gB oO) (T.obj _ _ gC)
   have pg:PG (X.bV N scope cl s3 (upd H2 D (.lst [])) fp) (.Tuple [.Name x px,.Name y py] zk tp) (GR X.K 2 (Cr (bH 0) (Cr (bH 1) GQ))):=
    yI (X:=X.bV N scope cl s3 (upd H2 D (.lst [])) fp) hc (mE (e_ (i:=0) B.nd B.n0 (.inl (ma B.hx)) (.inr (ma B.hx))) (mE (e_ (i:=1) B.nd B.n1 (.inl (ma B.hy)) (.inr (ma B.hy))) yH))
   have again:∀{σ7:St} {H7:Hp} {s7:Shared},Inv (X.bV N scope cl s3 (upd H2 D (.lst [])) fp) ([]++j_ fp s5.heap) σ7 H7 s7→Inv (X.bV N scope cl s3 (upd H2 D (.lst [])) fp) [] σ7 H7 s7∧tn (i+1) s7.heap∧∀b∈fp,H7 b=none:=fun{σ7 H7 s7} I7=>by
    refine ⟨I7.rY,T.keep _ _ _ gC fun b hb o e=>(I7.pin (b,o) (eZ _ (eZ _ (mI hb e)))).1,fun b hb=>?_⟩
    obtain ⟨o,e,d⟩:=T.obj _ _ gC b hb
    exact (I7.pin (b,o) (eZ _ (eZ _ (mI hb e)))).2.1
   refine cS (pg _ s5 _ H5 (.ref Tt) u (fun σ2 H6=>σ2=some x1::some x2::ρ σ∧H6=H5) oP r5 ⟨Tt,_,rfl,QE,rfl,_,_,rfl,_,_,rfl,rfl,rfl,rfl⟩) (fun _ s6 ⟨σ6,H6,I6,q6⟩=>?_) fun _ _ z=>z.elim
   obtain ⟨rfl,rfl⟩:=q6
   have tests:∀{jD:TT},mR (X.bV N scope cl s3 (upd H2 D (.lst [])) fp) ifs jD→∀{R:Bool→Hp→Prop},jD (some x1::some x2::ρ σ) H6 R→wpAny (model X.prog X.w) X.A
     (forIn ifs true fun c r=>if r=true then do let ok ←isTrue c (compEnvC scope cl s3.heap.objs.size X.env) (eval c (compEnvC scope cl s3.heap.objs.size X.env));pure (ForInStep.yield ok) else pure (ForInStep.yield r))
     (fun ok s7=>∃H7,Inv (X.bV N scope cl s3 (upd H2 D (.lst [])) fp) ([]++j_ fp s5.heap) (some x1::some x2::ρ σ) H7 s7∧R ok H7) (fun _ _=>False) s6:=fun{jD} p {R} hR=>by
    cases p with
    | nil=>exact wpAny_tests_nil ⟨_,I6,hR⟩
    | one p=>exact wpAny_tests_one (p _ s6 _ _ _ I6 hR)
   refine cS (tests (ht s3 _ fp) wy) (fun ok s7 ⟨H7,I7,q7⟩=>?_) fun _ _ z=>z.elim
   cases ok with
   | false=>
    obtain ⟨m',jE,w7⟩:=q7
    obtain ⟨a1,a2,a3⟩:=again I7
    exact ⟨m',jE,i+1,ys,_,_,H7,a1,a2,a3,w7⟩
   | true=>
    refine cS (he s3 _ fp _ s7 _ H7 _ I7 q7) (fun ev s8 ⟨z,H8,I8,r8,wC,hz,m',jE,w8⟩=>?_) fun _ _ z=>z.elim
    refine cS (yR (X:=X.bV N scope cl s3 (upd H2 D (.lst [])) fp) _ s8 _ H8 (.ref D) [z] (.ref D) [ev] (fun _ H9=>H9=upd H8 D (.lst (ys++[z]))) I8 rfl (.cons r8 .nil) ⟨D,ys,z,rfl,rfl,wC,hz,rfl⟩) (fun _ s9 ⟨_,H9,I9,_,q9⟩=>?_) fun _ _ z=>z.elim
    subst q9
    obtain ⟨a1,a2,a3⟩:=again I9
    exact ⟨m',jE,i+1,ys++[z],_,_,_,a1,a2,a3,w8⟩
 have start:=loop (s3.toks+([]:List (Str×Value)).length)
 have es:({s3 with heap:=h₁,toks:=s3.toks+([]:List (Str×Value)).length}:Shared)={s2 with heap:=h₁,toks:=s2.toks+([]:List (Str×Value)).length}:=by rw [←eQ]
 rw [es] at start
 exact B7 start (T.self _ 0 _ _ _ (T.keep _ _ _ ir fun b hb o e=>eS _ _ (g8 _ _ e)) start)
end
section
variable {X:Cx}
end
section
variable {M:Model} {A:Around} {E:b_} {s:Shared}
end
section
variable {X:Cx} {N:List Str} {scope:Scope} {cl:List (Str×Addr)} {x:Str} {px pos:Pos} {iter elt:Expr} {ifs:List Expr} {wi:TI} {ρ:St→St} {tt:TT} {te:TE}
end
def wJ(K:aE)(H:Hp):Nat→V→V→Prop
 | 0,v,u=>v=u∧kh v=true
 | n+1,v,u=>(v=u∧kh v=true)∨∃a b xs ys,v=.ref a∧u=.ref b∧((a_ K H a xs∧a_ K H b ys)∨(d7 K H a xs∧d7 K H b ys))∧xs.length=ys.length∧∀(j:Nat) (x y:V),xs[j]?=some x→ys[j]?=some y→wJ K H n x y
theorem IH{v:V}(h:kh v=true):sD v v=true:=by
 cases v with
 | aV=>rfl
 | bl b=>show (b == b)=true;simp
 | int i=>show (i == i)=true;simp
 | str x=>show (x == x)=true;simp
 | _=>cases h
theorem all_range(n:Nat):(List.range n).all (fun _=>true)=true:=by simp
section
variable {X:Cx} {pins:aY} {σ:St} {H:Hp} {s:Shared}
theorem zm(I:Inv X pins σ H s):∀(n:Nat) (A:Around) (v u:V) (a b:Value),wJ X.K H n v u→RelV v a→RelV u b→A.units+n<cLine→SeqAt.EqAt A s a b true
 | 0,A,v,u,a,b,h,ra,rb,hu=>by obtain ⟨rfl,hf⟩:=h;have z:=CM (A:=A) (s:=s) ra rb hf hf;rw [IH hf] at z;exact z
 | n+1,A,v,u,a,b,h,ra,rb,hu=>by
  rcases h with ⟨rfl,hf⟩ | ⟨p,q,xs,ys,rfl,rfl,hs,hl,hi⟩
  ·have z:=CM (A:=A) (s:=s) ra rb hf hf
   rw [IH hf] at z;exact z
  ·cases ra
   cases rb;by_cases pq:p=q
   ·subst pq
    exact SeqAt.EqAt.same _
   rcases hs with ⟨h1,h2⟩ | ⟨h1,h2⟩
   ·obtain ⟨us,r1,t1,_⟩:=I.list h1
    obtain ⟨vs,r2,t2,_⟩:=I.list h2;have l1:=r1.length;have l2:=r2.length;have z:=SeqAt.RcAt.lists (A:=A) (e:=fun _=>true) t1.isList t2.isList (by simp;lia) (by lia) (fun j z1 z2=>by
     have Dk:j<us.length:=by simpa using z1
     have Dl:j<vs.length:=by simpa using z2
     obtain ⟨x,ex⟩:∃x,xs[j]?=some x:=⟨xs[j],by simp [show j<xs.length by lia]⟩
     obtain ⟨y,ey⟩:∃y,ys[j]?=some y:=⟨ys[j],by simp [show j<ys.length by lia]⟩
     obtain ⟨x',my,rx⟩:=r1.get ex;obtain ⟨y',pj,ry⟩:=r2.get ey;have e1:us.toArray[j]=x':=by simpa using (cU.mp my).2
     have e2:vs.toArray[j]=y':=by simpa using (cU.mp pj).2
     rw [e1,e2];exact zm I n A.in1 x y x' y' (hi j x y ex ey) rx ry (by rw [yt];lia))
    rw [all_range] at z;exact SeqAt.EqAt.of_refs pq z
   ·obtain ⟨us,r1,t1,_⟩:=I.tuple h1
    obtain ⟨vs,r2,t2,_⟩:=I.tuple h2;have l1:=r1.length;have l2:=r2.length;have z:=SeqAt.RcAt.tuples (A:=A) (e:=fun _=>true) t1 t2 (by lia) (fun j z1 z2=>by
     have Dk:j<us.length:=by simpa using z1
     have Dl:j<vs.length:=by simpa using z2
     obtain ⟨x,ex⟩:∃x,xs[j]?=some x:=⟨xs[j],by simp [show j<xs.length by lia]⟩
     obtain ⟨y,ey⟩:∃y,ys[j]?=some y:=⟨ys[j],by simp [show j<ys.length by lia]⟩
     obtain ⟨x',my,rx⟩:=r1.get ex;obtain ⟨y',pj,ry⟩:=r2.get ey;have e1:us.toArray[j]=x':=by simpa using (cU.mp my).2
     have e2:vs.toArray[j]=y':=by simpa using (cU.mp pj).2
     rw [e1,e2];exact zm I n A.in1 x y x' y' (hi j x y ex ey) rx ry (by rw [yt];lia))
    have e3:(us.toArray.size == vs.toArray.size)=true:=by simp;lia
    rw [all_range,e3] at z;exact SeqAt.EqAt.of_refs pq z
end
section
variable {X:Cx}
def Dm(K:aE)(n:Nat)(r:Bool):R2:=fun x y H Q=>∃a b xs ys,x=.ref a∧y=.ref b∧a_ K H a xs∧a_ K H b ys∧xs.length=ys.length∧(∀(j:Nat) (x y:V),xs[j]?=some x→ys[j]?=some y→wJ K H n x y)∧Q (.bl r) H
variable {n:Nat}
theorem abS(hu:X.A.units+64<cLine)(hn:n<60:=by decide):cz X (compareOp .Eq) (Dm X.K n true):=by
 intro pins s σ H x y v u Q I rx ry h;obtain ⟨a,b,xs,ys,rfl,rfl,h1,h2,hl,hi,q⟩:=h;cases rx;cases ry;obtain ⟨us,r1,t1,_⟩:=I.list h1;obtain ⟨vs,r2,t2,_⟩:=I.list h2;have l1:=r1.length;have l2:=r2.length;refine SeqAt.eq_listAt (e:=fun _=>true) t1.isList t2.isList (by simp;lia) (by lia) (fun j z1 z2=>?_) ?_
 ·have Dk:j<us.length:=by simpa using z1
  have Dl:j<vs.length:=by simpa using z2
  obtain ⟨x,ex⟩:∃x,xs[j]?=some x:=⟨xs[j],by simp [show j<xs.length by lia]⟩
  obtain ⟨y,ey⟩:∃y,ys[j]?=some y:=⟨ys[j],by simp [show j<ys.length by lia]⟩
  obtain ⟨x',my,rx⟩:=r1.get ex;obtain ⟨y',pj,ry⟩:=r2.get ey;have e1:us.toArray[j]=x':=by simpa using (cU.mp my).2
  have e2:vs.toArray[j]=y':=by simpa using (cU.mp pj).2
  rw [e1,e2];exact zm I n X.A.in1 x y x' y' (hi j x y ex ey) rx ry (by rw [yt];lia)
 ·rw [all_range]
  exact ⟨.bl true,H,I,rfl,q⟩
theorem zo(hu:X.A.units+64<cLine)(hn:n<60:=by decide):cz X (compareOp .NotEq) (Dm X.K n false):=by
 intro pins s σ H x y v u Q I rx ry h;obtain ⟨a,b,xs,ys,rfl,rfl,h1,h2,hl,hi,q⟩:=h;cases rx;cases ry;obtain ⟨us,r1,t1,_⟩:=I.list h1;obtain ⟨vs,r2,t2,_⟩:=I.list h2;have l1:=r1.length;have l2:=r2.length;refine SeqAt.RcNeAt.lists (e:=fun _=>true) t1.isList t2.isList (by simp;lia) (by lia) (fun j z1 z2=>?_) _ _ _ _ ?_
 ·have Dk:j<us.length:=by simpa using z1
  have Dl:j<vs.length:=by simpa using z2
  obtain ⟨x,ex⟩:∃x,xs[j]?=some x:=⟨xs[j],by simp [show j<xs.length by lia]⟩
  obtain ⟨y,ey⟩:∃y,ys[j]?=some y:=⟨ys[j],by simp [show j<ys.length by lia]⟩
  obtain ⟨x',my,rx⟩:=r1.get ex;obtain ⟨y',pj,ry⟩:=r2.get ey;have e1:us.toArray[j]=x':=by simpa using (cU.mp my).2
  have e2:vs.toArray[j]=y':=by simpa using (cU.mp pj).2
  rw [e1,e2];exact zm I n X.A.in1 x y x' y' (hi j x y ex ey) rx ry (by rw [yt];lia)
 ·rw [all_range]
  exact ⟨.bl false,H,I,rfl,q⟩
end
section
variable {X:Cx} {N:List Str} {scope:Scope} {cl:List (Str×Addr)} {x:Str} {px pos:Pos} {iter elt:Expr} {ifs:List Expr} {wi:TI} {ρ:St→St} {tt:TT} {te:TE}
end
structure zp (J:It) (zs:List (V×V)) (H1:Hp):Prop where
 go:∀i Hc,ai H1 Hc→i<zs.length→J.go i Hc
 eI:∀i Hc v H',ai H1 Hc→J.eI i Hc v H'→∃T x y,v=.ref T∧Hc T=none∧H'=upd Hc T (.tup [x,y])∧(i<zs.length→zs[i]?=some (x,y))
 stop:∀i Hc,ai H1 Hc→zs.length≤i→J.stop i Hc
theorem Dn{a b:Addr}{ys:List V}(h1:a_ K H1 a xs)(h2:a_ K H1 b ys):zp (Dh K a b) (xs.zip ys) H1 where
 go:=fun i Hc s hi=>by
  have hi:i<min xs.length ys.length:=by simpa using hi
  exact ⟨xs,ys,xs[i],ys[i],s.seq h1,s.seq h2,by simp [show i<xs.length by lia],by simp [show i<ys.length by lia]⟩
 eI:=fun i Hc v H' s y=>by obtain ⟨T,x,y,nT,ev,eH,hx⟩:=y;obtain ⟨e1,e2⟩:=hx xs ys (s.seq h1) (s.seq h2);exact ⟨T,x,y,ev,nT,eH,fun _=>by rw [Cc];exact ⟨e1,e2⟩⟩
 stop:=fun i Hc s hi=>by
  have hi:min xs.length ys.length≤i:=by simpa using hi
  exact ⟨xs,ys,s.seq h1,s.seq h2,by lia⟩
theorem QF{zs:List (V×V)}(iB:∀R:It→Hp→Prop,(∀J H1,ai H H1→zp J zs H1→R J H1)→wi σ H R)(hn:zs.length<sizeLine)
  (P:Nat→V→Prop)
  (step:∀i x y,zs[i]?=some (x,y)→∀(Hc:Hp) (R:VK),ai H Hc→(∀v H3,ai Hc H3→P i v→R v H3)→te (some x::some y::ρ σ) Hc R)
  (fin:∀D vs Hc,ai H Hc→vs.length=zs.length→(∀(i:Nat) (v:V),vs[i]?=some v→P i v)→Hc D=some (.lst vs)→Q (.ref D) Hc):zj K wi ρ (fun _ H Q=>Q true H) te σ H Q:=by
 refine iB _ fun J H1 s1 js=>?_;intro D nD;refine ⟨fun i m vs Hc=>m=zs.length-i∧i≤zs.length∧Hc D=some (.lst vs)∧ai H1 Hc∧vs.length=i∧∀(j:Nat) (v:V),vs[j]?=some v→P j v,⟨_,rfl,b9 _,av,kn (ai.refl H1) nD,rfl,fun j y e=>by simp at e⟩,?_⟩
 rintro i m vs Hc ⟨rfl,hi,eD,sH,el,hP⟩;refine ⟨eD,?_⟩;by_cases cK:i<zs.length
 ·refine .inr ⟨js.go i Hc sH cK,fun v H' hy=>?_⟩
  obtain ⟨T,x,y,ev,nT,eH,hx⟩:=js.eI i Hc v H' sH hy;subst ev eH;refine ⟨T,x,y,rfl,.of av,?_⟩;dsimp only;rw [ar rfl];have sT:ai Hc (upd Hc T (.tup [x,y])):=fun b o e=>by rw [b7 (fq e nT)];exact e
  refine step i x y (hx cK) _ _ (s1.trans (sH.trans sT)) fun w H3 s3 hp=>?_;have e3:=s3 _ _ (sT _ _ eD);refine ⟨e3,by lia,zs.length-(i+1),by lia,rfl,cK,av,kn (sH.trans (sT.trans s3)) nD,by simp [el],fun j v' e=>?_⟩
  by_cases hj:j<i;·exact hP j v' (by rw [ib (by lia)] at e;exact e)
  ·have hj:j=i:=by have:=(cU.mp e).1;simp at this;lia
   subst hj;have e':v'=w:=by rw [gQ (by lia),el,kS] at e;simpa using e.symm
   subst e';exact hp
 ·have e:i=zs.length:=by lia
  subst e;exact .inl ⟨js.stop _ Hc sH (aN _),fin D vs Hc (s1.trans sH) el hP eD⟩
theorem pk(iB:∀R:It→Hp→Prop,(∀J H1,ai H H1→sP J xs H1→R J H1)→wi σ H R)(hn:xs.length<sizeLine)
  (P:Addr→Nat→V→Hp→Prop) (mono:∀D i y H H' ys,P D i y H→H D=some (.lst ys)→(∀b o,b≠D→H b=some o→H' b=some o)→P D i y H')
  (step:∀D i x,xs[i]?=some x→∀(Hc:Hp) (R:VK),ai H Hc→(∃ys,Hc D=some (.lst ys))→(∀y H3,ai Hc H3→P D i y H3→R y H3)→te (some x::ρ σ) Hc R)
  (fin:∀D ys Hc,H D=none→ai H Hc→ys.length=xs.length→(∀(i:Nat) (y:V),ys[i]?=some y→P D i y Hc)→Hc D=some (.lst ys)→Q (.ref D) Hc):o8 wi ρ (fun _ H Q=>Q true H) te σ H Q:=by
 refine iB _ fun J H1 s1 js=>?_;intro D nD;have hD:H D=none:=by
  cases e:H D with
  | none=>rfl
  | some o=>rw [s1 _ _ e] at nD;cases nD
 exact IC (ρσ:=ρ σ) (te:=te) (Q:=Q) js nD hn (P D) (mono D) (fun i x hx Hc R sc=>step D i x hx Hc R (s1.trans sc)) (fun ys Hc sc=>fin D ys Hc hD (s1.trans sc))
section
variable {X:Cx} {K:aE}
theorem zq(hK:X.K=K:=by rfl):sv X (HN K):=by subst hK;exact a8
theorem QG(hK:X.K=K:=by rfl):sv X (HM K):=by subst hK;exact bP
end
end L2
namespace My
open PySem L2
variable {te:TE} {σ:St} {H:Hp} {Q:VK}
theorem QH{r:List V→Hp→VK→Prop}(h:te σ H fun x H1=>r [x] H1 Q):CJ r (cW te ft) σ H Q:=h
theorem wK{D:Ends}(h:te σ H D.rt):Cp te D σ H:=h
theorem QI{t:TA}(h:te σ H fun x H1=>t σ H1 fun xs H2=>(x::xs).length≤sizeLine∧∀p,H2 p=none→Q (.ref p) (upd H2 p (.tup (x::xs)))):HA (cW te t) σ H Q:=h
theorem zr{vs:List V}{ws:List Int}(hl:vs.length=ws.length)(h:∀(i:Nat) (v:V),vs[i]?=some v→∃w,ws[i]?=some w∧v=.int w):vs=ws.map V.int:=by
 refine yu fun i=>?_;rw [fP];by_cases hi:i<vs.length
 ·obtain ⟨w,e1,e2⟩:=h i vs[i] (by simp [hi])
  rw [e1,show vs[i]?=some vs[i] by simp [hi],e2]
  rfl
 ·rw [kT (by lia),kT (by lia)]
  rfl
def II(H0 H:Hp)(v:V)(ts:List Int)(B:Int):Prop:=∃tp l:Addr,v=.ref tp∧H tp=some (.tup [.ref l,.int B])∧H l=some (.lst (ts.map V.int))∧H0 l=none
variable {b:Int}
theorem QJ{m:Int}(hb:1≤b)(hm:1≤m):1≤b / (Int.gcd b m:Int)*m∧m∣b / (Int.gcd b m:Int)*m∧b∣b / (Int.gcd b m:Int)*m∧(b / (Int.gcd b m:Int)*m).natAbs≤b.natAbs*m.natAbs:=by
 have gp:=pb (a:=b) (b:=m) (by lia)
 obtain ⟨b',eb⟩:=vF (a:=b) (b:=m);obtain ⟨m',em⟩:=ox (a:=b) (b:=m);generalize Int.gcd b m=g at *;have g0:(g:Int)≠0:=by lia
 have gb:b / (g:Int)=b':=by rw [eb];exact me _ g0
 rw [gb];have b0:0<b':=wH (u:=(g:Int)) (by lia) (by rw [←eb];lia)
 have mp:0<b'*m:=Int.mul_pos b0 (by lia)
 refine ⟨by lia,vI ..,⟨m',?_⟩,?_⟩
 ·rw [em,eb]
  simp only [ie,jV,Int.mul_left_comm]
 ·rw [a7]
  refine fW _ ?_;rw [←gb];exact md ..
theorem pick{α β:Type}{xs:List α}{R:Nat→α→β→Prop}(h:∀(i:Nat) (x:α),xs[i]?=some x→∃w,R i x w):∃ws:List β,ws.length=xs.length∧∀(i:Nat) (x:α) (w:β),xs[i]?=some x→ws[i]?=some w→R i x w:=by
 refine ⟨List.ofFn fun i:Fin xs.length=>Classical.choose (h i.1 xs[i.1] (by simp)),by simp,fun i x w hx hw=>?_⟩
 have hi:i<xs.length:=(cU.mp hx).1;have ex:xs[i]=x:=(cU.mp hx).2;rw [List.getElem?_ofFn,dif_pos hi] at hw;have hw:=Option.some.inj hw;rw [←hw];have z:=Classical.choose_spec (h i xs[i] (by simp [hi]))
 rw [←ex];exact z
variable {q:Int}
theorem dR{c:Int}(hq:ax q)(h1:¬q∣b)(h2:¬q∣c):¬q∣b*c:=fun h=>by
 rcases hq with rfl | ⟨q2,q3,q4⟩
 ·have z:=gr.mp h
  rcases Int.mul_eq_zero.mp z with z | z;·exact h1 (by rw [z];exact iR 0)
  ·exact h2 (by rw [z];exact iR 0)
 ·have k1:=du c (show q≠0 by lia)
  have k2:=dJ c (show 0<q by lia)
  have k3:c % q≠0:=fun z=>h2 (Cb z);have g:=C_ q2 q3 q4 (show 1≤c % q by lia) k2
  obtain ⟨w,ew⟩:=zf c q;exact h1 (Iy q2 (Qr g ⟨-w,by rw [gq];lia⟩) h)
def aX(q:Int)(b:Int):Prop:=(q=0→1≤b)∧(q≠0→b=1)
theorem QK{vs:List V}{b:Bool}(h:∀(i:Nat) (v:V),vs[i]?=some v→v=.bl b):vs=(List.replicate vs.length b).map V.bl:=by
 refine yu fun i=>?_;rw [fP];by_cases hi:i<vs.length
 ·rw [show vs[i]?=some vs[i] by simp [hi],h i vs[i] (by simp [hi])]
  simp [hi]
 ·rw [kT (by lia),kT (by simp;lia)]
  rfl
theorem QL(n:Nat):(List.replicate n true).all id=true:=by simp
theorem none_of{H':Hp}{b:Addr}(s:ai H H')(h:H' b=none):H b=none:=by
 cases e:H b with
 | none=>rfl
 | some o=>rw [s _ _ e] at h;cases h
theorem IJ{K:aE}{v u:V}{t t' b':Int}(hv:km H q v t b)(hu:km H q u t' b')(e:t*b'=t'*b)(n:Nat):wJ K H (n+1) v u:=by
 rcases Qt hv hu e with ⟨p,p',x,m,rfl,rfl,e1,e2⟩ | ⟨i,rfl,rfl⟩
 ·refine .inr ⟨p,p',_,_,rfl,rfl,.inr ⟨.of e1,.of e2⟩,rfl,fun j x y h1 h2=>?_⟩
  rw [h1] at h2;cases h2;have hf:kh x=true:=by
   match j,h1 with
   | 0,h1=>cases h1;rfl
   | 1,h1=>cases h1;rfl
   | j+2,h1=>cases h1
  cases n with
  | zero=>exact ⟨rfl,hf⟩
  | succ n=>exact .inl ⟨rfl,hf⟩
 ·exact .inl ⟨rfl,rfl⟩
end My
namespace Srs
abbrev Row:=Nat→Int
def dg(c:Nat)(F:List Row→Int):List Row→List Row→Int
 | _,[]=>0
 | pre,r::post=>r c*F (pre++post)-dg c F (pre++[r]) post
def det:List Nat→List Row→Int
 | [],[]=>1
 | [],_::_=>0
 | c::cs,rows=>dg c (det cs) [] rows
def i7(a b:Int)(x y:Row):Row:=fun i=>a*x i+b*y i
def Dp(F:List Row→Int):Prop:=∀(A B:List Row) (x y:Row) (a b:Int),F (A++i7 a b x y::B)=a*F (A++x::B)+b*F (A++y::B)
def Alt(F:List Row→Int):Prop:=∀(A B:List Row) (x:Row),F (A++x::x::B)=0
section
variable {F:List Row→Int} {c:Nat} {x y:Row} {a b:Int}
theorem IK(hF:Dp F)(P:List Row):∀(rows Q:List Row),dg c F (P++i7 a b x y::Q) rows=a*dg c F (P++x::Q) rows+b*dg c F (P++y::Q) rows
 | [],Q=>by simp [dg]
 | r::post,Q=>by have h1:=hF P (Q++post) x y a b;have h2:=IK hF P post (Q++[r]);simp only [dg,ic,iS] at *;rw [h1,h2];grind
theorem IL(hF:Dp F)(B:List Row):∀(A P:List Row),dg c F P (A++i7 a b x y::B)=a*dg c F P (A++x::B)+b*dg c F P (A++y::B)
 | [],P=>by have h:=IK (c:=c) (x:=x) (y:=y) (a:=a) (b:=b) hF P B [];simp only [fj,dg];rw [h];unfold i7;grind
 | r::A,P=>by have h1:=hF (P++A) B x y a b;have h2:=IL hF B A (P++[r]);simp only [dg,ic,iS] at *;rw [h1,h2];grind
theorem IM(hF:Alt F)(P:List Row):∀(rows Q:List Row),dg c F (P++x::x::Q) rows=0
 | [],Q=>by simp [dg]
 | r::post,Q=>by have h1:=hF P (Q++post) x;have h2:=IM hF P post (Q++[r]);simp only [dg,ic,iS] at *;rw [h1,h2];simp
theorem IP(hF:Alt F)(B:List Row):∀(A P:List Row),dg c F P (A++x::x::B)=0
 | [],P=>by have h:=IM (c:=c) (x:=x) hF P B [];simp only [fj,dg,ic,iS] at *;rw [h];lia
 | r::A,P=>by have h1:=hF (P++A) B x;have h2:=IP hF B A (P++[r]);simp only [dg,ic,iS] at *;rw [h1,h2];simp
theorem IQ:∀(rows P:List Row),(∀r∈rows,r c=0)→dg c F P rows=0
 | [],P,_=>rfl
 | r::post,P,h=>by rw [dg,h r kL,IQ post _ fun r' hr=>h r' (gO _ hr)];simp
end
theorem wL:∀cs,Dp (det cs)
 | []=>fun A B x y a b=>by cases A <;> simp [det]
 | c::cs=>fun A B x y a b=>IL (wL cs) B A []
theorem sR:∀cs,Alt (det cs)
 | []=>fun A B x=>by cases A <;> rfl
 | c::cs=>fun A B x=>IP (sR cs) B A []
variable {r:Row}
theorem IS{c:Nat}{cs:List Nat}{rows:List Row}(h:∀r'∈rows,r' c=0):det (c::cs) (r::rows)=r c*det cs rows:=by show dg c (det cs) [] (r::rows)=_;rw [dg,IQ rows _ h,fj];lia
theorem QM(cs:List Nat)(A B:List Row)(x y:Row):det cs (A++x::y::B)=-det cs (A++y::x::B):=by have h:=sR cs A B (i7 1 1 x y);have l:=wL cs;rw [l A (i7 1 1 x y::B) x y 1 1] at h;have e1:=l (A++[x]) B x y 1 1;have e2:=l (A++[y]) B x y 1 1;simp only [ic,List.singleton_append] at e1 e2;rw [e1,e2,sR cs A B x,sR cs A B y] at h;lia
def nd(cs:List Nat)(rows:List Row):Nat:=(det cs rows).natAbs
section
variable {cs:List Nat}
theorem QN(A B:List Row)(x y:Row):nd cs (A++x::y::B)=nd cs (A++y::x::B):=by unfold nd;rw [QM,Int.natAbs_neg]
theorem wN(x:Row)(B:List Row):∀(L A:List Row),nd cs (A++(L++x::B))=nd cs (A++x::(L++B))
 | [],A=>rfl
 | y::L,A=>by have h:=wN x B L (A++[y]);simp only [ic,fj,iS] at h ⊢;rw [h,QN]
theorem IT(B L:List Row):∀(M A:List Row),nd cs (A++(L++(M++B)))=nd cs (A++(M++(L++B)))
 | [],A=>rfl
 | x::M,A=>by have h:=IT B L M (A++[x]);simp only [ic,fj,iS] at h ⊢;rw [wN,h]
theorem QO{A B:List Row}{y:Row}(h:y∈A∨y∈B):det cs (A++y::B)=0:=by
 refine Int.natAbs_eq_zero.mp (show nd cs (A++y::B)=0 from ?_);rcases h with h | h
 ·obtain ⟨A1,A2,rfl⟩:=List.append_of_mem h
  have m:=wN (cs:=cs) y B A2 (A1++[y]);simp only [ic,fj,iS] at m ⊢;rw [m];unfold nd;rw [sR];rfl
 ·obtain ⟨B1,B2,rfl⟩:=List.append_of_mem h
  have m:=wN (cs:=cs) y B2 B1 (A++[y]);simp only [ic,fj,iS] at m ⊢;rw [m];unfold nd;rw [sR];rfl
end
def comb:List (Int×Row)→Row
 | []=>fun _=>0
 | p::l=>fun i=>p.1*p.2 i+comb l i
theorem IU{cs:List Nat}{A B:List Row}{x:Row}{a:Int}:∀(l:List (Int×Row)),(∀p∈l,p.2∈A∨p.2∈B)→det cs (A++(fun i=>a*x i+comb l i)::B)=a*det cs (A++x::B)
 | [],_=>by
  have e:(fun i=>a*x i+comb [] i)=i7 a 0 x x:=by funext i;simp [comb,i7]
  rw [e,wL];lia
 | p::l,h=>by
  have e:(fun i=>a*x i+comb (p::l) i)=i7 1 p.1 (fun i=>a*x i+comb l i) p.2:=by
   funext i
   simp only [comb,i7];lia
  rw [e,wL,IU l fun p' hp=>h p' (gO _ hp),QO (h p kL)];lia
def sh(k:Nat)(r:Row):Row:=fun i=>if i<3*k then 0 else r (i-3*k)
theorem QP(k d:Nat)(r:Row):sh k (sh d r)=sh (k+d) r:=by
 funext i
 unfold sh;by_cases h:i<3*k;·rw [ar h,ar (by lia)]
 ·rw [ao h]
  by_cases h':i-3*k<3*d;·rw [ar h',ar (by lia)]
  ·rw [ao h',ao (by lia)]
   congr 1
   lia
theorem wO{k u:Nat}(h:k≤u):sh k r (3*u)=r (3*(u-k)):=by
 unfold sh;rw [ao (by lia)]
 congr 1
 lia
theorem QR(r:Row):sh 0 r=r:=by
 funext i
 unfold sh;rw [ao (by lia)]
 rfl
def b5(r:Row):Nat→List Row
 | 0=>[]
 | k+1=>sh k r::b5 r k
theorem m_{r:Row}:∀{n:Nat} {s:Row},s∈b5 r n↔∃k,k<n∧s=sh k r
 | 0,s=>by simp [b5]
 | n+1,s=>by
  rw [b5,dX,m_];constructor
  ·rintro (h | ⟨k,h,e⟩)
   ·exact ⟨n,by lia,h⟩
   ·exact ⟨k,by lia,e⟩
  ·rintro ⟨k,h,e⟩
   by_cases z:k=n;·exact .inl (by rw [e,z])
   ·exact .inr ⟨k,by lia,e⟩
def cols:Nat→Nat→List Nat
 | _,0=>[]
 | hi,k+1=>3*hi::cols (hi-1) k
def Red(a:Int)(f g h:Row)(d:Nat):Prop:=∃l:List (Int×Nat),(∀p∈l,p.2≤d)∧∀i,h i=a*f i+comb (l.map fun p=>(p.1,sh p.2 g)) i
theorem IV(K:Nat)(g:Row):∀(l:List (Int×Nat)) (i:Nat),sh K (comb (l.map fun p=>(p.1,sh p.2 g))) i=comb (l.map fun p=>(p.1,sh (K+p.2) g)) i
 | [],i=>by unfold sh comb;simp
 | p::l,i=>by
  have h:=IV K g l i;have e:sh K (sh p.2 g) i=sh (K+p.2) g i:=by rw [QP]
  simp only [rB,comb];rw [←h,←e];unfold sh;by_cases z:i<3*K <;> simp [z,comb]
theorem Dq{cs:List Nat}{a:Int}{f g h:Row}{d M:Nat}(red:Red a f g h d):∀(K:Nat) (A:List Row),K+d≤M→a.natAbs ^ K*nd cs (A++(b5 f K++b5 g M))=nd cs (A++(b5 h K++b5 g M))
 | 0,A,_=>by simp [b5]
 | K+1,A,hM=>by
  obtain ⟨l,hl,e⟩:=id red;have ih:=Dq (cs:=cs) (M:=M) red K (A++[sh K h]) (by lia)
  simp only [ic,fj,iS,b5] at ih ⊢;rw [←ih];have eh:sh K h=fun i=>a*sh K f i+comb (l.map fun p=>(p.1,sh (K+p.2) g)) i:=by
   funext i
   rw [←IV];unfold sh;by_cases z:i<3*K;·simp [z]
   ·simp only [ao z];exact e _
  have dc:=IU (cs:=cs) (A:=A) (B:=b5 f K++b5 g M) (x:=sh K f) (a:=a) (l.map fun p=>(p.1,sh (K+p.2) g)) fun p hp=>by obtain ⟨p',QS,rfl⟩:=fm.mp hp;exact .inr (eZ _ (m_.mpr ⟨K+p'.2,by have:=hl p' QS;lia,rfl⟩))
  rw [←eh] at dc;unfold nd;rw [dc,a7,fo];grind
theorem Dr{g:Row}{m t:Nat}{H:List Row}(g0:∀u,m<u→g (3*u)=0):∀(p M hi cnt ph:Nat),hi+1=m+(M+p)→ph+p≤hi→(∀r∈H,∀u,ph<u→r (3*u)=0)→nd (cols hi (cnt+p)++[t]) (H++b5 g (M+p))=(g (3*m)).natAbs ^ p*nd (cols (hi-p) cnt++[t]) (H++b5 g M)
 | 0,M,hi,cnt,ph,_,_,_=>by simp
 | p+1,M,hi,cnt,ph,e1,e2,hH=>by
  have ih:=Dr (t:=t) g0 p M (hi-1) cnt ph (by lia) (by lia) hH
  have mv:=wN (cs:=cols hi (cnt+(p+1))++[t]) (sh (M+p) g) (b5 g (M+p)) H [];rw [show b5 g (M+(p+1))=sh (M+p) g::b5 g (M+p) from rfl];rw [fj,fj] at mv;rw [mv];have pl:det (cols hi (cnt+(p+1))++[t]) (sh (M+p) g::(H++b5 g (M+p)))=g (3*m)*det (cols (hi-1) (cnt+p)++[t]) (H++b5 g (M+p)):=by
   have:=IS (c:=3*hi) (cs:=cols (hi-1) (cnt+p)++[t]) (r:=sh (M+p) g) (rows:=H++b5 g (M+p)) fun r hr=>by
    rcases h_.mp hr with hr | hr;·exact hH r hr hi (by lia)
    ·obtain ⟨k,hk,rfl⟩:=m_.mp hr
     rw [wO (by lia)]
     exact g0 _ (by lia)
   rw [wO (by lia),show hi-(M+p)=m by lia] at this
   exact this
  unfold nd at ih ⊢;rw [pl,a7,ih,fo,show hi-1-p=hi-(p+1) by lia]
  grind
theorem Ds{h:Row}{l t:Nat}(h0:∀u,l<u→h (3*u)=0):∀k,nd (cols (l+k) k++[t]) (b5 h (k+1))=(h (3*l)).natAbs ^ k*(h t).natAbs
 | 0=>by unfold nd b5 b5 cols;show (dg t (det []) [] [sh 0 h]).natAbs=_;rw [QR];simp [dg,det]
 | k+1=>by
  have ih:=Ds h0 (t:=t) k;have pl:=IS (c:=3*(l+(k+1))) (cs:=cols (l+k) k++[t]) (r:=sh (k+1) h) (rows:=b5 h (k+1)) fun r hr=>by
   obtain ⟨k',hk,rfl⟩:=m_.mp hr;rw [wO (by lia)]
   exact h0 _ (by lia)
  rw [wO (by lia),show l+(k+1)-(k+1)=l by lia] at pl
  unfold nd at ih ⊢;rw [show cols (l+(k+1)) (k+1)++[t]=3*(l+(k+1))::(cols (l+k) k++[t]) from rfl,show b5 h (k+1+1)=sh (k+1) h::b5 h (k+1) from rfl,pl,a7,ih,fo];grind
theorem IW{cs:List Nat}{c:Row}{e:Int}:∀(K:Nat) (A:List Row),nd cs (A++b5 (fun i=>e*c i) K)=e.natAbs ^ K*nd cs (A++b5 c K)
 | 0,A=>by simp [b5]
 | K+1,A=>by
  have ih:=IW (cs:=cs) (c:=c) (e:=e) K (A++[sh K fun i=>e*c i]);simp only [ic,fj,iS,b5] at ih ⊢;rw [ih];have es:(sh K fun i=>e*c i)=i7 e 0 (sh K c) (sh K c):=by
   funext i
   unfold sh i7;by_cases z:i<3*K <;> simp [z]
  unfold nd;rw [es,wL,jk,oz,a7,fo];grind
def S(j:Nat)(f:Row)(n:Nat)(g:Row)(m t:Nat):Nat:=nd (cols (n+m-j-1) (n+m-2*j-1)++[t]) (b5 f (m-j)++b5 g (n-j))
section
variable {f g h:Row} {n m l j t:Nat} {a:Int}
theorem IY(h0:∀u,l<u→h (3*u)=0)(K:Nat):∀r∈b5 h K,∀u,l+K-1<u→r (3*u)=0:=fun r hr u hu=>by
 obtain ⟨k,hk,rfl⟩:=m_.mp hr;rw [wO (by lia)]
 exact h0 _ (by lia)
theorem QT(red:Red a f g h (n-m))(mn:m≤n)(g0:∀u,m<u→g (3*u)=0)(h0:∀u,l<u→h (3*u)=0)(lm:l<m)(jl:j<l):a.natAbs ^ (m-j)*S j f n g m t=(g (3*m)).natAbs ^ (n-l)*S j g m h l t:=by
 have r:=Dq (cs:=cols (n+m-j-1) (n+m-2*j-1)++[t]) (M:=n-j) red (m-j) [] (by lia)
 rw [fj,fj] at r;have p:=Dr (t:=t) (H:=b5 h (m-j)) g0 (n-l) (l-j) (n+m-j-1) (m+l-2*j-1) (l+(m-j)-1) (by lia) (by lia) (IY h0 (m-j))
 rw [show m+l-2*j-1+(n-l)=n+m-2*j-1 by lia,show l-j+(n-l)=n-j by lia,show n+m-j-1-(n-l)=m+l-j-1 by lia] at p
 have s:=IT (cs:=cols (m+l-j-1) (m+l-2*j-1)++[t]) [] (b5 h (m-j)) (b5 g (l-j)) [];simp only [fj,ot] at s;unfold S;rw [r,p,s]
theorem IZ(red:Red a f g h (n-m))(mn:m≤n)(g0:∀u,m<u→g (3*u)=0)(h0:∀u,l<u→h (3*u)=0)(lj:l≤j)(jm:j<m):a.natAbs ^ (m-j)*S j f n g m t=(g (3*m)).natAbs ^ (n-j)*nd (cols (m-1) (m-j-1)++[t]) (b5 h (m-j)):=by
 have r:=Dq (cs:=cols (n+m-j-1) (n+m-2*j-1)++[t]) (M:=n-j) red (m-j) [] (by lia)
 rw [fj,fj] at r;have p:=Dr (t:=t) (H:=b5 h (m-j)) g0 (n-j) 0 (n+m-j-1) (m-j-1) (l+(m-j)-1) (by lia) (by lia) (IY h0 (m-j))
 rw [show m-j-1+(n-j)=n+m-2*j-1 by lia,vJ,show n+m-j-1-(n-j)=m-1 by lia,show b5 g 0=[] from rfl,ot] at p
 unfold S;rw [r,p]
theorem QU(red:Red ((g (3*m)) ^ (n-m+1)) f g h (n-m))(mn:m≤n)(m1:1≤m)(G:g (3*m)≠0)(g0:∀u,m<u→g (3*u)=0)(h0:∀u,m-1<u→h (3*u)=0):S (m-1) f n g m t=(h t).natAbs:=by
 have e:=IZ (t:=t) (l:=m-1) (j:=m-1) red mn g0 h0 (aN _) (by lia)
 have p:=Ds (t:=t) h0 0;rw [show m-(m-1)-1=0 by lia,show m-(m-1)=1 by lia] at e
 rw [Nat.add_zero,Nat.pow_zero,Nat.one_mul] at p;rw [p,rH,gu,show n-(m-1)=n-m+1 by lia] at e
 exact vK (jZ (gk.mpr G)) e
end
def Ch(f:Row)(n0:Nat)(g:Row)(m0:Nat)(A:Row)(n:Nat)(B:Row)(m la ht:Nat):Prop:=∀j,j<m→∀t,S j A n B m t=la ^ (m-j)*ht ^ (n-j-1)*S j f n0 g m0 t
section
variable {f g A B C h:Row} {n0 m0 n m l la ht H:Nat}
theorem QV:Ch f n0 g m0 f n0 g m0 1 1:=fun j _ t=>by simp
theorem QW(c:Ch f n0 g m0 A n B m la ht)(red:Red ((B (3*m)) ^ (n-m+1)) A B h (n-m))(mn:m≤n)(m1:1≤m)(G:B (3*m)≠0)(g0:∀u,m<u→B (3*u)=0)(h0:∀u,m-1<u→h (3*u)=0)(t:Nat):(h t).natAbs=la*ht ^ (n-m)*S (m-1) f n0 g m0 t:=by rw [←QU (t:=t) red mn m1 G g0 h0,c (m-1) (by lia) t,show m-(m-1)=1 by lia,rH,show n-(m-1)-1=n-m by lia]
variable {G s gap e k:Nat}
theorem pw_next{S':Nat}(hG:0<G)(hl:0<la)(hh:0<ht)(he:e≤k)(hH:H*ht ^ gap=G ^ gap*ht)(q:(G ^ (gap+1)) ^ (k+1)*(la ^ (k+1)*ht ^ (gap+k)*s)=G ^ (gap+e)*((la*ht ^ gap) ^ (k+1)*S')):S'=G ^ (k+1-e)*H ^ k*s:=by
 have p1:0<G ^ (gap+e)*(la*ht ^ gap) ^ (k+1):=Nat.mul_pos (jZ hG) (jZ (Nat.mul_pos hl (jZ hh)))
 refine vK p1 ?_
 rw [mi,←q]
 have e1:H ^ k*(ht ^ gap) ^ k=(G ^ gap) ^ k*ht ^ k:=by rw [←Nat.mul_pow,hH,Nat.mul_pow]
 have e2:G ^ (gap+e)*G ^ (k+1-e)=G ^ gap*(G ^ k*G):=by
  rw [←Nat.pow_add,←fo,←Nat.pow_add]
  congr 1
  lia
 have e3:(G ^ (gap+1)) ^ (k+1)=(G ^ gap) ^ k*G ^ gap*(G ^ k*G):=by rw [fo G gap,Nat.mul_pow,fo,fo]
 have e4:(la*ht ^ gap) ^ (k+1)=la ^ (k+1)*((ht ^ gap) ^ k*ht ^ gap):=by rw [Nat.mul_pow,fo (ht ^ gap)]
 rw [e3,e4,Nat.pow_add]
 calc _=(G ^ gap*(G ^ k*G))*la ^ (k+1)*ht ^ gap*((G ^ gap) ^ k*ht ^ k)*s:=by grind
  _=(G ^ (gap+e)*G ^ (k+1-e))*la ^ (k+1)*ht ^ gap*(H ^ k*(ht ^ gap) ^ k)*s:=by rw [e1,e2]
  _=_:=by grind
theorem QX{e:Int}(c:Ch f n0 g m0 A n B m la ht)(hl:0<la)(hh:0<ht)(red:Red ((B (3*m)) ^ (n-m+1)) A B (fun i=>e*C i) (n-m))(he:e.natAbs=la*ht ^ (n-m))(mn:m≤n)(G:B (3*m)≠0)(g0:∀u,m<u→B (3*u)=0)(lm:l<m)(c0:∀u,l<u→C (3*u)=0)(hH:H*ht ^ (n-m)=(B (3*m)).natAbs ^ (n-m)*ht):Ch f n0 g m0 B m C l (B (3*m)).natAbs H:=fun j hj t=>by
 have s:=QT (t:=t) red mn g0 (fun u hu=>by rw [c0 u hu,cF]) lm hj
 have gm:=IW (cs:=cols (m+l-j-1) (m+l-2*j-1)++[t]) (c:=C) (e:=e) (m-j) (b5 B (l-j));have QY:S j B m (fun i=>e*C i) l t=e.natAbs ^ (m-j)*S j B m C l t:=gm;rw [QY,c j (by lia) t,he,gu] at s
 obtain ⟨k,hk⟩:∃k,m-j=k+1:=⟨m-j-1,by lia⟩
 have z:=pw_next (gap:=n-m) (e:=m-l) (k:=k) (gk.mpr G) hl hh (by lia) hH (by
  rw [hk,show n-j-1=n-m+k by lia,show n-l=n-m+(m-l) by lia] at s
  exact s)
 rw [z,show k+1-(m-l)=l-j by lia,show k=m-j-1 by lia]
theorem pw_high{e c:Nat}(hG:0<G)(hl:0<la)(hh:0<ht)(hH:H*ht ^ gap=G ^ gap*ht)(q:(G ^ (gap+1)) ^ (k+1)*(la ^ (k+1)*ht ^ (gap+k)*s)=G ^ (gap+(k+1))*((la*ht ^ gap) ^ (k+1)*c ^ (k+1))):s*H ^ k=c ^ (k+1):=by
 have z:=pw_next (e:=k) (S':=G*c ^ (k+1)) hG hl hh (aN _) hH (by
  rw [q,show gap+(k+1)=gap+k+1 by lia,fo]
  grind)
 rw [show k+1-k=1 by lia,rH] at z
 have z:G*c ^ (k+1)=G*(s*H ^ k):=by rw [z];grind
 exact (vK hG z).symm
theorem QZ{e:Int}(c:Ch f n0 g m0 A n B m la ht)(hl:0<la)(hh:0<ht)(red:Red ((B (3*m)) ^ (n-m+1)) A B (fun i=>e*C i) (n-m))(he:e.natAbs=la*ht ^ (n-m))(mn:m≤n)(G:B (3*m)≠0)(g0:∀u,m<u→B (3*u)=0)(lm:l<m)(c0:∀u,l<u→C (3*u)=0)(hH:H*ht ^ (n-m)=(B (3*m)).natAbs ^ (n-m)*ht):S l f n0 g m0 (3*l)*H ^ (m-l-1)=(C (3*l)).natAbs ^ (m-l):=by
 have h0:∀u,l<u→(fun i=>e*C i) (3*u)=0:=fun u hu=>by show e*C (3*u)=0;rw [c0 u hu,cF]
 have s:=IZ (t:=3*l) red mn g0 h0 (aN l) lm;have p:=Ds (h:=fun i=>e*C i) (l:=l) (t:=3*l) h0 (m-l-1);rw [show l+(m-l-1)=m-1 by lia,show m-l-1+1=m-l by lia] at p
 rw [p,c l lm,gu] at s;obtain ⟨k,hk⟩:∃k,m-l=k+1:=⟨m-l-1,by lia⟩
 have z:=pw_high (gap:=n-m) (k:=k) (c:=(C (3*l)).natAbs) (e:=0) (s:=S l f n0 g m0 (3*l)) (gk.mpr G) hl hh hH (by
  rw [hk,show n-l-1=n-m+k by lia,show n-l=n-m+(k+1) by lia] at s
  rw [s,←he];rw [a7,show k+1-1=k by lia,←fo,Nat.mul_pow])
 rw [hk,show k+1-1=k by lia]
 exact z
end
end Srs
namespace My
open PySem L2
def o1:Int×Int:=(0,1)
theorem getD_at{α:Type}{xs:List α}{d:α}{i:Nat}(hi:i<xs.length):xs.getD i d=xs[i]:=by
 rw [fk,show xs[i]?=some xs[i] by simp [hi]]
 rfl
def aS(q:Int)(p t:Int×Int):Prop:=q∣p.1*t.2-t.1*p.2
variable {q:Int}
theorem aS.refl(p:Int×Int):aS q p p:=⟨0,by rw [Int.sub_self,cF]⟩
variable {t:Int×Int}
theorem aS.symm{p:Int×Int}(h:aS q p t):aS q t p:=by obtain ⟨k,e⟩:=h;exact ⟨-k,by rw [gq];lia⟩
variable {x:Int}
theorem aS.cancel{b:Int}(ok:aX q b)(h:q∣b*x):q∣x:=by
 by_cases z:q=0
 ·subst z
  have h0:=gr.mp h;have b1:=ok.1 rfl;rcases Int.mul_eq_zero.mp h0 with e | e;·lia
  ·rw [e];exact iR 0
 ·rw [ok.2 z,kU] at h
  exact h
theorem aS.trans{p s:Int×Int}(h1:aS q p t)(h2:aS q t s)(ok:aX q t.2):aS q p s:=by obtain ⟨k1,e1⟩:=h1;obtain ⟨k2,e2⟩:=h2;refine aS.cancel ok ⟨k1*s.2+k2*p.2,?_⟩;grind
def aQ:Nat→(Nat→Int)→Int
 | 0,_=>0
 | n+1,f=>f 0+aQ n fun i=>f (i+1)
theorem cX:∀{n:Nat} {f g:Nat→Int},(∀i,i<n→f i=g i)→aQ n f=aQ n g
 | 0,f,g,_=>rfl
 | n+1,f,g,h=>by unfold aQ;rw [h 0 (by lia),cX fun i hi=>h (i+1) (by lia)]
theorem zt:∀(n:Nat) (f g:Nat→Int),aQ n (fun i=>f i+g i)=aQ n f+aQ n g
 | 0,f,g=>rfl
 | n+1,f,g=>by show f 0+g 0+aQ n (fun i=>f (i+1)+g (i+1))=(f 0+aQ n fun i=>f (i+1))+(g 0+aQ n fun i=>g (i+1));rw [zt n];lia
theorem sS(c:Int):∀(n:Nat) (f:Nat→Int),c*aQ n f=aQ n fun i=>c*f i
 | 0,f=>by unfold aQ;rw [cF]
 | n+1,f=>by unfold aQ;rw [jW,sS c n]
theorem jG:∀(n:Nat),aQ n (fun _=>0)=0
 | 0=>rfl
 | n+1=>by unfold aQ;rw [jG n];rfl
theorem I0:∀(n j:Nat) (f:Nat→Int),j<n→aQ n (fun i=>if i=j then f i else 0)=f j
 | n+1,0,f,_=>by
  show (if (0:Nat)=0 then f 0 else 0)+aQ n (fun i=>if i+1=0 then f (i+1) else 0)=f 0
  rw [ar rfl,show (fun i=>if i+1=0 then f (i+1) else 0)=fun _=>(0:Int) from funext fun i=>ao (by lia),jG]
  lia
 | n+1,j+1,f,h=>by
  show (if (0:Nat)=j+1 then f 0 else 0)+aQ n (fun i=>if i+1=j+1 then f (i+1) else 0)=f (j+1)
  rw [ao (by lia),show (fun i=>if i+1=j+1 then f (i+1) else 0)=fun i=>if i=j then (fun i=>f (i+1)) i else 0 from funext fun i=>by by_cases z:i=j <;> simp [z],I0 n j (fun i=>f (i+1)) (by lia)]
  lia
variable {B:Nat} {H:Hp} {v:V}
theorem I_(hB:1≤B){a:Int}(h:pd H q v a 1)(hq:ax q)(ha:a=0∨a=1):aZ B H q v a 1:=by
 rcases h with ⟨rfl,r,rfl,e⟩ | ⟨q2,r,rfl,r0,r1,er⟩
 ·rw [(Iv a).1,(Iv a).2] at e
  exact .bR e ⟨by decide,yr ..⟩ (by rcases ha with rfl | rfl <;> simp [hB]) (by simpa using hB)
 ·have q3:q≤997:=by rcases hq with z | ⟨_,z,_⟩ <;> lia
  rw [mh (show (0:Int)≤1 by decide) (show (1:Int)<q by lia),fO,mh r0 r1] at er
  have ea:a % q=a:=mh (by lia) (by lia)
  rw [ea] at er;subst er;exact .rem r0 r1 q3
theorem Dt(hq:ax q):¬kl q 1:=fun h=>by
 unfold kl at h;rcases hq with rfl | ⟨q2,q3,q4⟩;·rw [ar rfl] at h;lia
 ·rw [ao (by lia),mh (by lia) (by lia)] at h;lia
theorem aX.mul{a b:Int}(h1:aX q a)(h2:aX q b):aX q (a*b):=⟨fun z=>by
  have:=Int.mul_pos (show 0<a by have:=h1.1 z;lia) (show 0<b by have:=h2.1 z;lia)
  lia,fun z=>by rw [h1.2 z,h2.2 z];rfl⟩
theorem aX.one:aX q 1:=⟨fun _=>by decide,fun _=>rfl⟩
def er(P:Addr)(H:Hp):Hp:=fun b=>if b=P then none else H b
variable {P:Addr}
theorem dS:ai (er P H) H:=fun b o e=>by
 unfold er at e
 split at e
 ·cases e
 ·exact e
variable {b:Addr}
theorem pz(h:b≠P):er P H b=H b:=ao h
variable {o:HO}
theorem lB(h:b≠P)(e:H b=some o):er P H b=some o:=by rw [pz h];exact e
variable {H':Hp}
theorem wQ(s:ai H H'):ai (er P H) (er P H'):=fun b o e=>by
 unfold er at e ⊢
 split at e
 ·cases e
 ·rename_i h
  rw [ao h];exact s _ _ e
theorem Ja:er P (upd H P o)=er P H:=funext fun b=>by
 unfold er
 split
 ·rfl
 ·rename_i h
  exact b7 h
def cR(H:Hp)(P a:Addr):Prop:=∃x y:Int,H P=some (.lst [.ref a,.int x,.int y])∧0≤x∧0≤y
theorem cR.mono{a:Addr}(h:cR H P a)(s:ai H H'):cR H' P a:=by obtain ⟨x,y,e,h1,h2⟩:=h;exact ⟨x,y,s _ _ e,h1,h2⟩
variable {D:Addr}
theorem cR.upd{a:Addr}(h:cR H P a)(n:D≠P):cR (L2.upd H D o) P a:=by obtain ⟨x,y,e,h1,h2⟩:=h;exact ⟨x,y,by rw [b7 n.symm];exact e,h1,h2⟩
theorem cR.ne{a:Addr}(h:cR H P a)(n:H D=none):D≠P:=fun z=>by obtain ⟨x,y,e,_⟩:=h;rw [z,e] at n;cases n
def aK(P:Addr)(H H':Hp):Prop:=ai (er P H) (er P H')
theorem aK.refl(H:Hp):aK P H H:=ai.refl _
theorem aK.trans{H2:Hp}(s:aK P H H')(t:aK P H' H2):aK P H H2:=ai.trans s t
theorem aK.of(s:ai H H'):aK P H H':=wQ s
theorem aK.kr:aK P H (upd H P o):=by unfold aK;rw [Ja];exact ai.refl _
theorem aK.but(s:aK P H H')(n:H D=none):aK P H (upd H' D o):=fun b u e=>by
 have e0:=s b u e;have nb:b≠P:=fun z=>by unfold er at e;rw [ar z] at e;cases e
 rw [pz nb] at e e0 ⊢;rw [b7 (fq e n)];exact e0
theorem aK.at(s:aK P H H')(nb:b≠P)(e:H b=some o):H' b=some o:=by have z:=s b o (lB nb e);rw [pz nb] at z;exact z
def aD(B:Nat)(H:Hp)(q:Int)(a:Addr)(ps:aJ):Prop:=∃vs:List V,H a=some (.lst vs)∧vs.length=ps.length∧∀(i:Nat) (v:V) (p:Int×Int),vs[i]?=some v→ps[i]?=some p→aZ B H q v p.1 p.2
variable {ps:aJ}
theorem aD.mono{a:Addr}(h:aD B H q a ps)(s:ai H H'):aD B H' q a ps:=by obtain ⟨vs,e,l,k⟩:=h;exact ⟨vs,s _ _ e,l,fun i v p h1 h2=>(k i v p h1 h2).mono s⟩
variable {B':Nat} {m:Int}
theorem aZ.weak(h:aZ B H q v x m)(hb:B≤B'):aZ B' H q v x m:=by
 cases h with
 | bR e l bx bm=>exact .bR e l (ae bx hb) (ae bm hb)
 | rem h0 h1 h2=>exact .rem h0 h1 h2
theorem aD.weak{a:Addr}(h:aD B H q a ps)(hb:B≤B'):aD B' H q a ps:=by obtain ⟨vs,e,l,k⟩:=h;exact ⟨vs,e,l,fun i v p h1 h2=>(k i v p h1 h2).weak hb⟩
variable {K:aE}
theorem abT(hq:ax q){a:Addr}(h1:aD B H q a ps)(h2:aD B' H q b ps)(n:Nat):wJ K H (n+2) (.ref a) (.ref b):=by
 obtain ⟨vs,e1,l1,f1⟩:=h1;obtain ⟨us,e2,l2,f2⟩:=h2;refine .inr ⟨a,b,vs,us,rfl,rfl,.inl ⟨.of e1,.of e2⟩,by lia,fun j x y hx hy=>?_⟩
 have hj:j<ps.length:=by rw [←l1];exact (cU.mp hx).1
 exact IJ ((f1 j x ps[j] hx (by simp [hj])).ze hq) ((f2 j y ps[j] hy (by simp [hj])).ze hq) rfl n
variable {R:VK}
theorem wR(hq:ax q){a:Addr}{r:Bool}(h1:aD B H q a ps)(h2:aD B' H q b ps)(k:R (.bl r) H):Dm K 1 r (.ref a) (.ref b) H R:=by
 obtain ⟨vs,e1,l1,f1⟩:=h1;obtain ⟨us,e2,l2,f2⟩:=h2;refine ⟨a,b,vs,us,rfl,rfl,.of e1,.of e2,by lia,fun j x y hx hy=>?_,k⟩
 have hj:j<ps.length:=by rw [←l1];exact (cU.mp hx).1
 exact IJ ((f1 j x ps[j] hx (by simp [hj])).ze hq) ((f2 j y ps[j] hy (by simp [hj])).ze hq) rfl 0
theorem Jb{u:V}(hv:aZ B H q v x m)(hu:aZ B' H q u 0 1)(k:R (.bl (decide (x=0))) H):Ir K v u H R:=by
 cases hv with
 | bR e l bx bm=>
  cases hu with
  | bR e' l' _ _=>
   refine .inr (.inr (.inl ⟨_,_,_,_,rfl,rfl,.of e,.of e',rfl,rfl,?_⟩));have z:(gX [V.int x,V.int m] [V.int 0,V.int 1])=decide (x=0):=by
    show ((x == 0) && ((m == 1) && true))=_;by_cases hx:x=0
    ·subst hx
     have:=l.zb;rw [Int.gcd_zero_left] at this;have:=l.pos;have:m=1:=by lia
     subst this;rfl
    ·rw [fM hx,show (x == 0)=false from vv.mpr hx]
     rfl
   show R (.bl (gX [V.int x,V.int m] [V.int 0,V.int 1])) H;rw [z];exact k
  | rem h0 h1 h2=>lia
 | rem h0 h1 h2=>
  cases hu with
  | bR=>lia
  | rem m7 zg Jc=>
   refine .inr (.inr (.inr ⟨by simp [CA],?_⟩))
   rw [o9];exact k
def dh(ps:aJ):Nat→Nat
 | 0=>0
 | n+1=>if (ps.getD n o1).1=0 then dh ps n else n+1
theorem Du(ps:aJ):∀n,dh ps n≤n
 | 0=>aN _
 | n+1=>by
  unfold dh
  split
  ·exact ae (Du ps n) (Nat.le_succ n)
  ·exact aN _
def aM(ps:aJ):List (Int×Int):=ps.take (dh ps ps.length)
theorem sU(xs:List V)(k:Nat)(h:k≤xs.length):mM xs none (some (k:Int))=xs.take k:=by
 have e:HT.d9 xs.length xs.length (some (k:Int))=k:=by rw [HT.OR];lia
 unfold mM;rw [e,show HT.d9 xs.length 0 none=0 from rfl,List.drop_zero,rJ]
theorem aD.take{r:Addr}{vs:List V}{k:Nat}(e:H r=some (.lst (vs.take k)))(l:vs.length=ps.length)(f:∀(i:Nat) (v:V) (p:Int×Int),vs[i]?=some v→ps[i]?=some p→aZ B H q v p.1 p.2):aD B H q r (ps.take k):=by
 refine ⟨vs.take k,e,by simp [l],fun i v p h1 h2=>?_⟩
 have hi:i<k:=by have:=(cU.mp h1).1;rw [l_] at this;lia
 rw [B0 hi] at h1 h2;exact f i v p h1 h2
end My
namespace L2
open PySem PySem.Spec PyProof.Rows
def Q0(K:aE):R2:=fun x y H Q=>∃a b xs,x=.ref a∧y=.ref b∧a_ K H a xs∧H b=some (.lst [])∧(∀v∈xs,∃i,v=.int i)∧Q (.bl (!xs.isEmpty)) H
theorem Q1{X:Cx}(hu:X.A.units+64<cLine):cz X (compareOp .NotEq) (Q0 X.K):=by
 intro pins s σ H x y v u Q I rx ry h;obtain ⟨a,b,xs,rfl,rfl,h1,h2,_,q⟩:=h;cases rx;cases ry;obtain ⟨us,r1,t1,_⟩:=I.list h1;obtain ⟨vs,r2,t2,_⟩:=I.list (a_.of h2);have l1:=r1.length;have l2:=r2.length;cases xs with
 | nil=>
  refine SeqAt.RcNeAt.lists (e:=fun _=>true) t1.isList t2.isList (by simp at l1 l2 ⊢;lia) (by lia) (fun j z1 z2=>?_) _ _ _ _ ?_
  ·simp at l1
   have:us=[]:=mj.mp l1.symm;subst this;simp at z1
  ·rw [all_range]
   exact ⟨.bl false,H,I,rfl,q⟩
 | cons w ws=>
  refine SeqAt.RcNeAt.lists_lengths t1.isList t2.isList ?_ (by lia) _ _ _ _ ⟨.bl true,H,I,rfl,q⟩
  simp at l1 l2 ⊢;lia
end L2
namespace My
open PySem L2
def jH(q:Int):Td:=if q=0 then .a "fractions" else .b "wheel" q
variable {q:Int}
theorem Q2(hq:ax q):(jH q).good=true:=by
 unfold jH;rcases hq with rfl | ⟨h1,h2,h3⟩;·rw [ar rfl];simp [Td.good,Td.wm]
 ·rw [ao (by lia)];simp [Td.good,Td.wm,Td.i5,h1,h2,h3]
theorem pA:jH 0=.a "fractions":=ar rfl
theorem ni(h:q≠0):jH q=.b "wheel" q:=ao h
def dB(H:Hp)(td:Addr)(q:Int):Prop:=H td=some (.tup (jH q).vs)
variable {H H':Hp}
theorem dB.mono{td:Addr}(h:dB H td q)(s:ai H H'):dB H' td q:=s _ _ h
def Q3:Sp:=fun vs H Q _=>∃c a:Int,vs=[.int c,.int a]∧0≤a∧∀r:Int,0≤r→Q (.int r) H
def Q4(K:aE):Sp:=fun vs H Q _=>∃(P a:Addr) (ns:List Int) (many:Int),vs=[.ref P,.int many]∧cR H P a∧a_ K (er P H) a (ns.map V.int)∧1≤many∧aP many∧∀(r:Int) (H':Hp),0≤r→r<many→aK P H H'→cR H' P a→Q (.int r) H'
def cf(q i:Int):Int×Int:=if q=0 then (i,1) else (i % q,1)
def nj(q:Int)(p r:Int×Int):Int×Int:=if q=0 then (fH (p.1*r.2+r.1*p.2) (p.2*r.2),fI (p.1*r.2+r.1*p.2) (p.2*r.2)) else ((p.1+r.1) % q,1)
def mulQ(q:Int)(p r:Int×Int):Int×Int:=if q=0 then (fH (p.1*r.1) (p.2*r.2),fI (p.1*r.1) (p.2*r.2)) else (p.1*r.1 % q,1)
def Jd(B:Nat):Sp:=fun vs H Q _=>∃(td:Addr) (q i:Int),vs=[.ref td,.int i]∧dB H td q∧ax q∧i.natAbs≤B∧1000≤B∧∀(v:V) (H':Hp),ai H H'→aZ B H' q v (cf q i).1 (cf q i).2→Q v H'
variable {B:Nat} {r:Addr}
theorem zu{a b:Int}(e:H r=some (.tup [.int (fH a b),.int (fI a b)]))(hb:1≤b)(ba:a.natAbs≤B)(bb:b.natAbs≤B):aZ B H 0 (.ref r) (fH a b) (fI a b):=by obtain ⟨u,d,e1,e2,l,l1,l2⟩:=Iq (a:=a) hb;unfold fH fI at e ⊢;rw [e1,e2] at e ⊢;exact .bR e l (ae l1 ba) (ae l2 bb)
def Q5:Sp:=fun vs H Q _=>∃(td:Addr) (q:Int) (v:V) (x m:Int) (B:Nat),vs=[.ref td,v]∧dB H td q∧ax q∧aZ B H q v x m∧B≤10 ^ 300∧∀H',ai H H'→Q (.bl true) H'
def Q6:Sp:=fun vs H Q _=>∃(td a:Addr) (q:Int) (ps:aJ) (B:Nat),vs=[.ref td,.ref a]∧dB H td q∧ax q∧aD B H q a ps∧ps.length≤1000∧B≤10 ^ 300∧∀H',ai H H'→Q (.bl true) H'
def Q7(K:aE):Sp:=fun vs H Q _=>∃(P a:Addr) (ns:List Int),vs=[.ref P]∧cR H P a∧a_ K (er P H) a (ns.map V.int)∧∀(td:Addr) (q:Int) (H':Hp),ax q→aK P H H'→cR H' P a→dB (er P H') td q→Q (.ref td) H'
def Q8(C:Addr):Sp:=fun vs H Q _=>∃(z a:Addr) (q:Int) (ps:aJ) (B:Nat),vs=[.ref z,.ref a]∧df C H z q∧ax q∧aD B H q a ps∧ps.length≤1000∧∀(b:Addr) (H':Hp),ai H H'→H b=none→aD B H' q b (aM ps)→Q (.ref b) H'
def Q9:Sp:=fun vs H Q _=>∃(td a:Addr) (q:Int) (ps:aJ) (B:Nat),vs=[.ref td,.ref a]∧dB H td q∧ax q∧aD B H q a ps∧ps.length≤1000∧∀(b:Addr) (H':Hp),ai H H'→H b=none→aD B H' q b (aM ps)→Q (.ref b) H'
variable {v:V} {x m:Int} {P:Addr}
theorem aZ.er{H':Hp}{a:Addr}(h:aZ B H q v x m)(p:cR H P a):aZ B (er P H) q v x m:=by
 cases h with
 | bR e l bx bm=>refine .bR (lB (fun z=>?_) e) l bx bm;obtain ⟨x,y,e',_⟩:=p;rw [z,e'] at e;cases e
 | rem h0 h1 h2=>exact .rem h0 h1 h2
variable {D:Addr} {ys:List V}
theorem aZ.zy(h:aZ B (My.er P H) q v x m)(eD:H D=some (.lst ys))(k:∀b o,b≠D→b≠P→H b=some o→H' b=some o):aZ B (My.er P H') q v x m:=by
 cases h with
 | bR e l bx bm=>
  rename_i r
  have nP:r≠P:=fun z=>by unfold My.er at e;rw [ar z] at e;cases e
  rw [pz nP] at e;refine .bR (lB nP (k _ _ (fun z=>?_) nP e)) l bx bm;rw [z,eD] at e;cases e
 | rem h0 h1 h2=>exact .rem h0 h1 h2
theorem Dv(eD:H D=some (.lst ys))(hP:∀(i:Nat) (y:V),ys[i]?=some y→∃xm:Int×Int,aZ B H q y xm.1 xm.2):∃ps,aD B H q D ps∧ps.length=ys.length:=by obtain ⟨ps,lp,hp⟩:=pick (R:=fun _ y xm=>aZ B H q y (Prod.fst xm) (Prod.snd xm)) hP;exact ⟨ps,⟨ys,eD,lp.symm,fun i v x h1 h2=>hp i v x h1 h2⟩,lp⟩
theorem aD.cat{vs us:List V}{ps rs:aJ}(e:H r=some (.lst (vs++us)))(l1:vs.length=ps.length)(l2:us.length=rs.length)(f1:∀(i:Nat) (v:V) (p:Int×Int),vs[i]?=some v→ps[i]?=some p→aZ B H q v p.1 p.2)(f2:∀(i:Nat) (v:V) (p:Int×Int),us[i]?=some v→rs[i]?=some p→aZ B H q v p.1 p.2):aD B H q r (ps++rs):=by
 refine ⟨vs++us,e,by simp [l1,l2],fun i v p h1 h2=>?_⟩
 by_cases hi:i<vs.length
 ·rw [ib hi] at h1
  rw [ib (by lia)] at h2
  exact f1 i v p h1 h2
 ·rw [gQ (by lia)] at h1
  rw [gQ (by lia),←l1] at h2
  exact f2 _ v p h1 h2
end My
namespace L2
open PySem PySem.Spec PyProof.Rows
theorem Q_{K:aE}{wi:TI}{ρ:St→St}{te:TE}{σ:St}{H:Hp}{Q:VK}{Z:List (V×V)→Hp→Prop}(iB:∀R:It→Hp→Prop,(∀J H1 zs,ai H H1→zp J zs H1→zs.length<sizeLine→Z zs H1→R J H1)→wi σ H R)
  (P:Addr→Nat→V→Hp→Prop) (mono:∀D i y H H' ys,P D i y H→H D=some (.lst ys)→(∀b o,b≠D→H b=some o→H' b=some o)→P D i y H')
  (step:∀zs H1,Z zs H1→ai H H1→∀D i x y,zs[i]?=some (x,y)→∀(Hc:Hp) (R:VK),ai H1 Hc→(∃ys,Hc D=some (.lst ys))→(∀v H3,ai Hc H3→P D i v H3→R v H3)→te (some x::some y::ρ σ) Hc R)
  (fin:∀zs H1,Z zs H1→ai H H1→∀D vs Hc,H D=none→ai H1 Hc→vs.length=zs.length→(∀(i:Nat) (v:V),vs[i]?=some v→P D i v Hc)→Hc D=some (.lst vs)→Q (.ref D) Hc):zj K wi ρ (fun _ H Q=>Q true H) te σ H Q:=by
 refine iB _ fun J H1 zs s1 js hn hZ=>?_;intro D nD;have hD:H D=none:=by
  cases e:H D with
  | none=>rfl
  | some o=>rw [s1 _ _ e] at nD;cases nD
 refine ⟨fun i m vs Hc=>m=zs.length-i∧i≤zs.length∧Hc D=some (.lst vs)∧ai H1 Hc∧vs.length=i∧∀(j:Nat) (v:V),vs[j]?=some v→P D j v Hc,⟨_,rfl,b9 _,av,kn (ai.refl H1) nD,rfl,fun j y e=>by simp at e⟩,?_⟩
 rintro i m vs Hc ⟨rfl,hi,eD,sH,el,hP⟩;refine ⟨eD,?_⟩;by_cases cK:i<zs.length
 ·refine .inr ⟨js.go i Hc sH cK,fun v H' hy=>?_⟩
  obtain ⟨T,x,y,ev,nT,eH,hx⟩:=js.eI i Hc v H' sH hy;subst ev eH;refine ⟨T,x,y,rfl,.of av,?_⟩;dsimp only;rw [ar rfl];have sT:ai Hc (upd Hc T (.tup [x,y])):=fun b o e=>by rw [b7 (fq e nT)];exact e
  refine step zs H1 hZ s1 D i x y (hx cK) _ _ (sH.trans sT) ⟨vs,sT _ _ eD⟩ fun w H3 s3 hp=>?_;have e3:=s3 _ _ (sT _ _ eD);have cQ:∀b o,b≠D→H3 b=some o→upd H3 D (.lst (vs++[w])) b=some o:=fun b o nb e=>by rw [b7 nb];exact e
  refine ⟨e3,by lia,zs.length-(i+1),by lia,rfl,cK,av,kn (sH.trans (sT.trans s3)) nD,by simp [el],fun j v' e=>?_⟩
  by_cases hj:j<i;·exact mono D j v' Hc _ vs (hP j v' (by rw [ib (by lia)] at e;exact e)) eD fun b o nb e=>cQ b o nb (s3 _ _ (sT _ _ e))
  ·have hj:j=i:=by have:=(cU.mp e).1;simp at this;lia
   subst hj;have e':v'=w:=by rw [gQ (by lia),el,kS] at e;simpa using e.symm
   subst e';exact mono D _ _ H3 _ vs hp e3 cQ
 ·have e:i=zs.length:=by lia
  subst e;exact .inl ⟨js.stop _ Hc sH (aN _),fin zs H1 hZ s1 D vs Hc hD sH el hP eD⟩
end L2
namespace My
open PySem L2
def i8(ps:aJ)(n:Nat):List (Int×Int):=ps++List.replicate (n-ps.length) o1
def Rf(C:Addr):Sp:=fun vs H Q _=>∃(z a:Addr) (q:Int) (ps:aJ) (B n:Nat),vs=[.ref z,.ref a,.int (n:Int)]∧df C H z q∧ax q∧aD B H q a ps∧1≤B∧ps.length≤n∧n≤1000∧∀(b:Addr) (H':Hp),ai H H'→H b=none→aD B H' q b (i8 ps n)→Q (.ref b) H'
theorem i9(ps:aJ):(aM ps).length≤ps.length:=by unfold aM;rw [l_];lia
end My
namespace L2
open PySem PySem.Spec PyProof.Rows
def wU(K:aE)(l:Addr):It:=
  ⟨fun i H=>∃xs x,a_ K H l xs∧xs[i]?=some x,
   fun i H v H'=>∃T x,H T=none∧v=.ref T∧H'=upd H T (.tup [.int (i:Int),x])∧∀xs,a_ K H l xs→xs[i]?=some x,
   fun i H=>∃xs,a_ K H l xs∧xs.length≤i⟩
variable {K:aE} {l:Addr}
theorem Rg{P:Program}{w:World}{elts:List Expr}{k:Nat}{pos:Pos}{e it:Addr}(Je:e≠it):Turn P w K (.Tuple elts k pos) (wU K l) [e,it] e
  (fun i h=>(∃old,IsEnum h e it (i:Int) old)∧h.IsListIter it l i) where
 mem:=by simp
 obj:=fun i h st b hb=>by
  obtain ⟨⟨old,he⟩,h1⟩:=st;simp only [dX,jX,jY] at hb;rcases hb with rfl | rfl;·exact ⟨_,he,fun v z=>by cases z⟩
  ·obtain ⟨o,e,c,d⟩:=h1
   exact ⟨o,e,fun v z=>by rw [d] at z;cases z⟩
 keep:=fun i h h' st k=>by obtain ⟨⟨old,he⟩,h1⟩:=st;exact ⟨⟨old,k _ (by simp) _ he⟩,h1.at fun o e=>k _ (by simp) o e⟩
 item:=by
  intro X hP hw hK hc i pins s σ H E I hf st hg;subst hP hw hK;obtain ⟨⟨old,he⟩,h1⟩:=st;obtain ⟨xs,x,iD,hx⟩:=hg;obtain ⟨aq,rv,p,_⟩:=I.list iD;obtain ⟨u,hu,ru⟩:=rv.get hx;refine wpAny_pyNext_enum_item he h1 p.isList (x:=u) (by simpa using hu) Je fun h' g1 g2 g3 g4 g5=>⟨_,rfl,?_⟩
  refine wpAny_letOwnedTupleGo_enum g1 fun kq q1 sb=>?_;have wI:H s.heap.objs.size=none:=I.aF.fresh (aN _);have lt:∀b o,s.heap.get? b=some o→b≠s.heap.objs.size:=fun b o e=>ej (b8 e);have keep:∀b o,b∉[e,it]→s.heap.get? b=some o→kq.get? b=some o:=fun b o nb e=>by simp only [dX,jX,jY,not_or] at nb;exact sb.extBut _ _ nb.1 (g5 b o nb.1 nb.2 e)
  have elt:e≠s.heap.objs.size:=lt _ _ he;have pT:=sb.extBut _ _ elt.symm g3;have jF:∀{b:Addr} {o:HO} (e:H b=some o),upd H s.heap.objs.size (.tup [.int (i:Int),x]) b=some o:=fun e=>by rw [b7 (fq e wI)];exact e
  have aF:cL X.prog X.w (upd H s.heap.objs.size (.tup [.int (i:Int),x])) kq:=fun b o e=>by
   by_cases hb:b=s.heap.objs.size
   ·subst hb
    rw [av] at e;cases e;exact ⟨by show 2≤sizeLine;decide,[.int i s.toks,u],.cons ⟨_,rfl⟩ (.cons ru .nil),⟨_,pT,rfl,_,rfl⟩⟩
   ·rw [b7 hb] at e
    refine (I.aF b o e).ik (fun c v d4 q=>keep c v (fun m=>?_) q) (fun c q=>jF q) fun c xs q=>jF q;have nn:=(hf c m).1;rcases d4 with rfl | d4;·rw [nn] at e;cases e
    ·rw [nn] at d4;cases d4
  have u1:Un (cJ X.stack) [e,it] H (upd H s.heap.objs.size (.tup [.int (i:Int),x])) s.heap kq:=
   ⟨fun b o e n _ hx=>keep b o hx e,fun b o e n _ hx=>⟨o.slots,keep b o hx e⟩,fun b o e n hx=>by rw [b7 (lt b o e)];exact n,fun b o e hx=>⟨o,keep b o hx e⟩,fun b xs e=>jF e,fun b o u e=>jF e,fun b ps e=>⟨#[],by rw [jF e];simp⟩⟩
  refine ⟨.ref s.heap.objs.size,upd H s.heap.objs.size (.tup [.int (i:Int),x]),I.mB (s':={s with heap:=kq,toks:=s.toks+1}) (ch:=[e,it]) rfl u1 aF I.bare (fun b hb=>?_),rfl,⟨_,x,wI,rfl,rfl,fun as ha=>by rw [I.yF ha iD];exact hx⟩,?_,fun b hb=>?_⟩
  ·obtain ⟨f0,f1,f2,f3,f4,f5⟩:=hf b hb
   exact ⟨f3,f1,f4,f5⟩
  ·refine ⟨⟨u,?_⟩,g2.extBut sb.extBut Je.symm⟩
   have z:((i+1:Nat):Int)=(i:Int)+1:=by lia
   rw [z];exact q1
  ·have nb:b≠s.heap.objs.size:=by
    simp only [dX,jX,jY] at hb;rcases hb with rfl | rfl;·exact lt _ _ he
    ·obtain ⟨o,e,_⟩:=h1;exact lt _ _ e
   rw [b7 nb];exact (hf b hb).1
 done:=by
  intro X hP hw hK hc i pins s σ H E I hf st hg;subst hP hw hK;obtain ⟨⟨old,he⟩,h1⟩:=st;obtain ⟨xs,iD,hx⟩:=hg;obtain ⟨aq,rv,p,_⟩:=I.list iD;have hl:=rv.length;refine wpAny_pyNext_enum_end (I.ok.hd hc) he h1 p.isList (by simp;lia) fun h' g=>⟨rfl,?_⟩
  have keep:∀b o,b∉[e,it]→s.heap.get? b=some o→h'.get? b=some o:=fun b o nb e=>by simp only [dX,jX,jY,not_or] at nb;exact g b o nb.2 e
  have aF:cL X.prog X.w H h':=fun b o e=>by
   refine (I.aF b o e).ik (fun c v d4 q=>keep c v (fun m=>?_) q) (fun c q=>q) fun c xs q=>q;have nn:=(hf c m).1;rcases d4 with rfl | d4;·rw [nn] at e;cases e
   ·rw [nn] at d4;cases d4
  have u1:Un (cJ X.stack) [e,it] H H s.heap h':=
   ⟨fun b o e n _ hx=>keep b o hx e,fun b o e n _ hx=>⟨o.slots,keep b o hx e⟩,fun b o e n hx=>n,fun b o e hx=>⟨o,keep b o hx e⟩,fun b xs e=>e,fun b o u e=>e,fun b ps e=>⟨#[],by rw [e];simp⟩⟩
  refine I.mB (s':={s with heap:=h'}) (ch:=[e,it]) rfl u1 aF I.bare fun b hb=>?_;obtain ⟨f0,f1,f2,f3,f4,f5⟩:=hf b hb;exact ⟨f3,f1,f4,f5⟩
 self:=fun _ _ _ _ _ st h=>by obtain ⟨⟨old,he⟩,_⟩:=st;exact wpAny_pyIter_enum he h
theorem boot_enumerate:bootBuiltins "enumerate"=some (.type "enumerate"):=by decide +kernel
def Rh(K:aE)(ta:TA):TI:=fun σ H R=>ta σ H fun vs H1=>∃l,vs=[.ref l]∧(∃xs,a_ K H1 l xs)∧R (wU K l) H1
section
variable {X:Cx}
theorem Jf{elts:List Expr}{k:Nat}{rT:Pos}{a:Expr}{ta:TA}{p pos:Pos}(hg:Gl X "enumerate")(hm:X.mg "enumerate"=none)(ha:PA X [a] ta)(hs:starEach [a] X.env=[(false,eval a X.env)]:=by rfl) :
  PI X (.Tuple elts k rT) (.Call (.Name "enumerate" p) [a] [] pos) (Rh X.K ta):=by
 intro pins s σ H R I h;refine Call_ (oJ I hg hm boot_enumerate (vz (aG (ha pos pins s σ H _ I h) fun us s1 ⟨vs,H1,I1,r1,q1⟩=>?_) hs rfl));obtain ⟨l,e,⟨xs,iD⟩,q⟩:=q1;subst e;obtain ⟨u,rfl,ru⟩:=vals1 r1;cases ru;obtain ⟨aq,rv,p1,_⟩:=I1.list iD;refine call_enumerate_list p1.isList fun h' z1 z2 z3 z4=>?_;refine wpAny_pyIter_enum (s:={s1 with heap:=h'}) z1 ?_;refine ⟨_,_,_,_,H1,rfl,I1.kept (t':=s1.toks) z4,Rg (Nat.succ_ne_self _),⟨⟨_,z1⟩,z2⟩,fun b hb=>?_,q⟩;have le:s1.heap.objs.size≤b:=by
  simp only [dX,jX,jY] at hb;rcases hb with rfl | rfl;·exact oy ..
  ·exact aN _
 exact I1.rV le (I1.aF.fresh le)
end
theorem Jg{xs:List V}{g:TG}{tb:TS}{D:Ends}{σ:St}{H:Hp}(Pv:Nat→St→Hp→Prop)(h0:Pv 0 σ H)(hl:∀i σ H,Pv i σ H→a_ K H l xs)
  (hs:∀(i:Nat) (x:V) σ H T,xs[i]?=some x→Pv i σ H→H T=none→g (.ref T) σ (upd H T (.tup [.int (i:Int),x])) fun σ2 H2=>tb {D with nx:=Pv (i+1),ct:=Pv (i+1),bk:=D.nx} σ2 H2) (hd:∀σ H,Pv xs.length σ H→D.nx σ H) :
  ∃W:Nat→Nat→St→Hp→Prop,(∃m,W 0 m σ H)∧∀i m σ H,W i m σ H→
   ((wU K l).stop i H∧D.nx σ H)∨((wU K l).go i H∧∃N:St→Hp→Prop,(∀σ' H',N σ' H'→∃m',m'<m∧W (i+1) m' σ' H')∧∀x H',(wU K l).eI i H x H'→g x σ H' fun σ2 H2=>tb {D with nx:=N,ct:=N,bk:=D.nx} σ2 H2):=by
 refine ⟨fun i m σ H=>m=xs.length-i∧i≤xs.length∧Pv i σ H,⟨xs.length,by simp,b9 _,h0⟩,?_⟩
 rintro i m σ H ⟨rfl,hi,p⟩;have q1:=hl i σ H p;by_cases cK:i<xs.length
 ·refine .inr ⟨⟨xs,xs[i],q1,by simp [cK]⟩,Pv (i+1),fun σ' H' p'=>⟨xs.length-(i+1),by lia,rfl,cK,p'⟩,fun v H' hy=>?_⟩
  obtain ⟨T,x,nT,rfl,rfl,hx⟩:=hy;exact hs i x σ H T (hx xs q1) p nT
 ·have e:i=xs.length:=by lia
  subst e;exact .inl ⟨⟨xs,q1,aN _⟩,hd σ H p⟩
def Ri(K:aE):V→V→Hp→VK→Prop:=fun o i H Q=>∃p xs k v,o=.ref p∧i=.int k∧0≤k∧a_ K H p xs∧dA xs k=some v∧Q v H
theorem Rj{X:Cx}:GS X (Ri X.K):=by
 intro pins s σ H o i ov iv Q I ro ri h;obtain ⟨p,xs,k,z,rfl,rfl,h0,hq,he,q⟩:=h;cases ro;obtain ⟨t,rfl⟩:=ri;obtain ⟨aq,r,pl,hz⟩:=I.list hq;obtain ⟨j,h1,h2,h3,h4,h5⟩:=CK he;obtain ⟨w,ew,oN⟩:=r.get h2;have hl:=r.length;have hn:=wb;have hj:k.toNat=j:=by rw [seqIndex_of h0 h5] at h1;exact Option.some.inj h1
 exact wpAny_getItem_list pl.isList h0 (by lia) (by rw [hj];simpa using ew) ⟨z,H,I,oN,q⟩
end L2
namespace My
open PySem L2
theorem f_:∀(n:Nat) (f:Nat→Int),aQ (n+1) f=aQ n f+f n
 | 0,f=>by show f 0+0=0+f 0;lia
 | n+1,f=>by show f 0+aQ (n+1) (fun i=>f (i+1))=(f 0+aQ n fun i=>f (i+1))+f (n+1);rw [f_ n];lia
def cH(m:Nat)(t:Int)(u:Nat→Int)(i k:Nat):Int:=aQ m fun j=>if i+j=k then t*u j else 0
def bJ(n m:Nat)(f g:Nat→Int)(k:Nat):Int:=aQ n fun i=>cH m (f i) g i k
def gF(ts us:List Int):List Int:=(List.range (ts.length+us.length-1)).map fun k=>bJ ts.length us.length (fun i=>ts.getD i 0) (fun j=>us.getD j 0) k
def Rk:Sp:=fun vs H Q _=>∃(a b:Addr) (ts us:List Int),vs=[.ref a,.ref b]∧H a=some (.lst (ts.map V.int))∧H b=some (.lst (us.map V.int))∧(∀t∈ts,aP t)∧(∀t∈us,aP t)∧ts.length≤100∧us.length≤100 ∧
 ∀(c:Addr) (H':Hp),ai H H'→H c=none→H' c=some (.lst ((gF ts us).map V.int))→Q (.ref c) H'
theorem Rl{N x:Nat}{A:Nat→Int}{d:Int}(hx:x<N):(((List.range N).map A).map V.int).set x (.int (A x+d))=((List.range N).map fun k=>A k+if x=k then d else 0).map V.int:=by
 refine yu fun i=>?_;by_cases hi:i<N
 ·by_cases z:x=i
  ·subst z
   rw [vx (by simpa using hx)]
   simp [hx]
  ·rw [vy z]
   simp [hi,z]
 ·rw [kT (by simp;lia),kT (by simp;lia)]
variable {B:Nat} {x:Int}
theorem aP.zA(hB:B≤10 ^ 300)(h:x.natAbs≤2*B*B):aP x:=by have z:2*B*B≤2*10 ^ 300*10 ^ 300:=bE (dY 2 hB) hB;exact fV (ae h z) (by decide +kernel)
def Jh(f:Int→Int×Int→Int×Int→Int×Int):Sp:=fun vs H Q _=>∃(td:Addr) (q:Int) (v u:V) (p r:Int×Int) (B:Nat),vs=[.ref td,v,u]∧dB H td q∧ax q∧aZ B H q v p.1 p.2∧aZ B H q u r.1 r.2∧1000≤B∧B≤10 ^ 300∧∀(v':V) (H':Hp),ai H H'→aZ (2*B*B) H' q v' (f q p r).1 (f q p r).2→Q v' H'
def cy(q T D:Int):Int×Int:=if q=0 then (fH T D,fI T D) else (T % q,1)
variable {q T D:Int}
theorem gc(ok:aX q D):aS q (cy q T D) (T,D):=by
 unfold cy aS;by_cases z:q=0
 ·subst z
  have hD:=ok.1 rfl;have e:=(Dc (a:=T) (show D≠0 by lia)).2.1
  rw [ar rfl];exact ⟨0,by dsimp only;rw [e];lia⟩
 ·rw [ao z,ok.2 z]
  obtain ⟨w,ew⟩:=zf T q;exact ⟨-w,by dsimp only;rw [gq];lia⟩
def Canon(q:Int)(p:Int×Int):Prop:=(q=0→iz p.1 p.2)∧(q≠0→p.2=1∧0≤p.1∧p.1<q)
variable {H:Hp} {v:V}
theorem aZ.canon{m:Int}(h:aZ B H q v x m):Canon q (x,m):=by
 cases h with
 | bR e l bx bm=>exact ⟨fun _=>l,fun z=>absurd rfl z⟩
 | rem h0 h1 h2=>exact ⟨fun z=>by lia,fun _=>⟨rfl,h0,h1⟩⟩
variable {r:Int×Int}
theorem ku(hq:ax q){p:Int×Int}(h1:Canon q p)(h2:Canon q r)(e:aS q p r):p=r:=by
 obtain ⟨x,m⟩:=p;obtain ⟨y,n⟩:=r;unfold aS at e;dsimp only at e;by_cases z:q=0
 ·subst z
  have l1:=h1.1 rfl;have l2:=h2.1 rfl;have e:=gr.mp e;obtain ⟨a,b⟩:=IA l1 l2 (show x*n=y*m by lia)
  dsimp only at a b;rw [a,b]
 ·obtain ⟨a1,a2,a3⟩:=h1.2 z
  obtain ⟨b1,b2,b3⟩:=h2.2 z;dsimp only at a1 a2 a3 b1 b2 b3;subst a1 b1;rw [fO,fO] at e;obtain ⟨k,ek⟩:=e;have:k=0:=by
   rcases Int.lt_trichotomy k 0 with h | h | h
   ·have:=jU (show k≤-1 by lia) (show 0≤q by lia)
    lia
   ·exact h
   ·have:=jU (show 1≤k by lia) (show 0≤q by lia)
    lia
  rw [this,cF] at ek;rw [show x=y by lia]
theorem gG(hq:ax q)(ok:aX q D):Canon q (cy q T D):=by
 unfold cy;refine ⟨fun z=>?_,fun z=>?_⟩
 ·rw [ar z]
  exact (Dc (a:=T) (show D≠0 by have:=ok.1 z;lia)).1
 ·rw [ao z]
  have q2:0<q:=by rcases hq with h | h <;> lia
  exact ⟨rfl,du _ z,dJ _ q2⟩
theorem Dw(hq:ax q)(ok:aX q D)(b1:1000≤B)(bt:T.natAbs≤B)(bd:D.natAbs≤B):(cy q T D).1.natAbs≤B∧(cy q T D).2.natAbs≤B:=by
 unfold cy;by_cases z:q=0
 ·rw [ar z]
  have hD:=ok.1 z;obtain ⟨u,d,e1,e2,l,l1,l2⟩:=Iq (a:=T) hD;unfold fH fI;dsimp only;rw [e1,e2];exact ⟨ae l1 bt,ae l2 bd⟩
 ·rw [ao z]
  have q2:0<q∧q≤997:=by rcases hq with h | h <;> lia
  have:=du T z;have:=dJ T q2.1;exact ⟨by dsimp only;lia,by dsimp only;lia⟩
theorem aZ.Dy{B':Nat}{m:Int}(h:aZ B H q v x m)(bx:x.natAbs≤B')(bm:m.natAbs≤B'):aZ B' H q v x m:=by
 cases h with
 | bR e l _ _=>exact .bR e l bx bm
 | rem h0 h1 h2=>exact .rem h0 h1 h2
theorem Canon.bot{p:Int×Int}(h:Canon q p):aX q p.2:=⟨fun z=>(h.1 z).pos,fun z=>(h.2 z).1⟩
theorem Rn(hq:ax q){p:Int×Int}(h1:Canon q p)(h2:Canon q r):Canon q (nj q p r)∧aS q (nj q p r) (p.1*r.2+r.1*p.2,p.2*r.2):=by
 have e:nj q p r=cy q (p.1*r.2+r.1*p.2) (p.2*r.2):=by
  unfold nj cy;by_cases z:q=0;·rw [ar z,ar z]
  ·rw [ao z,ao z,(h1.2 z).1,(h2.2 z).1,fO,fO]
 rw [e];exact ⟨gG hq (h1.bot.mul h2.bot),gc (h1.bot.mul h2.bot)⟩
theorem Ro(hq:ax q){p:Int×Int}(h1:Canon q p)(h2:Canon q r):Canon q (mulQ q p r)∧aS q (mulQ q p r) (p.1*r.1,p.2*r.2):=by have e:mulQ q p r=cy q (p.1*r.1) (p.2*r.2):=rfl;rw [e];exact ⟨gG hq (h1.bot.mul h2.bot),gc (h1.bot.mul h2.bot)⟩
variable {U:Int}
theorem Ji(hq:ax q)(ok:aX q D){p:Int×Int}(h1:Canon q p)(h2:Canon q r)(w1:aS q p (T,D))(w2:aS q r (U,D)):nj q p r=cy q (T+U) D:=by obtain ⟨c,w⟩:=Rn hq h1 h2;refine ku hq c (gG hq ok) ?_;refine aS.trans ?_ (gc (T:=T+U) ok).symm ok;refine aS.trans w ?_ (h1.bot.mul h2.bot);obtain ⟨k1,e1⟩:=w1;obtain ⟨k2,e2⟩:=w2;dsimp only at e1 e2;exact ⟨k1*r.2+k2*p.2,by dsimp only;grind⟩
variable {b:Int}
theorem aX.nz(hq:ax q)(h:aX q b):¬q∣b:=fun hd=>by
 by_cases z:q=0
 ·subst z
  have:=h.1 rfl;have:=gr.mp hd;lia
 ·rw [h.2 z] at hd
  have q2:2≤q:=by rcases hq with h | h <;> lia
  have:=rE (by decide) hd
  lia
theorem lcm_dvd{m:Int}(hb:1≤b)(hm:1≤m)(h1:b∣D)(h2:m∣D):b / (Int.gcd b m:Int)*m∣D:=by
 have gp:=pb (a:=b) (b:=m) (by lia)
 obtain ⟨b',eb⟩:=vF (a:=b) (b:=m)
 have g0:(Int.gcd b m:Int)≠0:=by lia
 have gb:b / (Int.gcd b m:Int)=b':=by
  conv=>lhs;lhs;rw [eb]
  exact me _ g0
 have z:((Int.lcm b m:Nat):Int)∣D:=Int.coe_lcm_dvd h1 h2
 have e:((Int.lcm b m:Nat):Int)=b'*m:=by
  have h:=Int.gcd_mul_lcm b m
  have h2:((Int.gcd b m:Nat):Int)*((Int.lcm b m:Nat):Int)=((b*m).natAbs:Int):=by
   rw [←Int.natCast_mul,h,a7]
  have bm:0<b*m:=Int.mul_pos (by lia) (by lia)
  have h3:((b*m).natAbs:Int)=b*m:=by lia
  rw [h3] at h2
  refine Int.eq_of_mul_eq_mul_left g0 ?_
  rw [h2,←ie,←eb]
 rw [gb,←e]
 exact z
structure Jj (q:Int) (ps:aJ) (ts:List Int) (b D:Int) (B:Nat):Prop where
 len:ts.length=ps.length
 ok:aX q b
 dvd:b∣D
 each:∀i,i<ps.length→ts.getD i 0*(ps.getD i o1).2=(ps.getD i o1).1*b∧(ts.getD i 0).natAbs≤B*D.natAbs
theorem i_(h:b∣D)(hD:D≠0):b.natAbs≤D.natAbs:=Nat.le_of_dvd (gk.mpr hD) (Cd.mpr h)
theorem zC(ok:aX q D):(cy q T D).2∣D:=by
 unfold cy;by_cases z:q=0
 ·rw [ar z]
  have hD:=ok.1 z;have e:lowG T D=(Int.gcd T D:Int):=by unfold lowG;rw [ao (by lia)]
  have gp:=pb (a:=T) (b:=D) (by lia)
  unfold fI;dsimp only;rw [e,vA _ (by lia)]
  exact Int.ediv_dvd_of_dvd (ox ..)
 ·rw [ao z]
  exact Int.one_dvd D
theorem Dz{q b D:Int}:∀(n:Nat) (f g:Nat→Int),(∀i,i<n→aS q (f i,b) (g i,D))→aS q (aQ n f,b) (aQ n g,D)
 | 0,f,g,_=>⟨0,by show (0:Int)*D-0*b=_;simp⟩
 | n+1,f,g,h=>by
  obtain ⟨k1,e1⟩:=h 0 (by lia)
  obtain ⟨k2,e2⟩:=Dz n (fun i=>f (i+1)) (fun i=>g (i+1)) (fun i hi=>h (i+1) (by lia))
  refine ⟨k1+k2,?_⟩;show (f 0+aQ n fun i=>f (i+1))*D-(g 0+aQ n fun i=>g (i+1))*b=_;dsimp only at e1 e2;grind
variable {n m:Nat} {f g:Nat→Int}
theorem Rp{b1 b2 D1 D2:Int}{f' g':Nat→Int}(hf:∀i,i<n→aS q (f i,b1) (f' i,D1))(hg:∀j,j<m→aS q (g j,b2) (g' j,D2))(k:Nat):aS q (bJ n m f g k,b1*b2) (bJ n m f' g' k,D1*D2):=by
 unfold bJ;refine Dz n _ _ fun i hi=>?_;unfold cH;refine Dz m _ _ fun j hj=>?_;by_cases z:i+j=k
 ·rw [ar z,ar z]
  obtain ⟨k1,e1⟩:=hf i hi;obtain ⟨k2,e2⟩:=hg j hj;dsimp only at e1 e2;exact ⟨f i*D1*k2+g' j*b2*k1,by dsimp only;grind⟩
 ·rw [ao z,ao z]
  exact ⟨0,by simp⟩
theorem sV{M:Nat}:∀(n:Nat) (f:Nat→Int),(∀i,i<n→(f i).natAbs≤M)→(aQ n f).natAbs≤n*M
 | 0,f,_=>by simp [aQ]
 | n+1,f,h=>by
  have a:=h 0 (by lia)
  have b:=sV n (fun i=>f (i+1)) (fun i hi=>h (i+1) (by lia))
  show (f 0+aQ n fun i=>f (i+1)).natAbs≤_;rw [Nat.succ_mul];lia
variable {k:Nat}
theorem DA{M:Nat}(h:∀i j,i<n→j<m→(f i*g j).natAbs≤M):(bJ n m f g k).natAbs≤n*(m*M):=by
 unfold bJ;refine sV n _ fun i hi=>?_;unfold cH;refine sV m _ fun j hj=>?_;by_cases z:i+j=k;·rw [ar z];exact h i j hi hj
 ·rw [ao z];exact b9 _
theorem Jk(hq:ax q)(DB:aX q b)(o2:aX q D)(w:aS q (T,b) (U,D)):cy q T b=cy q U D:=
 ku hq (gG hq DB) (gG hq o2) (((gc (T:=T) DB).trans w DB).trans (gc (T:=U) o2).symm o2)
def B2:Nat:=10 ^ 290
def cY(q:Int)(n m:Nat)(f g:Nat→Int)(D:Int)(N:Nat):List (Int×Int):=(List.range N).map fun k=>cy q (bJ n m f g k) D
theorem Jl{ps:aJ}{x:Int×Int}:∀n,n≤ps.length→dh (ps++[x]) n=dh ps n
 | 0,_=>rfl
 | n+1,h=>by
  have e:(ps++[x]).getD n o1=ps.getD n o1:=by rw [fk,fk,ib (by lia)]
  show (if ((ps++[x]).getD n o1).1=0 then dh (ps++[x]) n else n+1)=if (ps.getD n o1).1=0 then dh ps n else n+1
  rw [e,Jl n (by lia)]
theorem Rq{ps:aJ}{x:Int×Int}(h:x.1=0):aM (ps++[x])=aM ps:=by
 unfold aM;rw [jh,B4];have e:(ps++[x]).getD ps.length o1=x:=by
  rw [fk,gQ (by lia),kS]
  rfl
 have e2:dh (ps++[x]) (ps.length+1)=dh ps ps.length:=by
  show (if ((ps++[x]).getD ps.length o1).1=0 then dh (ps++[x]) ps.length else ps.length+1)=_
  rw [e,ar h,Jl _ (aN _)]
 rw [e2,List.take_append_of_le_length (Du ps _)]
theorem Rr:(cy q 0 D).1=0:=by
 unfold cy fH
 split
 ·show Int.fdiv 0 (lowG 0 D)=0
  exact Int.zero_fdiv _
 ·exact Int.zero_emod q
theorem Jm(h:n+m≤k+1):bJ n m f g k=0:=by
 unfold bJ;have:∀i,i<n→cH m (f i) g i k=0:=fun i hi=>by
  unfold cH;refine Eq.trans (cX (g:=fun _=>0) fun j hj=>?_) (jG m);have:¬i+j=k:=by lia
  rw [ao this]
 rw [cX this,jG]
theorem Rt:aM (cY q n m f g D (n+m))=aM (cY q n m f g D (n+m-1)):=by
 by_cases z:n+m=0;·rw [z]
 ·obtain ⟨N,e⟩:∃N,n+m=N+1:=⟨n+m-1,by lia⟩
  rw [e,mq];unfold cY;rw [List.range_succ,rK];refine Rq ?_;show (cy q (bJ n m f g N) D).1=0;rw [Jm (by lia)]
  exact Rr
def Ru(K:aE):Sp:=fun vs H Q _=>∃(P a td:Addr) (ns:List Int) (q cQ:Int) (F:Nat),vs=[.ref P,.ref td,.int cQ]∧cR H P a∧a_ K (er P H) a (ns.map V.int)∧dB (er P H) td q∧ax q∧1≤cQ∧cQ≤(F:Int)∧4≤F∧F≤10 ^ 20∧∀(v:V) (x m:Int) (H':Hp),aK P H H'→cR H' P a→aZ F (er P H') q v x m→Q v H'
theorem zD{wi:TI}{ρ:St→St}{te:TE}{σ:St}{Q:VK}{P a:Addr}(hn:n<sizeLine)
  (iB:∀R:It→Hp→Prop,(∀(H1:Hp),aK P H H1→cR H1 P a→R (mH 0 n) H1)→wi σ H R)
  (Pr:Addr→Nat→V→Hp→Prop) (mono:∀D i y Hc H' ys,Pr D i y Hc→Hc D=some (.lst ys)→D≠P→(∀b o,b≠D→b≠P→Hc b=some o→H' b=some o)→Pr D i y H')
  (step:∀(D:Addr) (i:Nat),i<n→∀(Hc:Hp) (R:VK),aK P H Hc→cR Hc P a→(∃ys,Hc D=some (.lst ys))→D≠P→(∀y H3,aK P Hc H3→cR H3 P a→Pr D i y H3→R y H3)→te (some (.int (0+(i:Int)))::ρ σ) Hc R)
  (fin:∀(D:Addr) (ys:List V) (Hc:Hp),D≠P→aK P H Hc→cR Hc P a→ys.length=n→(∀(i:Nat) (y:V),ys[i]?=some y→Pr D i y Hc)→Hc D=some (.lst ys)→Q (.ref D) Hc):o8 wi ρ (fun _ H Q=>Q true H) te σ H Q:=by
 refine iB _ fun H1 s1 p1=>?_;intro D nD;have nP:=p1.ne nD;refine ⟨fun i m ys Hc=>m=n-i∧i≤n∧Hc D=some (.lst ys)∧aK P H1 Hc∧cR Hc P a∧ys.length=i∧∀j y,ys[j]?=some y→Pr D j y Hc,⟨_,rfl,b9 _,av,(aK.refl H1).but nD,p1.upd nP,rfl,fun j y e=>by simp at e⟩,?_⟩
 rintro i m ys Hc ⟨rfl,hi,eD,sH,pc,el,hP⟩;refine ⟨eD,?_⟩;by_cases cK:i<n
 ·refine .inr ⟨cK,fun x H' hy=>?_⟩
  obtain ⟨rfl,rfl⟩:=hy;rw [ar rfl];refine step D i (by lia) _ _ (s1.trans sH) pc ⟨ys,eD⟩ nP fun y H3 s3 p3 hp=>?_
  have e3:=s3.at nP eD;refine ⟨e3,by lia,n-(i+1),by lia,rfl,cK,av,(sH.trans s3).but nD,p3.upd nP,by simp [el],fun j y' e=>?_⟩
  have cQ:∀b o,b≠D→b≠P→H3 b=some o→upd H3 D (.lst (ys++[y])) b=some o:=fun b o nb _ e=>by rw [b7 nb];exact e
  by_cases hj:j<i
  ·have e':ys[j]?=some y':=by rw [ib (by lia)] at e;exact e
   refine mono D j y' H' _ ys (hP j y' e') eD nP fun b o nb np e=>?_;exact cQ b o nb np (s3.at np e)
  ·have hj:j=i:=by have:=(cU.mp e).1;simp at this;lia
   subst hj;have e':y'=y:=by rw [gQ (by lia),el,kS] at e;simpa using e.symm
   subst e';exact mono D _ _ H3 _ ys hp e3 nP cQ
 ·have e:i=n:=by lia
  subst e;exact .inl ⟨aN _,fin D ys Hc nP (s1.trans sH) pc el hP eD⟩
theorem Jn{M:Nat}:∀(n:Nat) (f:Nat→Int),(∀i,i<n→(f i).natAbs≤M)→(aQ n f).natAbs≤n*M
 | 0,_,_=>by show (0:Int).natAbs≤_;simp
 | n+1,f,h=>by rw [f_,Nat.succ_mul];exact ae (vL ..) (oA (Jn n f fun i hi=>h i (by lia)) (h n (by lia)))
end My
namespace L2
open PySem PySem.Spec PyProof.Rows
section
variable {X:Cx} {tg:Expr}
def sW(lo:Int)(n:Nat):It:=⟨fun i _=>i<n,fun i H x H'=>H'=H∧x=.int (lo-i),fun i _=>n≤i⟩
theorem Rv{P:Program}{w:World}{K:aE}(it:Addr)(lo:Int)(n:Nat):Turn P w K tg (sW lo n) [it] it (fun i h=>IsRangeIter h it (lo+(i:Nat)*(-1)) ((n:Int)-(i:Nat)) (-1)) where
 mem:=by simp
 obj:=fun i h st b hb=>by
  have e:b=it:=by simpa using hb
  subst e;exact ⟨_,st,fun v z=>by have z':Data.fields _=Data.cell v:=z;cases z'⟩
 keep:=fun i h h' st k=>k it (by simp) _ st
 item:=by
  intro X hP hw hK hc i pins s σ H E I hf st hg;subst hP hw hK;obtain ⟨f0,f1,f2,f3,f4,f5⟩:=hf it (by simp)
  have W:=Walks.range (prog:=X.prog) (w:=X.w) (I.ok.hd hc) it lo (-1) n;refine W.item i s _ _ hg st fun v h' tk hv jr kk=>?_;obtain ⟨t,rfl⟩:=hv;have I1:Inv X pins σ H {s with heap:=h',toks:=tk}:=I.turned (fun b o hb e=>kk b o (by simpa using hb) e) f0 f1 f3 f4 f5
  refine ⟨_,rfl,yN (s:={s with heap:=h',toks:=tk}) (n:="range_iterator") jr rfl rfl (by decide) ⟨.int (lo-i),H,I1,⟨t,?_⟩,⟨rfl,rfl⟩,jr,fun b hb=>(hf b hb).1⟩⟩
  rw [show lo+(i:Int)*(-1)=lo-i by lia]
 done:=by
  intro X hP hw hK hc i pins s σ H E I hf st hg;subst hP hw hK;obtain ⟨f0,f1,f2,f3,f4,f5⟩:=hf it (by simp)
  exact wpAny_pyNext_range_end (I.ok.hd hc) st (by have:n≤i:=hg;lia) fun h' eb=>⟨rfl,I.turned (t':=s.toks) (fun b o hb e=>eb b o hb e) f0 f1 f3 f4 f5⟩
 self:=fun _ _ _ _ _ st h=>wpAny_pyIter_rangeiter st h
variable {σ:St} {H:Hp} {lo:Int}
theorem Rw{pins:aY}{s:Shared}{R:It→Hp→Prop}{E:b_}{hi:Int}{t u v:Tok}{tk:Nat}(I:Inv X pins σ H s)(Rx:Builtin.Range.small lo hi (-1)=true)
  (q:R (sW lo (lo-hi).toNat) H):wpAny (model X.prog X.w) X.A (pyIter (.ref s.heap.objs.size)) (Cu X pins σ tg R) E {s with heap:=s.heap.push {cls:=.type "range",data:=.fields #[.int lo t,.int hi u,.int (-1) v]},toks:=tk}:=by
 refine wpAny_pyIter_range (IsRange.new ..) Rx ?_;have I1:Inv X pins σ H {s with heap:=s.heap.push {cls:=.type "range",data:=.fields #[.int lo t,.int hi u,.int (-1) v]},toks:=tk}:=I.kept fun b o e=>dD _ e
 refine ⟨(s.heap.push {cls:=.type "range",data:=.fields #[.int lo t,.int hi u,.int (-1) v]}).objs.size,[(s.heap.push {cls:=.type "range",data:=.fields #[.int lo t,.int hi u,.int (-1) v]}).objs.size],_,_,H,rfl,
  I1.kept (t':=tk) fun b o e=>dD _ e,Rv _ lo (lo-hi).toNat,?_,fun b hb=>?_,q⟩
 ·have e1:lo+((0:Nat):Int)*(-1)=lo:=by simp
  have e2:(((lo-hi).toNat:Nat):Int)-((0:Nat):Int)=Builtin.Range.rangeSize lo hi (-1):=by
   unfold Builtin.Range.rangeSize;rw [ao (by decide)]
   split
   ·rw [show -(-1:Int)=1 from rfl,Int.ediv_one];lia
   ·lia
  show IsRangeIter _ _ (lo+((0:Nat):Int)*(-1)) ((((lo-hi).toNat:Nat):Int)-((0:Nat):Int)) (-1);rw [e1,e2];exact gP _ rfl
 ·have e:b=(s.heap.push {cls:=.type "range",data:=.fields #[.int lo t,.int hi u,.int (-1) v]}).objs.size:=by simpa using hb
  subst e;exact I1.rV (aN _) (I1.aF.fresh (aN _))
theorem small_down{a b:Int}(h1:-(2 ^ 62)≤a)(h2:a<2 ^ 62)(h3:-(2 ^ 62)≤b)(h4:b<2 ^ 62):Builtin.Range.small a b (-1)=true:=by
 have e:Builtin.Range.rangeSize a b (-1)=if a>b then a-b else 0:=by
  unfold Builtin.Range.rangeSize;rw [ao (by decide)]
  split
  ·rw [show -(-1:Int)=1 from rfl,Int.ediv_one];lia
  ·rfl
 have f:∀{x:Int},-(2 ^ 63)≤x→x<2 ^ 63→Builtin.Range.rangeFitsLong x=true:=fun{x} h1 h2=>by unfold Builtin.Range.rangeFitsLong;simp;lia
 unfold Builtin.Range.small;rw [e,f (x:=a) (by lia) (by lia),f (x:=b) (by lia) (by lia),f (x:=-1) (by decide) (by decide),f (x:=if a>b then a-b else 0) (by split <;> lia) (by split <;> lia)]
 simp;exact .inr (f (by lia) (by lia))
def Ry(ta:TA):TI:=fun σ H R=>ta σ H fun vs H1=>∃i j:Int,vs=[.int i,.int j,.int (-1)]∧(-(2 ^ 62)≤i∧i<2 ^ 62∧-(2 ^ 62)≤j∧j<2 ^ 62)∧R (sW i (i-j).toNat) H1
theorem Rz{a b c:Expr}{ta:TA}{p pos:Pos}(hg:Gl X "range")(hm:X.mg "range"=none)(ha:PA X [a,b,c] ta)(hs:starEach [a,b,c] X.env=[(false,eval a X.env),(false,eval b X.env),(false,eval c X.env)]:=by rfl)(kg:starEach [b,c] X.env=[(false,eval b X.env),(false,eval c X.env)]:=by rfl) :
  PI X tg (.Call (.Name "range" p) [a,b,c] [] pos) (Ry ta):=by
 intro pins s σ H R I h;refine Call_ (oJ I hg hm boot_range (vz (aG (ha pos pins s σ H _ I h) fun us s1 ⟨vs,H1,I1,r1,q1⟩=>?_) (by rw [hs,kg]) (by rw [kg];rfl)))
 obtain ⟨i,j,e,⟨q1,q2,q3,q4⟩,q⟩:=q1;subst e;cases r1 with
 | cons r rr=>
  cases rr with
  | cons r' rr=>
   cases rr with
   | cons r3 rr=>
    cases rr;obtain ⟨t,rfl⟩:=r;obtain ⟨t',rfl⟩:=r';obtain ⟨t3,rfl⟩:=r3;refine call_range_3 (by decide) (Rw I1 (small_down q1 q2 q3 q4) q) (.inl ?_)
    have z:decide ((if ((-1:Int) == 0)=true then 0 else (-1:Int).natAbs.log2 / 30+1)>300)=false:=by decide +kernel
    unfold Builtin.divisionGoesByPylong;dsimp only;rw [z];rfl
theorem RA{n:Nat}{g:TG}{tb:TS}{D:Ends}(Pv:Nat→St→Hp→Prop)(h0:Pv 0 σ H)
  (hs:∀i σ H,i<n→Pv i σ H→g (.int (lo-i)) σ H fun σ2 H2=>tb {D with nx:=Pv (i+1),ct:=Pv (i+1),bk:=D.nx} σ2 H2) (hd:∀σ H,Pv n σ H→D.nx σ H) :
  ∃W:Nat→Nat→St→Hp→Prop,(∃m,W 0 m σ H)∧∀i m σ H,W i m σ H→
   ((sW lo n).stop i H∧D.nx σ H)∨((sW lo n).go i H∧∃N:St→Hp→Prop,(∀σ' H',N σ' H'→∃m',m'<m∧W (i+1) m' σ' H')∧∀x H',(sW lo n).eI i H x H'→g x σ H' fun σ2 H2=>tb {D with nx:=N,ct:=N,bk:=D.nx} σ2 H2):=by
 refine ⟨fun i m σ H=>m=n-i∧i≤n∧Pv i σ H,⟨n,by simp,b9 _,h0⟩,?_⟩
 rintro i m σ H ⟨rfl,hi,p⟩;by_cases cK:i<n
 ·refine .inr ⟨cK,Pv (i+1),fun σ' H' p'=>⟨n-(i+1),by lia,rfl,cK,p'⟩,fun x H' y=>?_⟩
  obtain ⟨e,y⟩:=y;subst e y;exact hs i σ _ cK p
 ·have e:i=n:=by lia
  subst e;exact .inl ⟨aN _,hd σ H p⟩
end
theorem RC{X:Cx}{K:aE}{e:Expr}{f:Str}{pos:Pos}{ta:TE}(he:PE X e ta)(hb:attributeBase e f X.env (eval e X.env)=eval e X.env)(hK:X.K=K:=by rfl):PE X (.Attribute e f pos) (Hu K ta f):=by subst hK;exact oW he hb
end L2
namespace My
open PySem L2
def Cg(q a b:Int):Prop:=q∣a-b
variable {q:Int}
theorem Cg.refl(a:Int):Cg q a a:=⟨0,by lia⟩
variable {b:Int}
theorem Cg.of_eq{a:Int}(h:a=b):Cg q a b:=h▸Cg.refl a
theorem Cg.symm{a:Int}(h:Cg q a b):Cg q b a:=by obtain ⟨k,e⟩:=h;exact ⟨-k,by rw [gq];lia⟩
variable {c:Int}
theorem Cg.trans{a:Int}(h1:Cg q a b)(h2:Cg q b c):Cg q a c:=by obtain ⟨k,e⟩:=h1;obtain ⟨l,e'⟩:=h2;exact ⟨k+l,by rw [jW];lia⟩
variable {d:Int}
theorem Cg.add{a:Int}(h1:Cg q a b)(h2:Cg q c d):Cg q (a+c) (b+d):=by obtain ⟨k,e⟩:=h1;obtain ⟨l,e'⟩:=h2;exact ⟨k+l,by rw [jW];lia⟩
theorem Cg.sub{a:Int}(h1:Cg q a b)(h2:Cg q c d):Cg q (a-c) (b-d):=by obtain ⟨k,e⟩:=h1;obtain ⟨l,e'⟩:=h2;exact ⟨k-l,by rw [mw];lia⟩
theorem Cg.mulL{a:Int}(c:Int)(h:Cg q a b):Cg q (c*a) (c*b):=by obtain ⟨k,e⟩:=h;exact ⟨c*k,by rw [←mw,e];grind⟩
theorem Cg.mulR{a:Int}(c:Int)(h:Cg q a b):Cg q (a*c) (b*c):=by rw [jV a,jV b];exact h.mulL c
theorem g_(q a:Int):Cg q (a % q) a:=⟨-(a / q),by have:=Int.mul_ediv_add_emod a q;rw [gq];lia⟩
theorem Cg.nz{a:Int}(h:Cg q a b)(n:¬q∣b):¬q∣a:=fun d=>n (by
 have:b=a-(a-b):=by lia
 rw [this];exact Int.dvd_sub d h)
theorem DC{q:Int}:∀{n:Nat} {f g:Nat→Int},(∀i,i<n→Cg q (f i) (g i))→Cg q (aQ n f) (aQ n g)
 | 0,_,_,_=>Cg.refl _
 | n+1,f,g,h=>by unfold aQ;exact (h 0 (by lia)).add (DC fun i hi=>h (i+1) (by lia))
variable {B:Nat}
theorem DD{a:Int}(hq:ax q)(b1:1000≤B)(h:a.natAbs≤B):(a % q).natAbs≤B:=by
 rcases hq with rfl | ⟨h2,h3,_⟩;·rw [Int.emod_zero];exact h
 ·have:=du a (show q≠0 by lia)
  have:=dJ a (show 0<q by lia)
  lia
theorem lC(t:Int)(u:Nat→Int)(i k:Nat):∀m,cH m t u i k=if i≤k∧k<i+m then t*u (k-i) else 0
 | 0=>by
  rw [ao (by lia)]
  rfl
 | m+1=>by
  have e:cH (m+1) t u i k=cH m t u i k+if i+m=k then t*u m else 0:=by unfold cH;rw [f_]
  rw [e,lC t u i k m];by_cases h:i+m=k
  ·rw [ao (by lia),ar h,ar (by lia),show k-i=m by lia]
   lia
  ·rw [ao h]
   by_cases h2:i≤k∧k<i+m;·rw [ar h2,ar (by lia)];lia
   ·rw [ao h2,ao (by lia)];lia
def convS(s n m:Nat)(f g:Nat→Int)(k:Nat):Int:=aQ n fun i=>cH m (f i) g (s+i) k
theorem RD(n m:Nat)(f g:Nat→Int)(k:Nat):convS 0 n m f g k=bJ n m f g k:=by unfold convS bJ;exact cX fun i _=>by rw [vJ]
theorem RE(s n m:Nat)(f g:Nat→Int)(k:Nat):convS s (n+1) m f g k=cH m (f 0) g s k+convS (s+1) n m (fun i=>f (i+1)) g k:=by unfold convS;rw [aQ];exact fN (_ + ·) (cX fun i _=>by rw [show s+(i+1)=s+1+i by lia])
theorem RF(c t:Int)(u:Nat→Int)(m i k:Nat):cH m (c*t) u i k=c*cH m t u i k:=by
 rw [lC,lC]
 split
 ·rw [ie]
 ·rw [cF]
theorem RH(c:Int)(s n m:Nat)(f g:Nat→Int)(k:Nat):convS s n m (fun i=>c*f i) g k=c*convS s n m f g k:=by unfold convS;rw [sS];exact cX fun i _=>RF ..
variable {t:Int}
theorem RI{t':Int}(h:Cg q t t')(u:Nat→Int)(m i k:Nat):Cg q (cH m t u i k) (cH m t' u i k):=by
 rw [lC,lC]
 split
 ·exact h.mulR _
 ·exact Cg.refl _
variable {n m k:Nat} {f g:Nat→Int}
theorem RJ{s:Nat}{f':Nat→Int}(h:∀i,i<n→Cg q (f i) (f' i)):Cg q (convS s n m f g k) (convS s n m f' g k):=
 DC fun i hi=>RI (h i hi) g m (s+i) k
structure kv (q:Int) (ts us:List Int) (T U n i:Nat) (bs ls:List Int) (az:Int):Prop where
 lb:bs.length=i
 ll:ls.length=ts.length-i
 eq:∀k,Cg q (az*ts.getD k 0) (convS (n-i) i us.length (fun j=>bs.getD j 0) (fun j=>us.getD j 0) k+ls.getD k 0)
 nz:¬q∣az
 last:0<i→¬q∣bs.getD (i-1) 0
 bb:∀x∈bs,x.natAbs*(2*U)≤T*(2*U) ^ i
 bl:∀x∈ls,x.natAbs≤T*(2*U) ^ i
 bm:az.natAbs≤1000*(2*U) ^ i
theorem dr{α:Type}{xs:List α}{d:α}(h:xs.length≤k):xs.getD k d=d:=by rw [fk,kT h];rfl
variable {xs:List Int}
theorem nq(h:∀x∈xs,x.natAbs≤B)(k:Nat):(xs.getD k 0).natAbs≤B:=by
 by_cases hk:k<xs.length;·rw [getD_at hk];exact h _ (gj _)
 ·rw [dr (by lia)];exact b9 _
theorem wV{f:Int→Int}(h0:f 0=0)(k:Nat):(xs.map f).getD k 0=f (xs.getD k 0):=by
 by_cases hk:k<xs.length;·rw [getD_at (by simpa using hk),getD_at hk,jn]
 ·rw [dr (by simp;lia),dr (by lia),h0]
variable {ts us:List Int} {T U:Nat}
theorem kv.start(hq:ax q)(hT:∀x∈ts,x.natAbs≤T)(hn:n=ts.length+1-us.length):kv q ts us T U n 0 [] ts 1 where
 lb:=rfl
 ll:=rfl
 eq:=fun k=>Cg.of_eq (by unfold convS aQ;lia)
 nz:=fun h=>by
  rcases hq with rfl | ⟨h2,_⟩
  ·have:=gr.mp h
   lia
  ·have:=rE (by decide) h
   lia
 last:=fun h=>absurd h (by decide)
 bb:=fun x hx=>by simp at hx
 bl:=fun x hx=>by simpa using hT x hx
 bm:=by simp
def eU(place:Nat)(head:Int)(us:List Int):List Int:=List.replicate place 0++us.dropLast.map fun u=>head*u
variable {place:Nat} {head:Int}
theorem DE:(eU place head us).length=place+(us.length-1):=by unfold eU;rw [jh,gR,aT,List.length_dropLast]
theorem RK(hk:k<place+(us.length-1)):(eU place head us).getD k 0=if place≤k then head*us.getD (k-place) 0 else 0:=by
 unfold eU;rw [fk];by_cases h:place≤k
 ·rw [ar h,gQ (by simpa using h),gR,fP,List.getElem?_dropLast,ar (by lia),List.getElem?_eq_getElem (show k-place<us.length by lia),getD_at (show k-place<us.length by lia)]
  rfl
 ·rw [ao h,ib (by simp;lia),kP,ar (by lia)]
  rfl
theorem kv.step{i:Nat}{bs ls:List Int}{az:Int}(h:kv q ts us T U n i bs ls az)(hq:ax q)(hn:n=ts.length+1-us.length)(hi:i<n)(hu:1≤us.length)
  (hU:∀x∈us,x.natAbs≤U) (Jo:1≤U) (wW:1000≤T) (lz:¬q∣us.getD (us.length-1) 0) (tz:¬q∣ts.getD (ts.length-1) 0) :
  kv q ts us T U n (i+1) (([ls.getD (ls.length-1) 0]++bs.map fun x=>us.getD (us.length-1) 0*x).map fun x=>x % q)
   (((List.zip ls (eU (n-1-i) (ls.getD (ls.length-1) 0) us)).map fun ab=>us.getD (us.length-1) 0*ab.1-ab.2).map fun x=>x % q) (az*us.getD (us.length-1) 0 % q):=by
 generalize lD:us.getD (us.length-1) 0=lead at lz;generalize sX:ls.getD (ls.length-1) 0=head;have Jp:=h.ll;have RL:=h.lb;have wX:head.natAbs≤T*(2*U) ^ i:=by rw [←sX];exact nq h.bl _
 have wY:lead.natAbs≤U:=by rw [←lD];exact nq hU _
 have pw:T*(2*U) ^ (i+1)=T*(2*U) ^ i*(2*U):=by rw [fo,mi]
 have pp:1≤(2*U) ^ i:=jZ (by lia)
 have T1:1000≤T*(2*U) ^ i:=ae wW (fQ _ pp);have T2:T*(2*U) ^ i≤T*(2*U) ^ (i+1):=by rw [pw];exact fQ _ (by lia)
 have zl:(List.zip ls (eU (n-1-i) head us)).length=ts.length-(i+1):=by rw [yv,DE,Jp];lia
 refine ⟨?_,?_,?_,?_,?_,?_,?_,?_⟩;·simp [RL]
 ·rw [aT,aT,zl]
 ·intro k
  have e0:=h.eq k;have el:∀k,Cg q ((((List.zip ls (eU (n-1-i) head us)).map fun ab=>lead*ab.1-ab.2).map fun x=>x % q).getD k 0) (lead*ls.getD k 0-cH us.length head (fun j=>us.getD j 0) (n-1-i) k):=fun k=>by
   rw [lC];by_cases hk:k<ts.length-(i+1)
   ·have DF:k<(List.zip ls (eU (n-1-i) head us)).length:=by lia
    have k1:k<ls.length:=by lia
    have k2:k<(eU (n-1-i) head us).length:=by rw [DE];lia
    rw [getD_at (by simpa using DF),jn,jn,List.getElem_zip,getD_at k1]
    have e1:(eU (n-1-i) head us)[k]=if n-1-i≤k∧k<n-1-i+us.length then head*us.getD (k-(n-1-i)) 0 else 0:=by
     rw [←getD_at (d:=0) k2,RK (by rw [DE] at k2;exact k2)]
     by_cases z:n-1-i≤k;·rw [ar z,ar (by lia)]
     ·rw [ao z,ao (by lia)]
    rw [e1];exact g_ _ _
   ·rw [dr (by rw [aT,aT,zl];lia)]
    by_cases DF:k=ts.length-(i+1)
    ·have e1:ls.getD k 0=head:=by rw [←sX,Jp,DF];congr 1
     have e2:k-(n-1-i)=us.length-1:=by lia
     rw [ar (by lia),e1,e2,lD,jV]
     exact Cg.of_eq (by lia)
    ·rw [ao (by lia),dr (by lia)]
     exact Cg.of_eq (by simp)
  have eb:∀j,Cg q ((([head]++bs.map fun x=>lead*x).map fun x=>x % q).getD j 0) (if j=0 then head else lead*bs.getD (j-1) 0):=fun j=>by
   rw [wV (by simp)]
   refine (g_ _ _).trans (Cg.of_eq ?_);cases j with
   | zero=>rfl
   | succ j=>
    rw [ao (by lia)]
    show ((head::bs.map fun x=>lead*x).getD (j+1) 0)=_;rw [List.getD_cons_succ,wV (by simp)]
    simp
  have ec:Cg q (convS (n-(i+1)) (i+1) us.length (fun j=>(([head]++bs.map fun x=>lead*x).map fun x=>x % q).getD j 0) (fun j=>us.getD j 0) k) (cH us.length head (fun j=>us.getD j 0) (n-1-i) k+lead*convS (n-i) i us.length (fun j=>bs.getD j 0) (fun j=>us.getD j 0) k):=by
   refine (RJ fun j _=>eb j).trans (Cg.of_eq ?_);rw [RE,show n-(i+1)+1=n-i by lia,show n-(i+1)=n-1-i by lia,ar rfl]
   have:(fun j=>if j+1=0 then head else lead*bs.getD (j+1-1) 0)=fun j=>lead*bs.getD j 0:=funext fun j=>by rw [ao (by lia),mq]
   rw [this,RH]
  have em:Cg q (az*lead % q*ts.getD k 0) (lead*(az*ts.getD k 0)):=((g_ q (az*lead)).mulR _).trans (Cg.of_eq (by grind))
  refine em.trans ((e0.mulL lead).trans (Cg.trans ?_ (ec.add (el k)).symm));exact Cg.of_eq (by rw [jW];lia)
 ·exact (g_ q _).nz (dR hq h.nz lz)
 ·intro _
  rw [wV (by simp)]
  refine (g_ q _).nz ?_;show ¬q∣(head::bs.map fun x=>lead*x).getD i 0;cases i with
  | zero=>
   rw [List.getD_cons_zero,←sX,show ls.length-1=ts.length-1 by lia]
   have e0:=h.eq (ts.length-1);have z:convS (n-0) 0 us.length (fun j=>bs.getD j 0) (fun j=>us.getD j 0) (ts.length-1)=0:=rfl;rw [z,vM] at e0;exact e0.symm.nz (dR hq h.nz tz)
  | succ i=>
   rw [List.getD_cons_succ,wV (by simp)]
   exact dR hq lz (h.last (by lia))
 ·intro x hx
  obtain ⟨y,hy,rfl⟩:=fm.mp hx;refine ae (fW (2*U) (DD (B:=T*(2*U) ^ i) hq T1 ?_)) (iP pw.symm);rcases h_.mp hy with hy | hy
  ·rw [iQ.mp hy]
   exact wX
  ·obtain ⟨w,hw,rfl⟩:=fm.mp hy
   rw [a7,ji];exact ae (dY _ (ae wY (show U≤2*U by lia))) (h.bb w hw)
 ·intro x hx
  obtain ⟨y,hy,rfl⟩:=fm.mp hx;refine DD hq (ae T1 T2) ?_;obtain ⟨ab,DG,rfl⟩:=fm.mp hy;have m:=rC DG;have b1:(lead*ab.1).natAbs≤T*(2*U) ^ i*U:=by rw [a7,ji];exact bE (h.bl _ m.1) wY
  have b2:ab.2.natAbs≤T*(2*U) ^ i*U:=by
   have m2:=m.2;unfold eU at m2;rcases h_.mp m2 with z | z;·rw [(yw.mp z).2];exact b9 _
   ·obtain ⟨u,ko,e⟩:=fm.mp z
    rw [←e,a7];exact bE wX (hU u (List.dropLast_subset _ ko))
  have e:T*(2*U) ^ i*(2*U)=T*(2*U) ^ i*U+T*(2*U) ^ i*U:=by rw [Nat.mul_left_comm,oB]
  rw [pw,e];show (lead*ab.1-ab.2).natAbs≤_;lia
 ·refine DD hq ?_ ?_
  ·exact fQ _ (jZ (by lia))
  ·rw [a7,fo,←mi]
   exact bE h.bm (ae wY (by lia))
variable {wi:TI} {ρ:St→St} {te:TE} {σ:St} {H:Hp} {Q:VK}
theorem wZ(g:Int→Int)(hn:ts.length≤500)
  (iB:∀R:It→Hp→Prop,(∀J H1,ai H H1→sP J (ts.map V.int) H1→R J H1)→wi σ H R)
  (step:∀t∈ts,∀(Hc:Hp) (R:VK),ai H Hc→(∀H3,ai Hc H3→R (.int (g t)) H3)→te (some (.int t)::ρ σ) Hc R)
  (fin:∀D Hc,H D=none→ai H Hc→Hc D=some (.lst ((ts.map g).map V.int))→Q (.ref D) Hc):o8 wi ρ (fun _ H Q=>Q true H) te σ H Q:=by
 refine pk (xs:=ts.map V.int) iB (by rw [aT];exact jA (by lia)) (fun _ i y _=>∃t,ts[i]?=some t∧y=.int (g t)) (fun _ _ _ _ _ _ h _ _=>h) ?_ ?_
 ·intro D i v hi Hc R sc _ kc
  rw [fP] at hi;cases e:ts[i]? with
  | none=>rw [e] at hi;cases hi
  | some t=>rw [e] at hi;cases hi;exact step t (List.mem_of_getElem? e) Hc R sc fun H3 s3=>kc _ H3 s3 ⟨t,e,rfl⟩
 ·intro D ys Hc nD sc eV hP eD
  have ey:ys=(ts.map g).map V.int:=zr (by rw [eV,aT,aT]) fun i v e=>by obtain ⟨t,e1,e2⟩:=hP i v e;exact ⟨g t,by rw [fP,e1];rfl,e2⟩
  rw [ey] at eD;exact fin D Hc nD sc eD
theorem Jq{K:aE}{ys:List Int}(g:Int→Int→Int)(hn:xs.length≤500)
  (iB:∀R:It→Hp→Prop,(∀J H1,ai H H1→zp J ((xs.map V.int).zip (ys.map V.int)) H1→R J H1)→wi σ H R)
  (step:∀x y,(x,y)∈xs.zip ys→∀(Hc:Hp) (R:VK),ai H Hc→(∀H3,ai Hc H3→R (.int (g x y)) H3)→te (some (.int x)::some (.int y)::ρ σ) Hc R)
  (fin:∀D Hc,ai H Hc→Hc D=some (.lst (((xs.zip ys).map fun ab=>g ab.1 ab.2).map V.int))→Q (.ref D) Hc):zj K wi ρ (fun _ H Q=>Q true H) te σ H Q:=by
 have lz:((xs.map V.int).zip (ys.map V.int)).length=(xs.zip ys).length:=by simp [yv]
 have at':∀(i:Nat) (v u:V),((xs.map V.int).zip (ys.map V.int))[i]?=some (v,u)→∃x y,(xs.zip ys)[i]?=some (x,y)∧v=.int x∧u=.int y:=fun i v u e=>by
  obtain ⟨h1,h2⟩:=Cc.mp e;rw [fP] at h1 h2;cases e1:xs[i]? with
  | none=>rw [e1] at h1;cases h1
  | some x=>
   cases e2:ys[i]? with
   | none=>rw [e2] at h2;cases h2
   | some y=>rw [e1] at h1;rw [e2] at h2;cases h1;cases h2;exact ⟨x,y,Cc.mpr ⟨e1,e2⟩,rfl,rfl⟩
 refine QF (zs:=(xs.map V.int).zip (ys.map V.int)) iB (by rw [lz,yv];exact jA (by lia)) (fun i v=>∃x y,(xs.zip ys)[i]?=some (x,y)∧v=.int (g x y)) ?_ ?_
 ·intro i v u hi Hc R sc kc
  obtain ⟨x,y,e,rfl,rfl⟩:=at' i v u hi;exact step x y (List.mem_of_getElem? e) Hc R sc fun H3 s3=>kc _ H3 s3 ⟨x,y,e,rfl⟩
 ·intro D vs Hc sc DH hP eD
  have ey:vs=((xs.zip ys).map fun ab=>g ab.1 ab.2).map V.int:=zr (by rw [DH,lz,aT]) fun i v e=>by obtain ⟨x,y,e1,e2⟩:=hP i v e;exact ⟨g x y,by rw [fP,e1];rfl,e2⟩
  rw [ey] at eD;exact fin D Hc sc eD
theorem RM(xs:List V):mM xs none (some (-1))=xs.dropLast:=by
 have e:HT.d9 xs.length xs.length (some (-1))=xs.length-1:=by unfold HT.d9;simp;lia
 unfold mM;rw [e,show HT.d9 xs.length 0 none=0 from rfl,List.drop_zero,rJ,List.dropLast_eq_take]
theorem zE(h:1≤xs.length):dA (xs.map V.int) (-1)=some (.int (xs.getD (xs.length-1) 0)):=by
 obtain ⟨ys,y,rfl⟩:∃ys y,xs=ys++[y]:=⟨xs.dropLast,xs.getLast (by intro e;simp [e] at h),(List.dropLast_concat_getLast _).symm⟩
 rw [rK];show dA (ys.map V.int++[V.int y]) (-1)=_;rw [OW,jh,B4,mq,getD_at (by simp)]
 simp
theorem DI:∀place:Nat,(List.replicate ((place:Int).toNat) [V.int 0]).flatten=(List.replicate place (0:Int)).map V.int:=fun place=>by
 rw [dI,List.map_replicate]
 induction place with
 | zero=>rfl
 | succ m ih=>rw [kR,vC,ih,kR];rfl
theorem Jr{a:Int}{v:V}(ho:pd H q v a b)(hq:ax q)(nb:¬q∣b)(ba:a.natAbs≤B)(bb:b.natAbs≤B):∃p:Int×Int,aZ B H q v p.1 p.2∧aS q p (a,b):=by
 rcases ho with ⟨rfl,r,rfl,e⟩ | ⟨q2,r,rfl,r0,r1,er⟩
 ·have hb:b≠0:=fun z=>nb (z▸iR 0)
  obtain ⟨l,w,b1,b2⟩:=Dc (a:=a) hb;exact ⟨(fH a b,fI a b),.bR e l (ae b1 ba) (ae b2 bb),⟨0,by dsimp only;lia⟩⟩
 ·have q3:q≤997:=by rcases hq with h | h <;> lia
  refine ⟨(r,1),.rem r0 r1 q3,?_⟩;show q∣r*b-a*1;have h1:Cg q (r*(b % q)) a:=(g_ q _).symm.trans (er▸g_ q a);have h2:Cg q (r*b) (r*(b % q)):=((g_ q b).mulL r).symm;have h3:=h2.trans h1;rw [fO];exact h3
theorem Js(ps:aJ):∀n k,dh ps n≤k→k<n→(ps.getD k o1).1=0
 | 0,_,_,h=>by lia
 | n+1,k,h1,h2=>by
  unfold dh at h1;by_cases z:(ps.getD n o1).1=0
  ·rw [ar z] at h1
   by_cases e:k=n;·rw [e];exact z
   ·exact Js ps n k h1 (by lia)
  ·rw [ao z] at h1
   lia
theorem Jt(ps:aJ):∀n,0<dh ps n→(ps.getD (dh ps n-1) o1).1≠0
 | 0,h=>by simp [dh] at h
 | n+1,h=>by
  unfold dh at h ⊢;by_cases z:(ps.getD n o1).1=0
  ·rw [ar z] at h ⊢
   exact Jt ps n h
  ·rw [ao z] at h ⊢
   exact z
theorem DJ(ps:aJ):(aM ps).length=dh ps ps.length:=by unfold aM;rw [l_];have:=Du ps ps.length;lia
variable {ps:aJ}
theorem iE(h:k<(aM ps).length):(aM ps).getD k o1=ps.getD k o1:=by have h':=h;rw [DJ] at h';unfold aM;rw [fk,B0 h',←fk]
theorem Ju(h:(aM ps).length≤k):(ps.getD k o1).1=0:=by
 rw [DJ] at h;by_cases hk:k<ps.length;·exact Js ps ps.length k h hk
 ·rw [dr (by lia)];rfl
theorem zF(h:0<(aM ps).length):((aM ps).getD ((aM ps).length-1) o1).1≠0:=by
 rw [iE (by lia)]
 rw [DJ] at h ⊢;exact Jt ps ps.length h
theorem zG(h:0<ps.length→(ps.getD (ps.length-1) o1).1≠0):aM ps=ps:=by
 unfold aM;cases e:ps.length with
 | zero=>rw [mj.mp e];rfl
 | succ m=>
  unfold dh;have z:=h (by lia)
  rw [e,mq] at z;rw [ao z,←e,List.take_length]
theorem w5{p:Int×Int}(h:p∈aM ps):p∈ps:=List.mem_of_mem_take h
variable {D:Int}
theorem sY{f:Int}{p:Int×Int}(hq:ax q)(hT:1000≤T)(hc:Canon q p)(e:t*p.2=p.1*b)(ok:aX q b)(cZ:aX q D)(db:b∣D)(w:aS q p (f,D))(bf:f.natAbs≤T):t.natAbs≤T:=by
 by_cases z:q=0
 ·subst z
  have hp:=(hc.bot).1 rfl;have hb:=ok.1 rfl;have hD:=cZ.1 rfl;obtain ⟨k,ek⟩:=w;have e2:p.1*D=f*p.2:=by dsimp only at ek;lia
  have e3:t*D=f*b:=by
   have:(t*D)*p.2=(f*b)*p.2:=by rw [rN,e,rN,e2,rN]
   exact Ca (show p.2≠0 by lia) this
  have e4:t.natAbs*D.natAbs=f.natAbs*b.natAbs:=by rw [←a7,e3,a7]
  have e5:b.natAbs≤D.natAbs:=i_ db (by lia)
  have e6:t.natAbs*D.natAbs≤f.natAbs*D.natAbs:=by rw [e4];exact dY _ e5
  exact ae (B9 e6 (by lia)) bf
 ·have e1:=(hc.2 z)
  have q3:q≤997:=by rcases hq with h | h <;> lia
  rw [e1.1,ok.2 z] at e;lia
theorem Jv(l:ts.length=(aM ps).length)(h:∀k,k<(aM ps).length→aS q ((aM ps).getD k o1) (ts.getD k 0,b))(k:Nat):aS q (ps.getD k o1) (ts.getD k 0,b):=by
 by_cases hk:k<(aM ps).length
 ·rw [←iE hk]
  exact h k hk
 ·have z:=Ju (ps:=ps) (k:=k) (by lia)
  rw [dr (xs:=ts) (by lia)]
  exact ⟨0,by dsimp only;rw [z];simp⟩
theorem aD.dH{a:Addr}(h:aD B H q a ps):∀p∈ps,Canon q p:=fun p hp=>by
 obtain ⟨vs,e,l,k⟩:=h;obtain ⟨i,hi,rfl⟩:=ig hp;have hv:i<vs.length:=by lia
 exact (k i vs[i] ps[i] (by simp [hv]) (by simp [hi])).canon
theorem Jw(hq:ax q):Canon q o1:=⟨fun _=>⟨by decide,by decide⟩,fun z=>⟨rfl,by decide,by rcases hq with h | h;exact absurd h z;show (0:Int)<q;lia⟩⟩
theorem dM(hq:ax q)(h:∀p∈ps,Canon q p)(k:Nat):Canon q (ps.getD k o1):=by
 by_cases hk:k<ps.length;·rw [getD_at hk];exact h _ (gj _)
 ·rw [dr (by lia)];exact Jw hq
theorem DK{x M:Int}{p:Int×Int}(hq:ax q)(hc:Canon q p)(nx:¬q∣x)(w:aS q p (x,M)):p.1≠0:=fun z=>by obtain ⟨k,e⟩:=w;dsimp only at e;rw [z,jk,rF] at e;refine dR hq nx (hc.bot.nz hq) ⟨-k,?_⟩;rw [gq,←e,Int.neg_neg]
theorem RN{p:Int×Int}(hc:Canon q p)(h:p.1≠0):¬q∣p.1:=fun d=>by
 by_cases z:q=0
 ·subst z
  exact h (gr.mp d)
 ·have e:=hc.2 z
  have:=rE (by lia) d
  lia
theorem zH{p:Int×Int}(hq:ax q)(hc:Canon q p)(h:p.1≠0)(e:t*p.2=p.1*b)(ok:aX q b):¬q∣t:=fun d=>by refine dR hq (RN hc h) (ok.nz hq) ?_;rw [←e];exact jj d (vG ..)
theorem Jx{q:Int}{F:Nat}(hF:1≤F):∀(xs:aJ),(∀p∈xs,aX q p.2∧p.2.natAbs≤F)→∃D:Int,aX q D∧(∀p∈xs,p.2∣D)∧D.natAbs≤F ^ xs.length∧∀p∈xs,D.natAbs≤p.2.natAbs*F ^ (xs.length-1)
 | [],_=>⟨1,aX.one,fun p hp=>by simp at hp,by simp,fun p hp=>by simp at hp⟩
 | x::xs,h=>by
  obtain ⟨D,h1,h2,h3,h4⟩:=Jx hF xs (fun p hp=>h p (gO _ hp));have hx:=h x kL;refine ⟨x.2*D,hx.1.mul h1,fun p hp=>?_,?_,fun p hp=>?_⟩
  ·rcases dX.mp hp with e | e
   ·rw [e];exact vG ..
   ·exact jj (h2 p e) (vI ..)
  ·rw [a7,fi,fo,ji]
   exact bE h3 hx.2
  ·rw [a7,fi,mq]
   rcases dX.mp hp with e | e;·rw [e];exact dY _ h3
   ·have l:1≤xs.length:=List.length_pos_of_mem e
    refine ae (bE hx.2 (h4 p e)) (iP ?_);rw [show xs.length=xs.length-1+1 by lia,fo,mq]
    rw [Nat.mul_left_comm,ji F]
structure RowW (q:Int) (ps:aJ) (D:Int) (f:Nat→Int) (X Y L:Nat):Prop where
 ok:aX q D
 dvd:∀p∈ps,p.2∣D
 w:∀i,aS q (ps.getD i o1) (f i,D)
 bf:∀i,(f i).natAbs≤X
 bD:D.natAbs≤Y
 out:∀i,L≤i→f i=0
theorem canon_zero{p:Int×Int}(hc:Canon q p)(h:p.1=0):p=o1:=by
 obtain ⟨x,m⟩:=p;dsimp only at h;subst h;by_cases z:q=0
 ·have l:=hc.1 z
  have e:m=1:=by have l1:=l.pos;have l2:=l.2;simp at l2;lia
  rw [e];rfl
 ·rw [show m=1 from (hc.2 z).1]
  rfl
theorem DL(hq:ax q)(hc:∀p∈ps,Canon q p)(k:Nat):(aM ps).getD k o1=ps.getD k o1:=by
 by_cases hk:k<(aM ps).length;·exact iE hk
 ·rw [dr (by lia),canon_zero (dM hq hc k) (Ju (by lia))]
theorem zI:aS q o1 (0,D):=⟨0,by show (0:Int)*D-0*1=_;simp⟩
variable {N:Nat}
theorem DM(hq:ax q)(ok:aX q D):∀p∈cY q n m f g D N,Canon q p:=fun p hp=>by unfold cY at hp;obtain ⟨k,_,rfl⟩:=fm.mp hp;exact gG hq ok
theorem zJ{α:Type}{F:Nat→α}{d:α}(hk:k<N):((List.range N).map F).getD k d=F k:=by rw [getD_at (by simpa using hk),jn,List.getElem_range]
theorem DN(ok:aX q D)(k:Nat):aS q ((cY q n m f g D (n+m-1)).getD k o1) (bJ n m f g k,D):=by
 by_cases hk:k<n+m-1
 ·unfold cY
  rw [zJ hk];exact gc ok
 ·rw [dr (by simp [cY];lia),Jm (by lia)]
  exact zI
end My
namespace L2
open PySem PySem.Spec PyProof.Rows
variable {c:TT} {t:TS} {D:Ends} {σ:St} {H:Hp}
theorem w6{u:TS}(k:∀R:St→Hp→Prop,(∀σ H,D.nx σ H→R σ H)→vV c t u {D with nx:=R} σ H):vV c t u D σ H:=k D.nx fun _ _ h=>h
theorem RO{u:TS}(hc:∀Q:Bool→Hp→Prop,(∀b,Q b H)→c σ H Q)(ht:t D σ H)(hu:u D σ H):vV c t u D σ H:=hc _ fun b=>by
 cases b with
 | true=>rw [ar rfl];exact ht
 | false=>rw [ao dm];exact hu
end L2
namespace My
open PySem L2
variable {q:Int}
theorem RowW.weak{ps:aJ}{D:Int}{f:Nat→Int}{X Y L X' Y' L':Nat}(h:RowW q ps D f X Y L)(hx:X≤X')(hy:Y≤Y')(hl:L≤L'):RowW q ps D f X' Y' L':=
 ⟨h.ok,h.dvd,h.w,fun i=>ae (h.bf i) hx,ae h.bD hy,fun i hi=>h.out i (by lia)⟩
variable {b:Int}
theorem Jy{a D1 D2:Int}{p r:Int×Int}(h1:aS q p (a,D1))(h2:aS q r (b,D2)):aS q (p.1*r.1,p.2*r.2) (a*b,D1*D2):=by obtain ⟨k1,e1⟩:=h1;obtain ⟨k2,e2⟩:=h2;dsimp only at e1 e2;refine ⟨k1*(r.1*D2)+a*p.2*k2,?_⟩;dsimp only;grind
theorem Cg.mul{a c d:Int}(h1:Cg q a b)(h2:Cg q c d):Cg q (a*c) (b*d):=(h1.mulR c).trans (h2.mulL b)
theorem Cg.pow{q a b:Int}(h:Cg q a b):∀k:Nat,Cg q (a ^ k) (b ^ k)
 | 0=>by rw [vN,vN];exact Cg.refl 1
 | k+1=>by rw [vO,vO];exact (Cg.pow h k).mul h
theorem pB{q a:Int}(hq:ax q)(ha:¬q∣a):∀k:Nat,¬q∣a ^ k
 | 0=>by rw [vN];exact aX.one.nz hq
 | k+1=>by rw [vO];exact dR hq (pB hq ha k) ha
end My
namespace L2
open PySem PySem.Spec PyProof.Rows
section
variable {X:Cx} {e:Expr} {te:TE} {pos p2:Pos}
end
end L2
namespace My
open PySem L2
def zK(n:Nat):Prop:=n=0∨40<n
def RP(N:Addr):Sp:=fun vs H Q E=>∃(a:Addr) (xs:List V),vs=[.ref a]∧H a=some (.lst xs)∧xs.length≤1000∧(zK xs.length→E (.ref N) none H)∧(¬zK xs.length→Q (.int (xs.length:Int)) H)
def RQ(N:Addr):Sp:=fun vs H Q E=>∃(n:Nat) (a:Addr) (xs:List V),vs=[.int (n:Int),.ref a]∧H a=some (.lst xs)∧(xs.length≠n→E (.ref N) none H)∧(xs.length=n→Q .aV H)
end My
namespace L2
open PySem PySem.Spec PyProof.Rows
section
variable {X:Cx} {pins:aY} {σ:St} {H:Hp} {s:Shared}
end
end L2
namespace My
open PySem L2
theorem RR{a b:Int}(h:Cg 0 a b):a=b:=by have:=gr.mp h;lia
variable {q:Int}
theorem RT{a:Int}(h:¬q∣a):a≠0:=fun e=>h (e▸dw q)
def Jz(C:Addr):Sp:=fun vs H Q _=>∃(z a:Addr) (q:Int) (ts:List Int) (b:Int) (u:Nat→Int),vs=[.ref z,.ref a,.int b]∧df C H z q∧ax q∧H a=some (.lst (ts.map V.int))∧ts.length≤500∧(∀t∈ts,aP t)∧aP b∧¬q∣b∧(∀i,i<ts.length→Cg q (ts.getD i 0) (b*u i)) ∧
 ∀(c:Addr) (H':Hp) (rs:List Int),ai H H'→H c=none→H' c=some (.lst (rs.map V.int))→rs.length=ts.length→(∀i,i<ts.length→Cg q (rs.getD i 0) (u i))→(q≠0→∀x∈rs,0≤x∧x<q)→Q (.ref c) H'
def ag(xs:List Int):Nat→Int:=fun i=>xs.getD i 0
def cv(f g:Nat→Int)(k:Nat):Int:=aQ (k+1) fun i=>f i*g (k-i)
section
variable {q:Int} {f f' g g':Nat→Int} {k:Nat}
theorem zM:cv (fun i=>f i+f' i) g k=cv f g k+cv f' g k:=by unfold cv;rw [←zt];exact cX fun i _=>by grind
theorem gH(c:Int):cv (fun i=>c*f i) g k=c*cv f g k:=by unfold cv;rw [sS];exact cX fun i _=>by grind
theorem JA:cv f (fun i=>g i+g' i) k=cv f g k+cv f g' k:=by unfold cv;rw [←zt];exact cX fun i _=>by grind
theorem ny(c:Int):cv f (fun i=>c*g i) k=c*cv f g k:=by unfold cv;rw [sS];exact cX fun i _=>by grind
theorem jI(h:∀i,Cg q (f i) (f' i))(h':∀i,Cg q (g i) (g' i)):Cg q (cv f g k) (cv f' g' k):=DC fun i _=>((h i).mulR _).trans ((h' _).mulL _)
theorem DO(n:Nat)(F:Nat→Int):aQ (n+1) F=aQ n F+F n:=f_ n F
theorem JB(F:Nh):∀k,(aQ (k+1) fun i=>aQ (k+1-i) fun j=>F i j)=aQ (k+1) fun s=>aQ (s+1) fun i=>F i (s-i)
 | 0=>rfl
 | k+1=>by
  have ih:=JB F k;rw [DO (k+1) fun s=>aQ (s+1) fun i=>F i (s-i),←ih,DO (k+1) fun i=>aQ (k+1+1-i) fun j=>F i j];rw [show (aQ (k+1) fun i=>aQ (k+1+1-i) fun j=>F i j)=(aQ (k+1) fun i=>aQ (k+1-i) fun j=>F i j)+aQ (k+1) fun i=>F i (k+1-i) by rw [←zt];refine cX fun i hi=>?_;rw [show k+1+1-i=k+1-i+1 by lia,f_]]
  rw [DO (k+1) fun i=>F i (k+1-i),show k+1+1-(k+1)=1 by lia]
  have:(aQ 1 fun j=>F (k+1) j)=F (k+1) (k+1-(k+1)):=by rw [kS];show F (k+1) 0+0=_;lia
  rw [this];lia
theorem RU(n:Nat)(F:Nat→Int):aQ (n+1) F=aQ (n+1) fun i=>F (n-i):=by
 induction n with
 | zero=>rfl
 | succ n ih=>
  rw [f_,ih];show _=F (n+1-0)+aQ (n+1) fun i=>F (n+1-(i+1));rw [show (fun i=>F (n+1-(i+1)))=fun i=>F (n-i) from funext fun i=>by congr 1;lia,rJ]
  lia
theorem zN(f g:Nat→Int)(k:Nat):cv f g k=cv g f k:=by unfold cv;rw [RU];refine cX fun i hi=>?_;rw [show k-(k-i)=i by lia,jV]
theorem sZ(f g h:Nat→Int)(k:Nat):cv (cv f g) h k=cv f (cv g h) k:=by
 have l:cv (cv f g) h k=aQ (k+1) fun s=>aQ (s+1) fun i=>f i*g (s-i)*h (k-s):=by unfold cv;refine cX fun s _=>?_;rw [jV,sS];exact cX fun i _=>by grind
 have r:cv f (cv g h) k=aQ (k+1) fun i=>aQ (k+1-i) fun j=>f i*g j*h (k-(i+j)):=by
  unfold cv;refine cX fun i hi=>?_;rw [sS,show k-i+1=k+1-i by lia]
  exact cX fun j _=>by rw [show k-i-j=k-(i+j) by lia];grind
 rw [l,r,JB fun i j=>f i*g j*h (k-(i+j))];refine cX fun s _=>cX fun i hi=>?_;rw [show i+(s-i)=s by lia]
end
theorem zO{n m:Nat}{f g:Nat→Int}(hf:∀i,n≤i→f i=0)(hg:∀i,m≤i→g i=0)(k:Nat):bJ n m f g k=cv f g k:=by
 have e:bJ n m f g k=aQ n fun i=>if i≤k then f i*g (k-i) else 0:=by
  unfold bJ;refine cX fun i _=>?_;rw [lC];by_cases h:i≤k
  ·rw [ar h]
   by_cases h2:k<i+m;·rw [ar ⟨h,h2⟩]
   ·rw [ao (by lia),hg _ (by lia),cF]
  ·rw [ao (by lia),ao h]
 rw [e];unfold cv;have ext:∀(a b:Nat) (F:Nat→Int),(∀i,a≤i→F i=0)→aQ (a+b) F=aQ a F:=fun a b F hF=>by
  induction b with
  | zero=>rfl
  | succ b ih=>
   rw [show a+(b+1)=(a+b)+1 by lia,f_,ih,hF _ (by lia)]
   lia
 have p1:=ext n (k+1) (fun i=>if i≤k then f i*g (k-i) else 0) fun i hi=>by show (if i≤k then f i*g (k-i) else 0)=0;rw [hf i hi];simp
 have p2:=ext (k+1) n (fun i=>if i≤k then f i*g (k-i) else 0) fun i hi=>ao (by lia)
 rw [←p1,Nat.add_comm n (k+1),p2];exact cX fun i hi=>ar (by lia)
theorem c_{xs:List Int}{i:Nat}(h:xs.length≤i):ag xs i=0:=dr h
theorem RV(ts us:List Int)(k:Nat):ag (gF ts us) k=cv (ag ts) (ag us) k:=by
 rw [←zO (n:=ts.length) (m:=us.length) (fun i hi=>c_ hi) (fun i hi=>c_ hi)];unfold ag gF;by_cases hk:k<ts.length+us.length-1;·rw [getD_at (by simpa using hk),jn,List.getElem_range]
 ·rw [dr (by simp;lia)]
  unfold bJ;rw [show (fun i=>cH us.length (ts.getD i 0) (fun j=>us.getD j 0) i k)=fun i=>if i<ts.length then 0 else cH us.length (ts.getD i 0) (fun j=>us.getD j 0) i k from funext fun i=>by
   by_cases h:i<ts.length
   ·rw [ar h,lC]
    by_cases h2:i≤k∧k<i+us.length;·lia
    ·rw [ao h2]
   ·rw [ao h]]
  rw [cX (g:=fun _=>0) fun i hi=>ar hi,jG]
theorem ja(hq:ax q):¬q∣1:=fun h=>by
 rcases hq with rfl | ⟨h2,_⟩
 ·have:=gr.mp h
  lia
 ·have:=rE (by decide) h
  lia
def cC(q:Int)(D X:Nat→Int):Prop:=∃(c:Int) (w:Nat→Int) (N:Nat),¬q∣c∧(∀i,N≤i→w i=0)∧∀t,Cg q (c*X t) (cv w D t)
section
variable {q:Int} {D X Y Z b:Nat→Int} {n:Nat}
theorem cC.self(hq:ax q)(D:Nat→Int):cC q D D:=⟨1,fun i=>if i=0 then 1 else 0,1,ja hq,fun i hi=>ao (by lia),fun t=>Cg.of_eq (by
 unfold cv;rw [aQ,show (fun i=>(fun i=>if i=0 then (1:Int) else 0) (i+1)*D (t-(i+1)))=fun _=>0 from funext fun i=>by simp,jG]
 simp)⟩
theorem cC.RX(hq:ax q)(h:∀t,Cg q (X t) 0):cC q D X:=⟨1,fun _=>0,0,ja hq,fun _ _=>rfl,fun t=>((h t).mulL 1).trans (Cg.of_eq (by
 unfold cv;rw [show (fun i=>0*D (t-i))=fun _=>0 from funext fun i=>by simp,jG]
 rfl))⟩
theorem JD{w:Nat→Int}{N M:Nat}(hw:∀i,N≤i→w i=0)(hb:∀i,M≤i→b i=0){k:Nat}(hk:N+M≤k):cv w b k=0:=by
 unfold cv;rw [cX (g:=fun _=>0) fun i hi=>by
  by_cases h:N≤i;·rw [hw i h,jk]
  ·rw [hb _ (by lia),cF],jG]
theorem cC.made(hq:ax q)(hX:cC q D X)(hY:cC q D Y){az least:Int}(hb:∀i,n≤i→b i=0)(nm:¬q∣az)(e:∀t,Cg q (az*Z t) (cv b X t+least*Y t)):cC q D Z:=by
 obtain ⟨c1,w1,N1,a1,b1,d1⟩:=hX;obtain ⟨c2,w2,N2,a2,b2,d2⟩:=hY;refine ⟨c1*c2*az,fun i=>c2*cv b w1 i+least*c1*w2 i,n+N1+N2,dR hq (dR hq a1 a2) nm,fun i hi=>?_,fun t=>?_⟩
 ·show c2*cv b w1 i+least*c1*w2 i=0
  rw [JD (k:=i) hb b1 (by lia),b2 i (by lia)]
  simp
 ·have l:Cg q (c1*c2*az*Z t) (c1*c2*(cv b X t+least*Y t)):=(Cg.of_eq (by grind)).trans ((e t).mulL (c1*c2))
  have x:Cg q (c1*cv b X t) (cv (cv b w1) D t):=by rw [←ny,sZ];exact jI (fun _=>Cg.refl _) d1
  have r:cv (fun i=>c2*cv b w1 i+least*c1*w2 i) D t=c2*cv (cv b w1) D t+least*c1*cv w2 D t:=by rw [zM,gH,gH]
  rw [r];refine l.trans ((Cg.of_eq (show _=c2*(c1*cv b X t)+least*c1*(c2*Y t) by grind)).trans ((x.mulL c2).add ((d2 t).mulL _)))
end
end My
namespace Srs
def jJ:Nat→Nat
 | 0=>1
 | n+1=>(n+1)*jJ n
theorem JE:∀(k hi:Nat),(cols hi k).length=k
 | 0,_=>rfl
 | k+1,hi=>by rw [cols,fi,JE]
theorem w_(r:Row):∀k,(b5 r k).length=k
 | 0=>rfl
 | k+1=>by rw [b5,fi,w_]
theorem JF{W k:Nat}{r:Row}(h:∀i,(r i).natAbs≤W)(i:Nat):(sh k r i).natAbs≤W:=by
 unfold sh
 split
 ·simp
 ·exact h _
end Srs
namespace My
open PySem L2 Srs
def nC(b:Nat→Int)(B:Row)(i:Nat):Int:=aQ (i / 3+1) fun j=>b j*B (i-3*j)
def Lf(az:Int)(A:Row)(b:Nat→Int)(B:Row):Row:=fun i=>az*A i-nC b B i
theorem JG(a b:Nat){F:Nat→Int}(hF:∀i,a≤i→F i=0):aQ (a+b) F=aQ a F:=by
 induction b with
 | zero=>rfl
 | succ b ih=>
  rw [show a+(b+1)=(a+b)+1 by lia,f_,ih,hF _ (by lia)]
  lia
theorem JH(b:Nat→Int)(g:Row)(i:Nat):∀N s,comb ((((List.range' s N)).map fun j=>(-(b j),j)).map fun p=>(p.1,sh p.2 g)) i=-aQ N fun j=>b (s+j)*sh (s+j) g i
 | 0,s=>by simp [comb,aQ]
 | N+1,s=>by
  have ih:=JH b g i N (s+1);rw [List.range'_succ,rB,rB,comb];dsimp only;rw [ih,aQ,Nat.add_zero];rw [show (fun j=>b (s+1+j)*sh (s+1+j) g i)=fun j=>b (s+(j+1))*sh (s+(j+1)) g i from funext fun j=>by rw [show s+1+j=s+(j+1) by lia]]
  show -b s*sh s g i+_=_;grind
theorem JI{az:Int}{A B:Row}{b:Nat→Int}{d:Nat}(hb:∀j,d<j→b j=0):Red az A B (Lf az A b B) d:=by
 refine ⟨(List.range' 0 (d+1)).map fun j=>(-(b j),j),fun p hp=>?_,fun i=>?_⟩
 ·obtain ⟨j,hj,rfl⟩:=fm.mp hp
  have:=List.mem_range'.mp hj;show j≤d;obtain ⟨k,hk,e⟩:=this;lia
 ·rw [JH]
  have e:nC b B i=aQ (d+1) fun j=>b (0+j)*sh (0+j) B i:=by
   have p1:=JG (d+1) (i / 3+1) (F:=fun j=>b (0+j)*sh (0+j) B i) fun j hj=>by rw [vJ,hb j (by lia),jk]
   have p2:=JG (i / 3+1) (d+1) (F:=fun j=>b (0+j)*sh (0+j) B i) fun j hj=>by rw [vJ];unfold sh;rw [ar (by lia),cF]
   rw [←p1,Nat.add_comm (d+1),p2];unfold nC;refine cX fun j hj=>?_;rw [vJ];unfold sh;rw [ao (by lia)]
  unfold Lf;rw [e];lia
def up1(r:Nat→Int):Nat→Int:=fun t=>if t=0 then 0 else r (t-1)
def aI(r u v:List Int):Row:=fun i=>if i % 3=0 then up1 (ag r) (i / 3) else if i % 3=1 then ag u (i / 3) else ag v (i / 3)
theorem RY(b r:Nat→Int)(t:Nat):cv b (up1 r) t=up1 (cv b r) t:=by
 cases t with
 | zero=>show b 0*up1 r 0+0=0;show b 0*0+0=0;lia
 | succ t=>show _=cv b r t;unfold cv;rw [f_,kS,show up1 r 0=0 from rfl,cF,oz];exact cX fun i hi=>by unfold up1;rw [ao (by lia),show t+1-i-1=t-i by lia]
section
variable {r u v:List Int} {t:Nat} {b:Nat→Int} {B:Row}
theorem nF:aI r u v (3*t)=up1 (ag r) t:=by unfold aI;rw [ar (by lia),show 3*t / 3=t by lia]
theorem pC:aI r u v (3*t+1)=ag u t:=by unfold aI;rw [ao (by lia),ar (by lia),show (3*t+1) / 3=t by lia]
theorem pD:aI r u v (3*t+2)=ag v t:=by unfold aI;rw [ao (by lia),ao (by lia),show (3*t+2) / 3=t by lia]
theorem JJ{P:Nat→Prop}(h0:∀t,P (3*t))(h1:∀t,P (3*t+1))(h2:∀t,P (3*t+2))(i:Nat):P i:=by
 have e:i=3*(i / 3)∨i=3*(i / 3)+1∨i=3*(i / 3)+2:=by lia
 rcases e with e | e | e;·rw [e];exact h0 _
 ·rw [e];exact h1 _
 ·rw [e];exact h2 _
theorem DP{c:Nat}(hc:c<3):nC b B (3*t+c)=cv b (fun k=>B (3*k+c)) t:=by
 unfold nC cv;rw [show (3*t+c) / 3=t by lia]
 exact cX fun j hj=>by rw [show 3*t+c-3*j=3*(t-j)+c by lia]
theorem RZ:nC b (aI r u v) (3*t)=up1 (cv b (ag r)) t:=by
 have:=DP (b:=b) (B:=aI r u v) (t:=t) (c:=0) (by decide)
 rw [Nat.add_zero] at this;rw [this,←RY]
 congr 1
 funext k
 exact nF
theorem JK:nC b (aI r u v) (3*t+1)=cv b (ag u) t:=by
 rw [DP (by decide)]
 congr 1
 funext k
 exact pC
theorem JL:nC b (aI r u v) (3*t+2)=cv b (ag v) t:=by
 rw [DP (by decide)]
 congr 1
 funext k
 exact pD
end
theorem R0:∀a b:Nat,∃x y:Int,(a:Int)*x+(b:Int)*y=(Nat.gcd a b:Nat):=fun a b=>by
 induction a,b using Nat.gcd.induction with
 | H0 n=>exact ⟨0,1,by simp⟩
 | H1 m n hm ih=>
  obtain ⟨x,y,e⟩:=ih;refine ⟨y-(n / m:Nat)*x,x,?_⟩;have h:=Nat.mod_add_div n m;have h':((n % m:Nat):Int)=(n:Int)-(m:Int)*((n / m:Nat):Int):=by
   have:((n % m:Nat):Int)+(m:Int)*((n / m:Nat):Int)=n:=by exact_mod_cast h
   lia
  rw [Nat.gcd_rec m n,←e,h'];grind
variable {q b:Int}
theorem JM(hq:ax q)(q0:q≠0)(nb:¬q∣b):∃c:Int,Cg q (b*c) 1:=by
 rcases hq with h | ⟨q2,q3,q4⟩;·exact absurd h q0
 ·have k1:=du b (show q≠0 by lia)
  have k2:=dJ b (show 0<q by lia)
  have k3:b % q≠0:=fun z=>nb (Cb z);have g:=C_ q2 q3 q4 (show 1≤b % q by lia) k2
  obtain ⟨x,y,e⟩:=R0 q.natAbs (b % q).natAbs;have g':Nat.gcd q.natAbs (b % q).natAbs=1:=g;rw [g',show (q.natAbs:Int)=q by lia,show ((b % q).natAbs:Int)=b % q by lia] at e
  refine ⟨y,?_⟩;have c:Cg q (b*y) (b % q*y):=((g_ q b).symm).mulR y;exact c.trans ⟨-x,by rw [gq];lia⟩
theorem xa{u x y:Int}(hq:ax q)(nu:¬q∣u)(h:Cg q (u*x) (u*y)):Cg q x y:=by
 refine Ce fun z=>dR hq nu z ?_;unfold Cg at h
 rwa [mw]
theorem aux1{a k j:Int}(h:a-b*(q*k)=q*j):a=q*(j+b*k):=by grind
theorem aux2(m x y a b:Int):m*x-a+(m*y-b)=m*(x+y)-(a+b):=by grind
def hE(x:Int)(B:Nat):Prop:=x.natAbs≤B
structure CI (q:Int) (ts us:List Int) (f g:Row) (n0 m0:Nat) (W:Nat→Nat) (r u v r' u' v':List Int) (ld ht:Int):Prop where
 bz:∀t,Cg q (cv (ag u) (ag ts) t+cv (ag v) (ag us) t) (ag r t)
 JN:∀t,Cg q (cv (ag u') (ag ts) t+cv (ag v') (ag us) t) (ag r' t)
 tr:r≠[]→¬q∣ag r (r.length-1)
 pE:r'≠[]→¬q∣ag r' (r'.length-1)
 dv:∀D,cC q D (ag r)→cC q D (ag r')→cC q D (ag ts)∧cC q D (ag us)
 nl:¬q∣ld
 nh:¬q∣ht
 le:r'.length≤r.length
 h1:r.length=r'.length→ht=1
 ch:q=0→r'≠[]→Ch f n0 g m0 (aI r u v) r.length (aI r' u' v') r'.length ld.natAbs ht.natAbs
 ev:q=0→r'≠[]→∃X,X*ht.natAbs ^ (r.length-r'.length-1)=(ag r' (r'.length-1)).natAbs ^ (r.length-r'.length)∧X≤W r'.length
 bh:ht.natAbs≤W r.length
 bl:ld.natAbs≤W r.length
 bA:∀i,(aI r u v i).natAbs≤W r.length
 bB:∀i,(aI r' u' v' i).natAbs≤W r'.length
 JO:∀i,(aI r' u' v' i).natAbs≤W (r.length-1)
 rn:r.length≤n0
 rm:r'.length≤m0
structure CG (q:Int) (f g:Row) (n0 m0:Nat) (W:Nat→Nat):Prop where
 sb:q=0→∀j t,j<m0→S j f n0 g m0 t≤W j
 mn:m0≤n0
 n5:n0≤41
 w1:∀j,1000≤W j
 am:∀i j,i≤j→W j≤W i
section
variable {q:Int} {ts us:List Int} {f g:Row} {n0 m0:Nat} {W:Nat→Nat} {r u v r' u' v':List Int} {ld ht:Int} {az:Int} {bs ls:List Int}
variable {xs ys zs:List Int}
theorem xb:∀t,xs.length<t→aI xs ys zs (3*t)=0:=fun t h=>by
 rw [nF];unfold up1;rw [ao (by lia)]
 exact c_ (by lia)
theorem lE(h:1≤xs.length):aI xs ys zs (3*xs.length)=ag xs (xs.length-1):=by rw [nF];unfold up1;rw [ao (by lia)]
theorem zP{t:Nat}:Lf az (aI r u v) (ag bs) (aI r' u' v') (3*t)=up1 (fun k=>az*ag r k-cv (ag bs) (ag r') k) t:=by
 unfold Lf;rw [nF,RZ];unfold up1
 split <;> simp
theorem CI.left(hq:ax q)(I:CI q ts us f g n0 m0 W r u v r' u' v' ld ht)(G:CG q f g n0 m0 W)(ne:r'≠[])(lb:bs.length=r.length-r'.length+1)(ll:ls.length=r'.length-1)(e:∀k,Cg q (az*ag r k) (cv (ag bs) (ag r') k+ag ls k))(em:q=0→az=ag r' (r'.length-1) ^ (r.length-r'.length+1)) :
  ∃C:Row,(∀i,Cg q (Lf az (aI r u v) (ag bs) (aI r' u' v') i) (ld*ht ^ (r.length-r'.length)*C i))∧(q=0→∀i,(C i).natAbs≤W (r'.length-1)):=by
 have ky:¬q∣ld*ht ^ (r.length-r'.length):=dR hq I.nl (pB hq I.nh _);have l1:1≤r'.length:=by
  cases r' with
  | nil=>exact absurd rfl ne
  | cons _ _=>simp
 by_cases q0:q=0
 ·subst q0
  have e0:∀k,az*ag r k=cv (ag bs) (ag r') k+ag ls k:=fun k=>by have:=gr.mp (e k);lia
  have red:Red ((aI r' u' v' (3*r'.length)) ^ (r.length-r'.length+1)) (aI r u v) (aI r' u' v') (Lf az (aI r u v) (ag bs) (aI r' u' v')) (r.length-r'.length):=by rw [lE l1,←em rfl];exact JI fun j hj=>c_ (by lia)
  have h0:∀t,r'.length-1<t→Lf az (aI r u v) (ag bs) (aI r' u' v') (3*t)=0:=fun t ht=>by
   rw [zP];unfold up1;rw [ao (by lia)]
   show az*ag r (t-1)-cv (ag bs) (ag r') (t-1)=0;rw [e0,c_ (show ls.length≤t-1 by lia)]
   lia
  have L:=fun t=>QW (I.ch rfl ne) red I.le l1 (by rw [lE l1];exact fun z=>I.pE ne (by rw [z];exact dw 0)) xb h0 t
  have dvd:∀t,ld*ht ^ (r.length-r'.length)∣Lf az (aI r u v) (ag bs) (aI r' u' v') t:=fun t=>by rw [←Cd,a7,gu,L t];exact ⟨_,rfl⟩
  refine ⟨fun t=>Lf az (aI r u v) (ag bs) (aI r' u' v') t / (ld*ht ^ (r.length-r'.length)),fun t=>Cg.of_eq (Int.mul_ediv_cancel' (dvd t)).symm,fun _ t=>?_⟩;have eC:(Lf az (aI r u v) (ag bs) (aI r' u' v') t / (ld*ht ^ (r.length-r'.length))).natAbs=S (r'.length-1) f n0 g m0 t:=by
   have p:0<(ld*ht ^ (r.length-r'.length)).natAbs:=gk.mpr fun z=>ky (by rw [z];exact dw 0)
   refine vK p ?_;rw [←a7,Int.mul_ediv_cancel' (dvd t),L t,a7,gu]
  rw [eC];have rm:=I.rm;exact G.sb rfl _ _ (show r'.length-1<m0 by lia)
 ·obtain ⟨c,hc⟩:=JM hq q0 ky
  refine ⟨fun i=>c*Lf az (aI r u v) (ag bs) (aI r' u' v') i,fun i=>?_,fun z=>absurd z q0⟩;have:=hc.mulR (Lf az (aI r u v) (ag bs) (aI r' u' v') i);exact ((Cg.of_eq (by grind)).trans (this.symm)).trans (Cg.of_eq (by grind))
theorem CI.next{r2 u2 v2:List Int}{h2:Int}{C:Row}(hq:ax q)(I:CI q ts us f g n0 m0 W r u v r' u' v' ld ht)(G:CG q f g n0 m0 W)(ne:r'≠[])(lb:bs.length=r.length-r'.length+1)(ll:ls.length=r'.length-1)(e:∀k,Cg q (az*ag r k) (cv (ag bs) (ag r') k+ag ls k))(nm:¬q∣az)(em:q=0→az=ag r' (r'.length-1) ^ (r.length-r'.length+1))
  (hC:∀i,Cg q (Lf az (aI r u v) (ag bs) (aI r' u' v') i) (ld*ht ^ (r.length-r'.length)*C i)) (bC:q=0→∀i,(C i).natAbs≤W (r'.length-1)) (e2:∀i,Cg q (aI r2 u2 v2 i) (C i)) (b2:q≠0→∀i,(aI r2 u2 v2 i).natAbs≤1000) (l2:r2.length≤r'.length-1) (t2:r2≠[]→¬q∣ag r2 (r2.length-1))
  (eh:Cg q (ag r' (r'.length-1) ^ (r.length-r'.length)) (ht ^ (r.length-r'.length-1)*h2)) (R3:hE h2 (W r'.length)):CI q ts us f g n0 m0 W r' u' v' r2 u2 v2 (ag r' (r'.length-1)) h2:=by
 have ky:¬q∣ld*ht ^ (r.length-r'.length):=dR hq I.nl (pB hq I.nh _);have l1:1≤r'.length:=by
  cases r' with
  | nil=>exact absurd rfl ne
  | cons _ _=>simp
 have nG:=I.pE ne;have eA:∀i,Cg q (Lf az (aI r u v) (ag bs) (aI r' u' v') i) (ld*ht ^ (r.length-r'.length)*aI r2 u2 v2 i):=fun i=>(hC i).trans ((e2 i).symm.mulL _);have bT:∀i,(aI r2 u2 v2 i).natAbs≤W (r'.length-1):=fun i=>by
  by_cases q0:q=0
  ·have z:=e2 i
   have z':=bC q0 i;subst q0
   rwa [oC.mp (gr.mp z)]
  ·exact ae (b2 q0 i) (G.w1 _)
 have e0:∀t,Cg q (ld*ht ^ (r.length-r'.length)*ag r2 t) (az*ag r t-cv (ag bs) (ag r') t):=fun t=>by have z:=(eA (3*(t+1))).symm;rw [nF,zP] at z;exact z
 have e1:∀t,Cg q (ld*ht ^ (r.length-r'.length)*ag u2 t) (az*ag u t-cv (ag bs) (ag u') t):=fun t=>by
  have z:=(eA (3*t+1)).symm;unfold Lf at z
  rwa [pC,pC,JK] at z
 have e3:∀t,Cg q (ld*ht ^ (r.length-r'.length)*ag v2 t) (az*ag v t-cv (ag bs) (ag v') t):=fun t=>by
  have z:=(eA (3*t+2)).symm;unfold Lf at z
  rwa [pD,pD,JL] at z
 have R4:¬q∣h2:=fun z=>by have:=eh.nz (b:=ht ^ (r.length-r'.length-1)*h2);exact pB hq nG (r.length-r'.length) (by obtain ⟨k,hk⟩:=z;obtain ⟨j,hj⟩:=eh;exact ⟨j+ht ^ (r.length-r'.length-1)*k,aux1 (by rw [hk] at hj;exact hj)⟩)
 have hH:q=0→h2.natAbs*ht.natAbs ^ (r.length-r'.length)=(aI r' u' v' (3*r'.length)).natAbs ^ (r.length-r'.length)*ht.natAbs:=fun z=>by
  subst z;have z:=oC.mp (gr.mp eh);have zz:=fN Int.natAbs z;rw [a7,gu,gu] at zz;rw [lE l1,zz];by_cases g0:r.length=r'.length
  ·have h1:=I.h1 g0
   rw [h1,g0];simp
  ·obtain ⟨k,hk⟩:∃k,r.length-r'.length=k+1:=⟨r.length-r'.length-1,by have:=I.le;lia⟩
   rw [hk,show k+1-1=k by lia,fo]
   ac_rfl
 have lp:ld≠0:=fun z=>I.nl (by rw [z];exact dw q)
 have hp:ht≠0:=fun z=>I.nh (by rw [z];exact dw q)
 have fz:q=0→Red ((aI r' u' v' (3*r'.length)) ^ (r.length-r'.length+1)) (aI r u v) (aI r' u' v') (fun i=>ld*ht ^ (r.length-r'.length)*aI r2 u2 v2 i) (r.length-r'.length):=fun z=>by
  have:(fun i=>ld*ht ^ (r.length-r'.length)*aI r2 u2 v2 i)=Lf az (aI r u v) (ag bs) (aI r' u' v'):=funext fun i=>by have y:=eA i;subst z;exact (oC.mp (gr.mp y)).symm
  rw [this,lE l1,←em z];exact JI fun j hj=>c_ (by lia)
 have G0:aI r' u' v' (3*r'.length)≠0:=by rw [lE l1];exact fun z=>nG (by rw [z];exact dw q)
 refine ⟨I.JN,fun t=>xa hq ky ?_,I.pE,t2,fun D d1 d2=>I.dv D ?_ d1,nG,R4,by clear hH;lia,fun z=>by clear hH;lia,fun z n2=>?_,fun z n2=>?_,R3,by rw [←lE (ys:=u') (zs:=v') l1];exact I.bB _,I.bB,fun i=>?_,fun i=>?_,by have:=I.le;have:=I.rn;lia,by have:=I.rm;lia⟩
 ·have a:=jI (k:=t) e1 (fun i=>Cg.refl (ag ts i))
  have b:=jI (k:=t) e3 (fun i=>Cg.refl (ag us i));rw [gH] at a b;have s1:∀(x y w:Nat→Int),cv (fun i=>az*x i-cv (ag bs) y i) w t=az*cv x w t-cv (ag bs) (cv y w) t:=fun x y w=>by
   rw [←sZ,←gH,show (fun i=>az*x i-cv (ag bs) y i)=fun i=>az*x i+(-1)*cv (ag bs) y i from funext fun i=>by lia,zM,gH (-1),gH]
   lia
  rw [s1] at a b;have c1:=I.bz t;have c2:Cg q (cv (ag bs) (cv (ag u') (ag ts)) t+cv (ag bs) (cv (ag v') (ag us)) t) (cv (ag bs) (ag r') t):=by rw [←JA];exact jI (fun _=>Cg.refl _) I.JN
  refine (Cg.of_eq (jW ..)).trans ((a.add b).trans (Cg.trans ?_ (e0 t).symm));exact (Cg.of_eq (aux2 ..)).trans ((c1.mulL az).sub c2)
 ·refine cC.made hq d1 d2 (least:=ld*ht ^ (r.length-r'.length)) (b:=ag bs) (n:=bs.length) (fun i hi=>c_ hi) nm fun t=>?_
  have z:=(Cg.refl (q:=q) (cv (ag bs) (ag r') t)).add (e0 t);exact (Cg.of_eq (by rw [Int.add_comm,Int.sub_add_cancel])).trans z.symm
 ·have c:=QX (e:=ld*ht ^ (r.length-r'.length)) (C:=aI r2 u2 v2) (l:=r2.length) (I.ch z ne) (gk.mpr lp) (gk.mpr hp) (fz z) (by rw [a7,gu]) I.le G0 xb (by clear hH;lia) xb (hH z)
  rwa [lE l1] at c
 ·have l3:1≤r2.length:=by
   cases r2 with
   | nil=>exact absurd rfl n2
   | cons _ _=>simp
  have c:=QZ (e:=ld*ht ^ (r.length-r'.length)) (C:=aI r2 u2 v2) (l:=r2.length) (I.ch z ne) (gk.mpr lp) (gk.mpr hp) (fz z) (by rw [a7,gu]) I.le G0 xb (by clear hH;lia) xb (hH z)
  rw [lE l3] at c;have rm:=I.rm;exact ⟨_,c,by subst z;exact G.sb rfl _ _ (show r2.length<m0 by clear hH;lia)⟩
 ·exact ae (bT i) (G.am _ _ (by lia))
 ·exact bT i
end
end My
namespace L2
open PySem PySem.Spec PyProof.Rows
theorem R5{X:Cx}:vX X .Mult (fun x y H Q=>∃i j,x=.int i∧y=.int j∧y7 i j∧Q (.int (i*j)) H):=by intro pins s σ H x y v u Q I r1 r2 h;obtain ⟨i,j,e1,e2,c,q⟩:=h;subst e1;subst e2;obtain ⟨t,rfl⟩:=r1;obtain ⟨t',rfl⟩:=r2;exact imul_int ⟨.int _,H,I.tok _,⟨_,rfl⟩,q⟩ c.ok
end L2
namespace My
open PySem L2 Srs
variable {σ:St} {H:Hp}
theorem fJ{a b:TS}{D:Ends}(h:∀R:St→Hp→Prop,(∀σ H,b D σ H→R σ H)→a {D with nx:=R} σ H):Co a b D σ H:=h _ fun _ _ h=>h
theorem R6{te:TE}{tr:TA}{Q:List V→Hp→Prop}(h:te σ H fun x H1=>tr σ H1 fun ys H2=>Q (x::ys) H2):cW te tr σ H Q:=h
variable {x:Int}
theorem eW(h:x.natAbs≤10 ^ 600):aP x:=fV h (by decide +kernel)
def Rm(q:Int)(xs:List Int):Prop:=q≠0→∀x∈xs,0≤x∧x<q
def da(q:Int)(xs:List Int):Prop:=xs≠[]→¬q∣ag xs (xs.length-1)
variable {q:Int}
theorem R7(h:q≠0→0≤x∧x<q)(n:x≠0):¬q∣x:=fun d=>by
 by_cases q0:q=0
 ·rw [q0] at d
  exact n (gr.mp d)
 ·obtain ⟨k,hk⟩:=d
  have b:=h q0;have:k=0:=by
   rcases Int.lt_trichotomy k 0 with y | y | y
   ·have:q*k≤q*(-1):=jU (by lia) (by lia)
    lia
   ·exact y
   ·have:q*1≤q*k:=jU (by lia) (by lia)
    lia
  rw [this,cF] at hk;exact n hk
theorem JP{rs:List Int}{k:Nat}(nn:Rm q rs)(hk:k≤rs.length)(hn:0<k→ag rs (k-1)≠0)(hz:∀j,k≤j→ag rs j=0):Rm q (rs.take k)∧da q (rs.take k)∧∀t,ag (rs.take k) t=ag rs t:=by
 have ek:∀t,ag (rs.take k) t=ag rs t:=fun t=>by
  unfold ag;rw [fk,fk,List.getElem?_take];by_cases h:t<k;·rw [ar h]
  ·rw [ao h]
   have:=hz t (by lia)
   unfold ag at this;rw [fk] at this;rw [this];rfl
 refine ⟨fun q0 x hx=>nn q0 x (List.mem_of_mem_take hx),fun ne=>?_,ek⟩;have l:(rs.take k).length=k:=by rw [l_];lia
 have k1:0<k:=by rw [←l];exact iT.mpr ne
 rw [ek,l];have hi:k-1<rs.length:=by lia
 refine R7 (fun q0=>?_) (hn k1);rw [show ag rs (k-1)=rs[k-1] from getD_at hi];exact nn q0 _ (gj hi)
variable {ts:List Int}
theorem DQ{C z a:Addr}{Q:VK}{E:XK}(hz:df C H z q)(hq:ax q)(ea:H a=some (.lst (ts.map V.int)))(l:ts.length≤500)(m:∀t∈ts,aP t)(k:∀(c:Addr) (H':Hp),ai H H'→H c=none→H' c=some (.lst ((ts.map fun x=>x % q).map V.int))→Q (.ref c) H'):Jz C [.ref z,.ref a,.int 1] H Q E:=by
 refine ⟨z,a,q,ts,1,fun i=>ts.getD i 0,rfl,hz,hq,ea,l,m,aP.of_lt (by decide) (by decide),ja hq,fun i _=>Cg.of_eq (kU _).symm,fun c H' rs s n e lr cg nn=>k c H' s n ?_⟩
 rw [e]
 congr 3
 refine List.ext_getElem (by simp [lr]) fun i h1 h2=>?_
 have hi:i<ts.length:=by lia
 have c1:Cg q (rs.getD i 0) (ts.getD i 0):=cg i hi;rw [getD_at h1,getD_at hi] at c1;rw [jn];by_cases q0:q=0
 ·subst q0
  rw [Int.emod_zero];exact oC.mp (gr.mp c1)
 ·have b:=nn q0 _ (gj h1)
  have c2:=c1.trans (g_ q ts[i]).symm;have k1:=du ts[i] q0;have k2:=dJ ts[i] (show 0<q by lia)
  obtain ⟨k,hk⟩:=c2;have:k=0:=by
   rcases Int.lt_trichotomy k 0 with y | y | y
   ·have:q*k≤q*(-1):=jU (by lia) (by lia)
    lia
   ·exact y
   ·have:q*1≤q*k:=jU (by lia) (by lia)
    lia
  rw [this] at hk;lia
def R8:Sp:=fun vs H Q _=>∃(a:Addr) (ts:List Int),vs=[.ref a]∧H a=some (.lst (ts.map V.int))∧ts.length≤500 ∧
 ∀(b:Addr) (H':Hp) (k:Nat),ai H H'→H b=none→k≤ts.length→(∀j,k≤j→ag ts j=0)→(0<k→ag ts (k-1)≠0)→H' b=some (.lst ((ts.take k).map V.int))→Q (.ref b) H'
def R9:Sp:=fun vs H Q _=>∃(x n:Int),vs=[.int x,.int n]∧-5≤n∧n≤100∧(∀i,i≤n.toNat→(x ^ i).natAbs≤10 ^ 600)∧x.natAbs≤10 ^ 600∧Q (.int (x ^ n.toNat)) H
def R_:Sp:=fun vs H Q _=>∃(a b:Addr) (ts us:List Int),vs=[.ref a,.ref b]∧H a=some (.lst (ts.map V.int))∧H b=some (.lst (us.map V.int))∧ts.length≤200∧us.length≤200 ∧
 ∀(c:Addr) (H':Hp) (rs:List Int),ai H H'→H' c=some (.lst (rs.map V.int))→rs.length=max ts.length us.length→(∀t,ag rs t=ag ts t-ag us t)→Q (.ref c) H'
def JQ(C0:Addr):Sp:=fun vs H Q _=>∃(z a b c:Addr) (q:Int) (xs ys bs:List Int) (az least:Int) (u:Nat→Int),vs=[.ref z,.ref a,.ref b,.ref c,.int az,.int least]∧df C0 H z q∧ax q∧H a=some (.lst (xs.map V.int))∧H b=some (.lst (ys.map V.int))∧H c=some (.lst (bs.map V.int))∧xs.length≤50∧ys.length≤50∧bs.length≤50∧(∀x∈xs,x.natAbs≤10 ^ 600∧(az*x).natAbs≤10 ^ 599)∧(∀y∈ys,y.natAbs≤10 ^ 600)∧(∀b∈bs,b.natAbs≤10 ^ 600)∧(∀t,(cv (ag bs) (ag ys) t).natAbs≤10 ^ 599)∧az.natAbs≤10 ^ 600∧least.natAbs≤10 ^ 600∧¬q∣least∧(∀t,Cg q (az*ag xs t-cv (ag bs) (ag ys) t) (least*u t)) ∧
 ∀(r:Addr) (H':Hp) (rs:List Int),ai H H'→H r=none→H' r=some (.lst (rs.map V.int))→rs.length≤max xs.length (bs.length+ys.length-1)→(∀t,Cg q (ag rs t) (u t))→Rm q rs→da q rs→Q (.ref r) H'
def Sa(C0:Addr):Sp:=fun vs H Q _=>∃(z a b:Addr) (q:Int) (ts us:List Int) (T U:Nat),vs=[.ref z,.ref a,.ref b]∧df C0 H z q∧ax q∧H a=some (.lst (ts.map V.int))∧H b=some (.lst (us.map V.int))∧ts.length≤100∧us.length≤100∧1≤us.length∧(∀x∈ts,x.natAbs≤T)∧(∀x∈us,x.natAbs≤U)∧1≤U∧1000≤T∧T*(2*U) ^ (ts.length+1-us.length)≤10 ^ 580∧U≤10 ^ 580∧¬q∣us.getD (us.length-1) 0∧(0<ts.length+1-us.length→¬q∣ts.getD (ts.length-1) 0) ∧
 ∀(p l1 l2:Addr) (bs ls:List Int) (az:Int) (H':Hp),ai H H'→H' p=some (.tup [.ref l1,.ref l2,.int az])→H' l1=some (.lst (bs.map V.int))→H' l2=some (.lst (ls.map V.int))→kv q ts us T U (ts.length+1-us.length) (ts.length+1-us.length) bs ls az→(q=0→az=us.getD (us.length-1) 0 ^ (ts.length+1-us.length))→Q (.ref p) H'
variable {xs:List Int} {B:Nat}
theorem nH(h:∀x∈xs,x.natAbs≤B)(k:Nat):(ag xs k).natAbs≤B:=by
 by_cases hk:k<xs.length
 ·rw [show ag xs k=xs[k] from getD_at hk]
  exact h _ (gj _)
 ·rw [c_ (by lia)]
  exact b9 _
theorem xc(f:Nat→Int)(t:Nat):cv (ag []) f t=0:=by unfold cv;rw [cX (g:=fun _=>0) fun i _=>by rw [c_ (b9 _),jk],jG]
theorem zQ(f:Nat→Int)(t:Nat):cv (ag [1]) f t=f t:=by
 unfold cv;rw [aQ,show (fun i=>ag [1] (i+1)*f (t-(i+1)))=fun _=>0 from funext fun i=>by rw [c_ (by simp),jk],jG]
 show (1:Int)*f (t-0)+0=f t;rw [kU,oz,rJ]
variable {W:Nat}
theorem xf{a b c:List Int}(ha:∀x∈a,x.natAbs≤W)(hb:∀x∈b,x.natAbs≤W)(hc:∀x∈c,x.natAbs≤W):∀i,(aI a b c i).natAbs≤W:=JJ (fun t=>by
 rw [nF];unfold up1
 split
 ·exact b9 _
 ·exact nH ha _) (fun t=>by rw [pC];exact nH hb _) (fun t=>by rw [pD];exact nH hc _)
variable {r v:List Int}
theorem CI.start{us u r' u' v':List Int}{W:Nat→Nat}(hq:ax q)(w1:∀j,1000≤W j)(am:∀i j,i≤j→W j≤W i)(n5:r.length≤41)(le:r'.length≤r.length)(br:∀j,∀x∈r,x.natAbs≤W j)(zR:∀j,∀x∈r',x.natAbs≤W j)(bx:∀j,(∀x∈u,x.natAbs≤W j)∧(∀x∈v,x.natAbs≤W j)∧(∀x∈u',x.natAbs≤W j)∧∀x∈v',x.natAbs≤W j)(tr:da q r)(pE:da q r')
  (sb:q=0→∀j t,j<r'.length→S j (aI r u v) r.length (aI r' u' v') r'.length t≤W j) (ev:q=0→(ag r' (r'.length-1)).natAbs ^ (r.length-r'.length)≤W r'.length)
  (b1:∀t,cv (ag u) (ag ts) t+cv (ag v) (ag us) t=ag r t) (b2:∀t,cv (ag u') (ag ts) t+cv (ag v') (ag us) t=ag r' t) (dv:∀D,cC q D (ag r)→cC q D (ag r')→cC q D (ag ts)∧cC q D (ag us)) :
  CI q ts us (aI r u v) (aI r' u' v') r.length r'.length W r u v r' u' v' 1 1∧CG q (aI r u v) (aI r' u' v') r.length r'.length W:=by
 have bf:=fun j=>xf (br j) (bx j).1 (bx j).2.1;have bg:=fun j=>xf (zR j) (bx j).2.2.1 (bx j).2.2.2;have w0:∀j,1≤W j:=fun j=>by have:=w1 j;lia
 exact ⟨⟨fun t=>Cg.of_eq (b1 t),fun t=>Cg.of_eq (b2 t),tr,pE,dv,ja hq,ja hq,le,fun _=>rfl,fun _ _=>QV,fun q0 _=>⟨(ag r' (r'.length-1)).natAbs ^ (r.length-r'.length),by simp,ev q0⟩,w0 _,w0 _,bf _,bg _,bg _,aN _,aN _⟩,sb,le,n5,w1,am⟩
structure DR (q:Int) (ts us:List Int) (W:Nat→Nat):Prop where
 w1:∀j,1000≤W j
 am:∀i j,i≤j→W j≤W i
 bt:∀j,∀x∈ts,x.natAbs≤W j
 bu:∀j,∀x∈us,x.natAbs≤W j
 sA:ts.length<us.length→q=0→∀j t,j<ts.length→S j (aI us [] [1]) us.length (aI ts [1] []) ts.length t≤W j
 sB:us.length≤ts.length→q=0→∀j t,j<us.length→S j (aI ts [1] []) ts.length (aI us [] [1]) us.length t≤W j
 eA:ts.length<us.length→q=0→(ag ts (ts.length-1)).natAbs ^ (us.length-ts.length)≤W ts.length
 eB:us.length≤ts.length→q=0→(ag us (us.length-1)).natAbs ^ (ts.length-us.length)≤W us.length
 lim:∀n m,(n≤ts.length∨n≤us.length)→m≤n→1≤m→100*(W n*(2*W (n-1)) ^ (n-m+1))≤10 ^ 580
section
variable {q:Int} {ts us:List Int} {f g:Row} {n0 m0:Nat} {W:Nat→Nat} {r u v r' u' v':List Int} {ld ht:Int}
theorem CI.high(hq:ax q)(I:CI q ts us f g n0 m0 W r u v r' u' v' ld ht)(ne:r'≠[]):∃x:Int,Cg q (ag r' (r'.length-1) ^ (r.length-r'.length)) (ht ^ (r.length-r'.length-1)*x)∧(q=0→x.natAbs≤W r'.length):=by
 have nh:=pB hq I.nh (r.length-r'.length-1);by_cases q0:q=0
 ·obtain ⟨X,e,b⟩:=I.ev q0 ne
  have d:ht ^ (r.length-r'.length-1)∣ag r' (r'.length-1) ^ (r.length-r'.length):=by rw [←Cd,gu,gu,←e];exact ⟨X,ji _ _⟩
  obtain ⟨x,hx⟩:=d;refine ⟨x,Cg.of_eq hx,fun _=>?_⟩;have p:0<(ht ^ (r.length-r'.length-1)).natAbs:=gk.mpr fun z=>nh (by rw [z];exact dw q)
  have e2:(ht ^ (r.length-r'.length-1)).natAbs*x.natAbs=(ht ^ (r.length-r'.length-1)).natAbs*X:=by rw [←a7,←hx,gu,gu,←e,ji]
  rw [vK p e2];exact b
 ·obtain ⟨c,hc⟩:=JM hq q0 nh
  refine ⟨c*ag r' (r'.length-1) ^ (r.length-r'.length),?_,fun z=>absurd z q0⟩;have:=hc.mulR (ag r' (r'.length-1) ^ (r.length-r'.length));exact (Cg.of_eq (kU _).symm).trans (this.symm.trans (Cg.of_eq (ie ..)))
end
def Sb(C0:Addr):Sp:=fun vs H Q _=>∃(z a b:Addr) (q:Int) (ts us:List Int) (W:Nat→Nat),vs=[.ref z,.ref a,.ref b]∧df C0 H z q∧ax q∧H a=some (.lst (ts.map V.int))∧H b=some (.lst (us.map V.int))∧ts.length≤41∧us.length≤41∧DR q ts us W∧da q ts∧da q us ∧
 ∀(p l0 l1 l2:Addr) (r u v:List Int) (H':Hp),ai H H'→H' p=some (.lst [.ref l0,.ref l1,.ref l2])→H' l0=some (.lst (r.map V.int))→H' l1=some (.lst (u.map V.int))→H' l2=some (.lst (v.map V.int))→da q r→da q u→da q v→(∀t,Cg q (cv (ag u) (ag ts) t+cv (ag v) (ag us) t) (ag r t))→(r=[]→ts=[]∧us=[])→cC q (ag r) (ag ts)→cC q (ag r) (ag us)→r.length≤41→u.length≤42→v.length≤42→(r.length<max ts.length us.length→u.length+r.length≤max ts.length us.length∧v.length+r.length≤max ts.length us.length)→(r≠[]→(∀x∈r,x.natAbs≤W r.length)∧(∀x∈u,x.natAbs≤W r.length)∧∀x∈v,x.natAbs≤W r.length)→Q (.ref p) H'
def jb(H:Hp)(p:Addr)(r u v:List Int):Prop:=∃l0 l1 l2:Addr,H p=some (.lst [.ref l0,.ref l1,.ref l2])∧H l0=some (.lst (r.map V.int))∧H l1=some (.lst (u.map V.int))∧H l2=some (.lst (v.map V.int))
theorem jb.mono{H':Hp}{p:Addr}{u:List Int}(h:jb H p r u v)(s:ai H H'):jb H' p r u v:=let ⟨a,b,c,e0,e1,e2,e3⟩:=h;⟨a,b,c,s _ _ e0,s _ _ e1,s _ _ e2,s _ _ e3⟩
variable {i:Nat} {Hx:Hp} {R:VK}
theorem JR{x:Addr}(hσ:σ[i]?=some (some (.ref x)))(e:Hx x=some (.lst (xs.map V.int)))(kk:∀p H',ai Hx H'→jb H' p xs [1] []→R (.ref p) H'):oX (cW (gA i) (cW (oX (cW (tC (.int 1)) ft)) (cW (oX ft) ft))) σ Hx R:=by
 refine ⟨_,hσ,by show 1≤sizeLine;decide,fun l1 n1=>⟨b9 _,fun l2 n2=>⟨by show 3≤sizeLine;decide,fun p np=>?_⟩⟩⟩
 have s1:=aB (o:=.lst [.int 1]) n1;have s2:=aB (o:=.lst []) n2;have s3:=aB (o:=.lst [.ref x,.ref l1,.ref l2]) np;exact kk p _ (s1.trans (s2.trans s3)) ⟨x,l1,l2,av,s3 _ _ (s2 _ _ (s1 _ _ e)),s3 _ _ (s2 _ _ av),s3 _ _ av⟩
theorem JS{x:Addr}(hσ:σ[i]?=some (some (.ref x)))(e:Hx x=some (.lst (xs.map V.int)))(kk:∀p H',ai Hx H'→jb H' p xs [] [1]→R (.ref p) H'):oX (cW (gA i) (cW (oX ft) (cW (oX (cW (tC (.int 1)) ft)) ft))) σ Hx R:=by
 refine ⟨_,hσ,b9 _,fun l1 n1=>⟨by show 1≤sizeLine;decide,fun l2 n2=>⟨by show 3≤sizeLine;decide,fun p np=>?_⟩⟩⟩
 have s1:=aB (o:=.lst []) n1;have s2:=aB (o:=.lst [.int 1]) n2;have s3:=aB (o:=.lst [.ref x,.ref l1,.ref l2]) np;exact kk p _ (s1.trans (s2.trans s3)) ⟨x,l1,l2,av,s3 _ _ (s2 _ _ (s1 _ _ e)),s3 _ _ (s2 _ _ av),s3 _ _ av⟩
theorem zS(hq:ax q)(w:1000≤W)(q0:q≠0)(h:Rm q xs):∀x∈xs,x.natAbs≤W:=fun x hx=>by
 have:=h q0 x hx;rcases hq with z | ⟨_,z,_⟩;·exact absurd z q0
 ·lia
theorem DS(h:∀i,(ag xs i).natAbs≤B):∀x∈xs,x.natAbs≤B:=fun x hx=>by
 obtain ⟨i,hi,rfl⟩:=ig hx;have:=h i
 rwa [show ag xs i=xs[i] from getD_at hi] at this
section
variable {q:Int} {ts us:List Int} {f g:Row} {n0 m0:Nat} {W:Nat→Nat} {r u v r' u' v':List Int} {ld ht:Int} {B:Nat}
theorem DT(h:∀i,(aI r u v i).natAbs≤B):(∀x∈r,x.natAbs≤B)∧(∀x∈u,x.natAbs≤B)∧∀x∈v,x.natAbs≤B:=
 ⟨DS fun i=>by have:=h (3*(i+1));rw [nF] at this;exact this,DS fun i=>by have:=h (3*i+1);rwa [pC] at this,DS fun i=>by have:=h (3*i+2);rwa [pD] at this⟩
end
theorem Sd{bs ys:List Int}(h:∀x∈bs,∀y∈ys,(x*y).natAbs≤B)(t:Nat):(cv (ag bs) (ag ys) t).natAbs≤bs.length*B:=by
 rw [←zO (n:=bs.length) (m:=ys.length) (fun i hi=>c_ hi) (fun i hi=>c_ hi)];unfold bJ;refine Jn _ _ fun i hi=>?_;rw [lC]
 split
 ·rename_i h2
  show (ag bs i*ag ys (t-i)).natAbs≤B;rw [show ag bs i=bs[i] from getD_at hi,show ag ys (t-i)=ys[t-i]'(by lia) from getD_at (by lia)]
  exact h _ (gj _) _ (gj _)
 ·exact b9 _
variable {r' u' K:Nat}
theorem JT{u2 u r bs:Nat}(h:u2≤max u (bs+u'-1))(b:bs=r-r'+1)(le:r'≤r)(h1:u+r'≤K)(h2:u'+r≤K):u2+r'≤K:=by lia
theorem JU{r2 r:Nat}(l:r2<r')(le:r'≤r)(h2:u'+r≤K):u'+r2≤K:=by lia
theorem kz:10 ^ 580≤10 ^ 600:=dn (by decide) (by decide)
structure dU (T U d:Nat):Prop where
 t:1000≤T
 tu:T≤U
 l:100*(T*(2*U) ^ (d+1))≤10 ^ 580
section
variable {T U d:Nat}
theorem dU.a(S:dU T U d):T*(2*U) ^ (d+1)≤10 ^ 580:=ae (fR _ (by decide)) S.l
theorem dU.pw(S:dU T U d)(h:i≤d+1):(2*U) ^ i≤(2*U) ^ (d+1):=dn (by have:=S.t;have:=S.tu;lia) h
theorem dU.p(S:dU T U d):(2*U) ^ (d+1)≤10 ^ 580:=ae (fR _ (by have:=S.t;lia)) S.a
theorem dU.u(S:dU T U d):U≤10 ^ 580:=ae (by lia) (ae (ae (iP (rH (2*U)).symm) (S.pw (i:=1) (by lia))) S.p)
theorem dU.to(S:dU T U d):T≤10 ^ 580:=ae S.tu S.u
theorem dU.pow(S:dU T U d)(h:x.natAbs≤U)(hi:i≤d+1):(x ^ i).natAbs≤10 ^ 580:=by rw [gu];exact ae (Nat.pow_le_pow_left (ae h (by lia)) i) (ae (S.pw hi) S.p)
theorem dU.lead(S:dU T U d){y:Int}(h:x.natAbs≤T)(hy:y.natAbs≤U):(x*y ^ d).natAbs≤10 ^ 580:=by rw [a7,gu];exact ae (bE h (ae (Nat.pow_le_pow_left (ae hy (show U≤2*U by lia)) d) (S.pw (by lia)))) S.a
variable {m:Int}
theorem dU.az(S:dU T U d)(h:m.natAbs≤1000*(2*U) ^ (d+1)):m.natAbs≤10 ^ 600:=ae h (ae (dY 1000 S.p) (by decide +kernel))
theorem dU.mx(S:dU T U d)(h:m.natAbs≤1000*(2*U) ^ (d+1))(hx:x.natAbs≤T):(m*x).natAbs≤10 ^ 599:=by rw [a7];refine ae (bE h hx) ?_;rw [mi,ji _ T];exact ae (dY 1000 S.a) (by decide +kernel)
theorem dU.cv(S:dU T U d){bs ys:List Int}(l:bs.length≤50)(hb:∀x∈bs,x.natAbs*(2*U)≤T*(2*U) ^ (d+1))(hy:∀y∈ys,y.natAbs≤U)(t:Nat):(cv (ag bs) (ag ys) t).natAbs≤10 ^ 599:=by
 refine ae (Sd (B:=10 ^ 580) (fun x hx y h=>?_) t) (ae (fW _ l) (by decide +kernel))
 rw [a7];exact ae (dY _ (ae (hy y h) (show U≤2*U by lia))) (ae (hb x hx) S.a)
theorem dU.bs(S:dU T U d)(h:x.natAbs*(2*U)≤T*(2*U) ^ (d+1)):x.natAbs≤10 ^ 600:=ae (fQ _ (by have:=S.t;have:=S.tu;lia)) (ae h (ae S.a (dn (by decide) (by decide))))
end
section
variable {q:Int} {ts us:List Int} {f g:Row} {n0 m0:Nat} {W:Nat→Nat} {r u v r' u' v':List Int} {ld ht:Int}
theorem CI.Se(I:CI q ts us f g n0 m0 W r u v r' u' v' ld ht)(G:CG q f g n0 m0 W)(L:∀n m,n≤n0→m≤n→1≤m→100*(W n*(2*W (n-1)) ^ (n-m+1))≤10 ^ 580)(ne:r'≠[]):dU (W r.length) (W (r.length-1)) (r.length-r'.length):=
 ⟨G.w1 _,G.am _ _ (by lia),L _ _ I.rn I.le (iT.mpr ne)⟩
theorem CI.hU(I:CI q ts us f g n0 m0 W r u v r' u' v' ld ht)(G:CG q f g n0 m0 W):ht.natAbs≤W (r.length-1):=ae I.bh (G.am _ _ (by lia))
theorem Sf{r2 u2 v2:List Int}{C:Row}(hq:ax q){least:Int}(nl:¬q∣least)(h0:Cg q 0 (least*C 0))(e0:∀t,Cg q (ag r2 t) (C (3*(t+1))))(e1:∀t,Cg q (ag u2 t) (C (3*t+1)))(e2:∀t,Cg q (ag v2 t) (C (3*t+2))):∀i,Cg q (aI r2 u2 v2 i) (C i):=
 JJ (fun t=>by
  rw [nF];unfold up1;by_cases z:t=0
  ·rw [ar z,z]
   exact xa hq nl ((Cg.of_eq (cF _)).trans h0)
  ·rw [ao z]
   have:=e0 (t-1)
   rwa [show t-1+1=t by lia] at this) (fun t=>by rw [pC];exact e1 t) (fun t=>by rw [pD];exact e2 t)
variable {t:Nat}
theorem Sg{az:Int}{bs:List Int}:Lf az (aI r u v) (ag bs) (aI r' u' v') (3*t+1)=az*ag u t-cv (ag bs) (ag u') t:=by unfold Lf;rw [pC,JK]
theorem Sh{az:Int}{bs:List Int}:Lf az (aI r u v) (ag bs) (aI r' u' v') (3*t+2)=az*ag v t-cv (ag bs) (ag v') t:=by unfold Lf;rw [pD,JL]
theorem Si{az:Int}{bs:List Int}:Lf az (aI r u v) (ag bs) (aI r' u' v') 0=0:=zP (t:=0)
theorem kv.fin{T U k:Nat}{bs ls:List Int}{az:Int}(I:kv q r r' T U k k bs ls az)(t:Nat):Cg q (az*ag r t) (cv (ag bs) (ag r') t+ag ls t):=by
 have e:=I.eq t;rw [kS,RD] at e;have lb:=I.lb;rw [←lb] at e
 rwa [show bJ bs.length r'.length (fun j=>bs.getD j 0) (fun j=>r'.getD j 0) t=cv (ag bs) (ag r') t from zO (n:=bs.length) (m:=r'.length) (fun i hi=>c_ hi) (fun i hi=>c_ hi) t] at e
end
def Sj:Sp:=fun vs H Q _=>∃(a:Addr) (ps:aJ) (B:Nat) (D:Int),vs=[.ref a]∧aD B H 0 a ps∧ps.length≤100∧aX 0 D∧(∀p∈ps,p.2∣D)∧B≤10 ^ 300∧D.natAbs≤10 ^ 300∧∀(v:V) (H':Hp) (ts:List Int) (b:Int),ai H H'→II H H' v ts b→Jj 0 ps ts b D B→Q v H'
def Sk(C:Addr):Sp:=fun vs H Q _=>∃(z a:Addr) (q:Int) (ps:aJ) (B:Nat) (D:Int),vs=[.ref z,.ref a]∧df C H z q∧ax q∧aD B H q a ps∧ps.length≤100∧aX q D∧(∀p∈ps,p.2∣D)∧B≤10 ^ 300∧1000≤B∧D.natAbs≤10 ^ 300∧∀(v:V) (H':Hp) (ts:List Int) (b:Int),ai H H'→II H H' v ts b→Jj q ps ts b D B→Q v H'
theorem JV(h:x.natAbs≤10 ^ 300):aP x:=fV h (by decide +kernel)
structure JW (q:Int) (ps rs:aJ) (D1 D2:Int) (f g:Nat→Int) (W V:Nat) (Z:Nat→Nat):Prop where
 lp:ps.length≤50
 lr:rs.length≤50
 nI:aX q D1
 gI:aX q D2
 zT:∀p∈ps,p.2∣D1
 zU:∀p∈rs,p.2∣D2
 w1:∀i,aS q (ps.getD i o1) (f i,D1)
 w2:∀i,aS q (rs.getD i o1) (g i,D2)
 t1:∀i,(f i).natAbs≤W
 u2:∀i,(g i).natAbs≤W
 u3:q=0→∀i,(g i).natAbs≤V
 hW:1000≤W
 d1:D1.natAbs≤W
 d2:D2.natAbs≤W
 c1:(aM ps).length≤41
 c2:(aM rs).length≤41
 lim:∀ts us:List Int,ts.length=(aM ps).length→us.length=(aM rs).length→(∀x∈ts,x.natAbs≤W)→(∀x∈us,x.natAbs≤W)→(q=0→∀x∈us,x.natAbs≤V)→DR q ts us Z
 big:Z 1*W≤10 ^ 290
 zw:1≤Z 1∧W≤10 ^ 290
theorem Sl{t b f D:Int}{p:Int×Int}{T:Nat}(hc:Canon 0 p)(e:t*p.2=p.1*b)(ok:aX 0 b)(cZ:aX 0 D)(db:b∣D)(w:aS 0 p (f,D))(bf:f.natAbs≤T):t.natAbs≤T:=by
 have hp:=(hc.bot).1 rfl;have hb:=ok.1 rfl;have hD:=cZ.1 rfl;obtain ⟨k,ek⟩:=w;have e2:p.1*D=f*p.2:=by dsimp only at ek;lia
 have e3:t*D=f*b:=by
  have:(t*D)*p.2=(f*b)*p.2:=by rw [rN,e,rN,e2,rN]
  exact Ca (show p.2≠0 by lia) this
 have e4:t.natAbs*D.natAbs=f.natAbs*b.natAbs:=by rw [←a7,e3,a7]
 have e5:b.natAbs≤D.natAbs:=i_ db (by lia)
 have e6:t.natAbs*D.natAbs≤f.natAbs*D.natAbs:=by rw [e4];exact dY _ e5
 exact ae (B9 e6 (by lia)) bf
structure fc (q:Int) (ps rs gs us vs:aJ) (ts ws r u v:List Int) (b1 b2 ld:Int):Prop where
 k1:aX q b1
 k2:aX q b2
 p1:∀k,aS q (ps.getD k o1) (ag ts k,b1)
 p2:∀k,aS q (rs.getD k o1) (ag ws k,b2)
 nl:¬q∣ld
 hg:∀k,k<gs.length→aS q (gs.getD k My.o1) (ag r k*1,ld)
 hu:∀k,k<us.length→aS q (us.getD k My.o1) (ag u k*b1,ld)
 hv:∀k,k<vs.length→aS q (vs.getD k My.o1) (ag v k*b2,ld)
 lg:gs.length=r.length
 lu:us.length=u.length
 lv:vs.length=v.length
 bz:∀t,Cg q (cv (ag u) (ag ts) t+cv (ag v) (ag ws) t) (ag r t)
 d1:cC q (ag r) (ag ts)
 d2:cC q (ag r) (ag ws)
 nil:gs=[]→aM ps=[]∧aM rs=[]∧us=[]∧vs=[]
 lead:r≠[]→ld=ag r (r.length-1)
 tr:da q r
def Sm(C:Addr):Sp:=fun vs H Q _=>∃(z a b:Addr) (q:Int) (ps rs:aJ) (D1 D2:Int) (f g:Nat→Int) (W V:Nat) (Z:Nat→Nat),vs=[.ref z,.ref a,.ref b]∧df C H z q∧ax q∧aD (10 ^ 290) H q a ps∧aD (10 ^ 290) H q b rs∧JW q ps rs D1 D2 f g W V Z ∧
 ∀(p l0 l1 l2:Addr) (gs us vs:aJ) (ts ws r u v:List Int) (b1 b2 ld:Int) (H':Hp),ai H H'→H' p=some (.tup [.ref l0,.ref l1,.ref l2])→H l0=none→H l1=none→H l2=none→l0≠l1→l0≠l2→l1≠l2→aD B2 H' q l0 gs→aD B2 H' q l1 us→aD B2 H' q l2 vs→aM gs=gs→aM us=us→aM vs=vs→gs.length≤50→us.length≤50→vs.length≤50→(r.length<max (aM ps).length (aM rs).length→u.length+r.length≤max (aM ps).length (aM rs).length∧v.length+r.length≤max (aM ps).length (aM rs).length)→
  (∀x∈r,x.natAbs≤Z r.length)→(∀x∈u,x.natAbs≤Z 1)→(∀x∈v,x.natAbs≤Z 1)→(∀x∈ts,x.natAbs≤W)→(∀x∈ws,x.natAbs≤W)→b1.natAbs≤W→b2.natAbs≤W→ld.natAbs≤Z 1→fc q ps rs gs us vs ts ws r u v b1 b2 ld→Q (.ref p) H'
theorem DU{a:Addr}(e:H a=some (.lst [])):aD B H q a []:=⟨[],e,rfl,fun i v p h=>by simp at h⟩
end My
namespace Srs
def gf(w:Row→Nat):List Row→Nat
 | []=>1
 | r::rs=>w r*gf w rs
theorem zV(w:Row→Nat):∀a b,gf w (a++b)=gf w a*gf w b
 | [],b=>by simp [gf]
 | x::a,b=>by rw [iS,gf,gf,zV w a b,mi]
theorem DV{w:Row→Nat}{B:Nat}:∀rs,(∀r∈rs,w r≤B)→gf w rs≤B ^ rs.length
 | [],_=>aN _
 | r::rs,h=>by rw [gf,fi,fo,ji];exact bE (DV rs fun s hs=>h s (gO _ hs)) (h r kL)
theorem JX{c L B:Nat}{w:Row→Nat}{F:List Row→Int}(hF:∀rows,rows.length=L→(∀r∈rows,∀i,(r i).natAbs≤w r)→(F rows).natAbs≤B*gf w rows):∀(rows pre:List Row),pre.length+rows.length=L+1→(∀r∈pre,∀i,(r i).natAbs≤w r)→(∀r∈rows,∀i,(r i).natAbs≤w r)→(dg c F pre rows).natAbs≤rows.length*(B*gf w (pre++rows))
 | [],pre,_,_,_=>by simp [dg]
 | r::post,pre,hl,hp,hr=>by
  have h1:=hF (pre++post) (by simp at hl ⊢;lia) fun s hs=>by
   rcases h_.mp hs with h | h;·exact hp s h
   ·exact hr s (gO _ h)
  have h2:=JX (c:=c) hF post (pre++[r]) (by simp at hl ⊢;lia) (fun s hs=>by
   rcases h_.mp hs with h | h;·exact hp s h
   ·rw [iQ.mp h];exact hr r kL) fun s hs=>hr s (gO _ hs)
  have h3:=bE (hr r kL c) h1;have h4:=Int.natAbs_sub_le (r c*F (pre++post)) (dg c F (pre++[r]) post);rw [a7] at h4;have e1:pre++[r]++post=pre++r::post:=by simp
  have e2:w r*(B*gf w (pre++post))=B*gf w (pre++r::post):=by
   rw [zV,zV,gf]
   ac_rfl
  rw [e1] at h2;rw [e2] at h3;rw [dg,fi,Nat.succ_mul];lia
theorem JY{w:Row→Nat}:∀(cs:List Nat) (rows:List Row),cs.length=rows.length→(∀r∈rows,∀i,(r i).natAbs≤w r)→(det cs rows).natAbs≤jJ cs.length*gf w rows
 | [],[],_,_=>by simp [det,jJ,gf]
 | [],_::_,h,_=>by simp at h
 | c::cs,rows,h,hr=>by
  have:=JX (c:=c) (L:=cs.length) (w:=w) (fun rs hl hb=>JY cs rs hl.symm hb) rows [] (by simp at h ⊢;lia) (fun _ z=>nomatch z) hr
  show (dg c (det cs) [] rows).natAbs≤_;refine ae this (iP ?_);rw [←h,fi,jJ,fj,mi]
open Classical in
theorem Sn{f g:Row}{n m j t W:Nat}(hf:∀i,(f i).natAbs≤1)(hg:∀i,(g i).natAbs≤W)(w1:1≤W)(hj:j<m)(mn:m≤n):S j f n g m t≤jJ (n+m-2*j)*W ^ (n-j):=by
 have l:(cols (n+m-j-1) (n+m-2*j-1)++[t]).length=n+m-2*j:=by rw [jh,JE];simp;lia
 let w:Row→Nat:=fun r=>if ∃k,r=sh k f then 1 else W
 have hw:∀r,w r≤W:=fun r=>by
  show (if _ then 1 else W)≤W
  split
  ·exact w1
  ·exact aN _
 have:=JY (w:=w) (cols (n+m-j-1) (n+m-2*j-1)++[t]) (b5 f (m-j)++b5 g (n-j)) (by rw [l,jh,w_,w_];lia) fun r hr i=>by
  show (r i).natAbs≤if _ then 1 else W
  split
  ·rename_i h
   obtain ⟨k,rfl⟩:=h;exact JF hf i
  ·rename_i h
   rcases h_.mp hr with h' | h'
   ·obtain ⟨k,_,e⟩:=m_.mp h'
    exact absurd ⟨k,e⟩ h
   ·obtain ⟨k,_,rfl⟩:=m_.mp h';exact JF hg i
 rw [l] at this;refine ae this (dY _ ?_);rw [zV];have a1:=DV (w:=w) (B:=1) (b5 f (m-j)) fun r hr=>by
  obtain ⟨k,_,e⟩:=m_.mp hr;show (if _ then 1 else W)≤1
  rw [ar ⟨k,e⟩];exact aN _
 have a2:=DV (w:=w) (B:=W) (b5 g (n-j)) fun r _=>hw r;rw [w_,Nat.one_pow] at a1;rw [w_] at a2;exact ae (bE a1 a2) (iP (Nat.one_mul _))
theorem JZ{a b:Nat}(h:a≤b):jJ a≤jJ b:=by
 induction b with
 | zero=>rw [Nat.le_zero.mp h];exact aN _
 | succ b ih=>
  by_cases e:a=b+1;·rw [e];exact aN _
  ·exact ae (ih (by lia)) (by rw [jJ];exact fR _ (by lia))
theorem zW:∀a,1≤jJ a
 | 0=>aN _
 | a+1=>by rw [jJ];exact ae (zW a) (fR _ (by lia))
end Srs
namespace My
open PySem L2 Srs
def Zt(q:Int)(n W j:Nat):Nat:=if q=0 then jJ (2*n+1-2*j)*W ^ (max 1 (n+1-j)) else 1000
def J0(n W:Nat):Bool:=(List.range (n+2)).all fun a=>(List.range (a+1)).all fun m=>m == 0 || decide (100*(Zt 0 n W a*(2*Zt 0 n W (a-1)) ^ (a-m+1))≤10 ^ 580)
structure pF (q:Int) (n W:Nat):Prop where
 w:1000≤W
 n1:1≤n
 dt:n≤40
 lim:q=0→J0 n W=true
variable {q:Int} {n W:Nat}
theorem jK(s:pF q n W)(j:Nat):1000≤Zt q n W j:=by
 unfold Zt
 split
 ·have h:=s.w
  have h1:W ^ 1≤W ^ (max 1 (n+1-j)):=dn (by lia) (by lia)
  have h2:=zW (2*n+1-2*j);have h3:=bE h2 h1;rw [rH] at h3;lia
 ·exact aN _
theorem DW(s:pF q n W)(i j:Nat)(h:i≤j):Zt q n W j≤Zt q n W i:=by
 unfold Zt
 split
 ·exact bE (JZ (by lia)) (dn (by have:=s.w;lia) (by lia))
 ·exact aN _
theorem So(s:pF q n W)(z:q=0)(j:Nat):W≤Zt q n W j:=by
 unfold Zt;rw [ar z];have h:=s.w;have h1:W ^ 1≤W ^ (max 1 (n+1-j)):=dn (by lia) (by lia)
 have h3:=bE (zW (2*n+1-2*j)) h1;rw [rH] at h3;lia
variable {m:Nat}
theorem pF.pw(s:pF q n W){a:Nat}(ha:a≤n+1)(h:m≤a)(m1:1≤m):100*(Zt q n W a*(2*Zt q n W (a-1)) ^ (a-m+1))≤10 ^ 580:=by
 by_cases z:q=0
 ·subst z
  have h1:=vE.mp (s.lim rfl) a (vw.mpr (by lia))
  have h2:=vE.mp h1 m (vw.mpr (by lia))
  rcases Bool.or_eq_true_iff.mp h2 with z | z
  ·have:=jT.mp z
   lia
  ·exact di z
 ·unfold Zt
  rw [ao z,ao z];have:=s.dt;exact ae (dY _ (dY _ (dn (by decide) (show a-m+1≤42 by lia)))) (by decide +kernel)
variable {ts:List Int}
theorem Sq(hq:ax q)(s:pF q n W){us:List Int}(lt:ts.length≤n)(lu:us.length=n+1)(bt:∀x∈ts,x.natAbs≤W)(Sr:q≠0→∀x∈ts,x.natAbs≤1000)(DX:q≠0→∀x∈us,x.natAbs≤1000)(bu:q=0→∀x∈us,x.natAbs≤1):DR q ts us (Zt q n W):=by
 have w1:1≤W:=by have:=s.w;lia
 refine ⟨jK s,DW s,fun j x hx=>?_,fun j x hx=>?_,fun _ z j t hj=>?_,fun h=>by lia,fun _ z=>?_,fun h=>by lia,fun a m ha h1 h2=>s.pw (by lia) h1 h2⟩
 ·by_cases z:q=0
  ·exact ae (bt x hx) (So s z j)
  ·exact ae (Sr z x hx) (jK s j)
 ·by_cases z:q=0
  ·exact ae (bu z x hx) (ae (by decide) (jK s j))
  ·exact ae (DX z x hx) (jK s j)
 ·have b:=Sn (f:=aI us [] [1]) (n:=us.length) (g:=aI ts [1] []) (m:=ts.length) (j:=j) (t:=t) (xf (bu z) (fun x h=>nomatch h) fun x h=>by rw [iQ.mp h];decide) (xf bt (fun x h=>by rw [iQ.mp h];exact w1) fun x h=>nomatch h) w1 hj (by lia)
  refine ae b ?_;unfold Zt;rw [ar z];exact bE (JZ (by lia)) (dn w1 (by lia))
 ·have b:=Nat.pow_le_pow_left (nH bt (ts.length-1)) (us.length-ts.length)
  refine ae b ?_;unfold Zt;rw [ar z];exact ae (dn w1 (by lia)) (fR _ (zW _))
section
variable {q:Int}
theorem DY:∀(n:Nat) (F:Nat→Int),(∀j,j<n→q∣F j)→q∣aQ n F
 | 0,_,_=>dw q
 | n+1,F,h=>by rw [f_];exact Int.dvd_add (DY n F fun j hj=>h j (by lia)) (h n (by lia))
theorem J5:∀(k n:Nat) (F:Nat→Int),n<k→(∀j,j<k→j≠n→q∣F j)→Cg q (aQ k F) (F n)
 | 0,_,_,h,_=>absurd h (ou _)
 | k+1,n,F,h,z=>by
  rw [f_];by_cases e:n=k
  ·subst e
   have:=DY (q:=q) n F fun j hj=>z j (by lia) (by lia)
   obtain ⟨c,hc⟩:=this;exact ⟨c,by lia⟩
  ·have a:=J5 k n F (by lia) fun j hj=>z j (by lia)
   obtain ⟨c,hc⟩:=z k (by lia) (by lia)
   obtain ⟨d,hd⟩:=a;exact ⟨d+c,by rw [jW];lia⟩
theorem Ss{r:List Int}{X:Nat→Int}(hq:ax q)(ne:r≠[])(tr:da q r)(hX:cC q (ag r) X)(sh:∀t,r.length-1≤t→q∣X t)(t:Nat):q∣X t:=by
 obtain ⟨c,w,N,nc,hw,e⟩:=hX;have l1:=iT.mpr ne;have all:∀n,(∀i,n≤i→q∣w i)→∀i,q∣w i:=fun n=>by
  induction n with
  | zero=>exact fun h i=>h i (b9 _)
  | succ n ih=>
   refine fun h=>ih fun i hi=>?_;by_cases z:i=n
   ·subst z
    have e1:=e (i+(r.length-1));have x0:q∣c*X (i+(r.length-1)):=jj (sh _ (by lia)) (vI _ _)
    have s1:Cg q (cv w (ag r) (i+(r.length-1))) (w i*ag r (r.length-1)):=by
     unfold cv;refine (J5 (q:=q) _ i _ (by lia) fun j hj hn=>?_).trans (Cg.of_eq ?_)
     ·by_cases g:i<j
      ·exact jj (h j g) (vG _ _)
      ·rw [c_ (by lia),cF]
       exact dw q
     ·rw [show i+(r.length-1)-i=r.length-1 by lia]
    obtain ⟨d,hd⟩:=e1.trans s1;obtain ⟨k,hk⟩:=x0;refine Ce fun nw=>dR hq nw (tr ne) ⟨k-d,?_⟩;rw [mw];lia
   ·exact h i (by lia)
 have w0:=all N fun i hi=>by rw [hw i hi];exact dw q
 have c0:q∣cv w (ag r) t:=DY _ _ fun j _=>jj (w0 j) (vG _ _);obtain ⟨d,hd⟩:=e t;obtain ⟨k,hk⟩:=c0;refine Ce fun nx=>dR hq nc nx ⟨d+k,?_⟩;rw [jW];lia
end
def tp(n:Nat):Nat→Int:=fun i=>(if i=n then 1 else 0)+if i=0 then -1 else 0
def dl(E:Int):Nat→Int:=fun i=>if i=0 then E else 0
theorem DZ(c:Int)(st:Nat)(g:Nat→Int)(t:Nat):cv (fun i=>if i=st then c else 0) g t=if st≤t then c*g (t-st) else 0:=by
 unfold cv;rw [cX (g:=fun i=>if i=st then c*g (t-st) else 0) fun i _=>by
  dsimp only;by_cases e:i=st;·rw [ar e,ar e,e]
  ·rw [ao e,ao e,jk]]
 by_cases h:st≤t
 ·rw [ar h]
  exact I0 (t+1) st (fun _=>c*g (t-st)) (by lia)
 ·rw [ao h,cX (g:=fun _=>0) fun i hi=>ao (by lia),jG]
theorem xg(n:Nat)(w:Nat→Int)(t:Nat):cv w (tp n) t=(if n≤t then w (t-n) else 0)-w t:=by
 rw [zN];show cv (fun i=>(if i=n then 1 else 0)+if i=0 then -1 else 0) w t=_
 rw [zM,DZ,DZ,ar (b9 t),rJ,kU];lia
theorem xh(E:Int)(g:Nat→Int)(t:Nat):cv (dl E) g t=E*g t:=by
 show cv (fun i=>if i=0 then E else 0) g t=_
 rw [DZ,ar (b9 t),rJ]
def dC(N:Nat)(f:Nat→Int):Prop:=∀i,N≤i→f i=0
theorem xi(E:Int):dC 1 (dl E):=fun i hi=>ao (by lia)
variable {f g:Nat→Int}
theorem gJ{N M:Nat}(hf:dC N f)(hg:dC M g):dC (N+M) (cv f g):=fun _ hi=>JD hf hg hi
def Mo(q:Int)(n:Nat)(h h':Nat→Int):Prop:=∃(c:Int) (w:Nat→Int) (N:Nat),¬q∣c∧dC N w∧∀t,Cg q (c*h t) (c*h' t+cv w (tp n) t)
theorem Su(c d g x y:Int):c*(d*g+y)+d*x=c*d*g+(d*x+c*y):=by grind
section
variable {q:Int} {n:Nat} {h h' g f:Nat→Int}
theorem Mo.lH(hq:ax q)(e:∀t,Cg q (h t) (h' t)):Mo q n h h':=⟨1,fun _=>0,0,ja hq,fun _ _=>rfl,fun t=>((e t).mulL 1).trans (Cg.of_eq (by
 rw [xg]
 split <;> lia))⟩
theorem Mo.symm(e:Mo q n h h'):Mo q n h' h:=by
 obtain ⟨c,w,N,nc,l,e⟩:=e;refine ⟨c,fun i=>-1*w i,N,nc,fun i hi=>by show -1*w i=0;rw [l i hi];rfl,fun t=>?_⟩
 rw [gH];have:=(e t).symm.sub (Cg.refl (q:=q) (cv w (tp n) t));rw [Int.add_sub_cancel] at this;exact this.trans (Cg.of_eq (by lia))
theorem Mo.trans(hq:ax q)(e:Mo q n h h')(e':Mo q n h' g):Mo q n h g:=by
 obtain ⟨c,w,N,nc,l,e⟩:=e;obtain ⟨d,w',N',nd,l',e'⟩:=e';refine ⟨c*d,fun i=>d*w i+c*w' i,N+N',dR hq nc nd,fun i hi=>by show d*w i+c*w' i=0;rw [l i (by lia),l' i (by lia),cF,cF];rfl,fun t=>?_⟩
 rw [zM,gH,gH];have a:=(e t).mulL d;have b:=((e' t).mulL c).add (Cg.refl (q:=q) (d*cv w (tp n) t));refine Cg.trans (Cg.of_eq ?_) (a.trans (Cg.trans (Cg.of_eq ?_) (b.trans (Cg.of_eq (Su ..)))));·grind
 ·grind
variable {N:Nat}
theorem Mo.zX(e:Mo q n h h')(lg:dC N g):Mo q n (cv g h) (cv g h'):=by obtain ⟨c,w,M,nc,l,e⟩:=e;refine ⟨c,cv g w,N+M,nc,gJ lg l,fun t=>?_⟩;rw [sZ,←ny,←ny,←JA];exact jI (fun _=>Cg.refl _) e
theorem pG(f g:Nat→Int):cv f g=cv g f:=funext fun t=>zN _ _ t
theorem iF(f g h:Nat→Int):cv (cv f g) h=cv f (cv g h):=funext fun t=>sZ f g h t
theorem Mo.kA(e:Mo q n h h')(lg:dC N g):Mo q n (cv h g) (cv h' g):=by rw [pG h g,pG h' g];exact e.zX lg
theorem D4(c:Int)(h:Nat→Int):cv (dl c) h=fun t=>c*h t:=funext fun t=>xh c h t
theorem Mo.mul(c:Int)(e:Mo q n h h'):Mo q n (fun t=>c*h t) (fun t=>c*h' t):=by
 have:=e.zX (xi c)
 rwa [D4,D4] at this
theorem Mo.cancel(hq:ax q){k:Int}(nk:¬q∣k)(e:Mo q n (fun t=>k*h t) (fun t=>k*h' t)):Mo q n h h':=by obtain ⟨c,w,N,nc,l,e⟩:=e;refine ⟨c*k,w,N,dR hq nc nk,l,fun t=>?_⟩;rw [ie,ie];exact e t
theorem Mo.uniq(hq:ax q)(n1:1≤n)(e:Mo q n h h')(l1:∀t,n≤t→q∣h t)(l2:∀t,n≤t→q∣h' t)(t:Nat):Cg q (h t) (h' t):=by
 obtain ⟨c,w,N,nc,l,e⟩:=e;have l1:∀t,n≤t→q∣c*h t:=fun t ht=>jj (l1 t ht) (vI ..);have l2:∀t,n≤t→q∣c*h' t:=fun t ht=>jj (l2 t ht) (vI ..);refine xa hq nc ?_;have all:∀M,(∀i,M≤i→q∣w i)→∀i,q∣w i:=fun M=>by
  induction M with
  | zero=>exact fun h i=>h i (b9 _)
  | succ M ih=>
   refine fun hM=>ih fun i hi=>?_;by_cases z:i=M
   ·subst z
    have e1:=e (i+n);rw [xg,ar (by lia),mq] at e1
    obtain ⟨a,ha⟩:=hM (i+n) (by lia)
    obtain ⟨b,hb⟩:=l1 (i+n) (by lia)
    obtain ⟨d,hd⟩:=l2 (i+n) (by lia)
    obtain ⟨x,hx⟩:=e1;rw [ha,hb,hd] at hx;refine ⟨b-d+a-x,?_⟩;rw [mw,jW,mw];lia
   ·exact hM i (by lia)
 have w0:=all N fun i hi=>by rw [l i hi];exact dw q
 have et:=e t;rw [xg] at et;obtain ⟨a,ha⟩:=w0 t;obtain ⟨b,hb⟩:=w0 (t-n);obtain ⟨d,hd⟩:=et
 split at hd
 ·refine ⟨d+b-a,?_⟩
  rw [mw,jW];lia
 ·refine ⟨d-a,?_⟩
  rw [mw];lia
def wr(n:Nat)(h:Nat→Int):Nat→Int:=fun t=>if t<n then h t+h (t+n) else 0
theorem xj(n:Nat)(h:Nat→Int):dC n (wr n h):=fun i hi=>ao (by lia)
theorem xk(hq:ax q)(l:dC (2*n) h):Mo q n (wr n h) h:=by
 refine ⟨1,fun t=>-h (t+n),2*n,ja hq,fun i hi=>by show -h (i+n)=0;rw [l _ (by lia)];rfl,fun t=>Cg.of_eq ?_⟩
 rw [xg];unfold wr;by_cases z:t<n
 ·rw [ar z,ao (by lia)]
  lia
 ·rw [ao z,ar (by lia),show t-n+n=t by lia,l (t+n) (by lia)]
  lia
variable {D X:Nat→Int}
theorem cC.kA{G:Nat→Int}(hX:cC q D X)(lg:dC N G):cC q D (cv X G):=by obtain ⟨c,w,M,nc,lw,e⟩:=hX;refine ⟨c,cv G w,N+M,nc,gJ lg lw,fun t=>?_⟩;rw [zN X G,←ny,sZ];exact jI (fun _=>Cg.refl _) e
theorem cC.mo{Y:Nat→Int}(hq:ax q)(hX:cC q D X)(ht:cC q D (tp n))(e:Mo q n Y X):cC q D Y:=by obtain ⟨c,w,N,nc,l,e⟩:=e;refine cC.made hq ht hX (az:=c) (least:=c) (b:=w) (n:=N) l nc fun t=>?_;rw [Int.add_comm];exact e t
theorem Sv{r:List Int}{E:Int}(hq:ax q)(l2:2≤r.length)(tr:da q r)(d1:cC q (ag r) f)(d2:cC q (ag r) (tp n))(lg:dC N g)(nE:¬q∣E)(e:Mo q n (cv f g) (dl E)):False:=by
 have d3:=cC.mo hq (d1.kA lg) d2 e.symm;have z:=Ss hq (fun z=>by rw [z] at l2;exact absurd l2 (by decide)) tr d3 (fun t ht=>by
  show q∣(if t=0 then E else 0)
  rw [ao (by lia)]
  exact dw q) 0
 exact nE z
end
def Inv(q:Int)(n:Nat)(f:Nat→Int):Prop:=∃(G:Nat→Int) (E:Int) (N:Nat),dC N G∧¬q∣E∧Mo q n (cv f G) (dl E)
section
variable {q:Int} {n:Nat} {f g f1 f2 F G h:Nat→Int}
variable {N:Nat}
theorem Mo.J6(hq:ax q){a b c d:Nat→Int}(e1:Mo q n a c)(e2:Mo q n b d){M:Nat}(lb:dC N b)(lc:dC M c):Mo q n (cv a b) (cv c d):=(e1.kA lb).trans hq (e2.zX lc)
theorem Inv.both(hq:ax q)(l1:dC n f1)(l2:dC n f2)(e:Mo q n h (cv f1 f2)):Inv q n h↔Inv q n f1∧Inv q n f2:=by
 constructor
 ·rintro ⟨G,E,N,lG,nE,m⟩
  have a:Mo q n (cv f1 (cv f2 G)) (dl E):=by rw [←iF];exact (e.symm.kA lG).trans hq m
  have b:Mo q n (cv f2 (cv f1 G)) (dl E):=by rw [←iF,pG f2 f1];exact (e.symm.kA lG).trans hq m
  exact ⟨⟨_,E,_,gJ l2 lG,nE,a⟩,⟨_,E,_,gJ l1 lG,nE,b⟩⟩
 ·rintro ⟨⟨G1,E1,N1,J7,Sw,m1⟩,⟨G2,E2,N2,D7,Sx,m2⟩⟩
  refine ⟨cv G1 G2,E1*E2,_,gJ J7 D7,dR hq Sw Sx,?_⟩;have a:=e.kA (gJ J7 D7);refine a.trans hq ?_;have b:=m1.J6 hq m2 (gJ l2 D7) (xi E1);rw [show cv (cv f1 f2) (cv G1 G2)=cv (cv f1 G1) (cv f2 G2) by rw [iF,iF,←iF f2 G1,pG f2 G1,iF]]
  refine b.trans hq (Mo.lH hq fun t=>Cg.of_eq ?_);rw [xh];unfold dl
  split
  ·rfl
  ·rw [cF]
variable {M:Int}
theorem Mo.Sy(hq:ax q){D1 D2 M1 M2:Int}{F1 F2:Nat→Int}(l2:dC n f2)(lh:dC n h)(Sz:dC n F1)(J8:dC n F2)(lF:dC n F)(e:Mo q n h (cv f1 f2))(m1:Mo q n (cv f1 F1) (dl (D1*M1)))(m2:Mo q n (cv f2 F2) (dl (D2*M2)))(m:Mo q n (cv h F) (dl (D1*D2*M)))(nd:¬q∣D1*D2):Mo q n (fun t=>M1*M2*F t) (fun t=>M*cv F1 F2 t):=by
 refine Mo.cancel hq nd ?_;have lX:=gJ Sz J8;have a:Mo q n (cv h (cv F1 F2)) (cv (dl (D1*M1)) (dl (D2*M2))):=by
  refine (e.kA lX).trans hq ?_;have b:=m1.J6 hq m2 (gJ l2 J8) (xi (D1*M1))
  rwa [show cv (cv f1 F1) (cv f2 F2)=cv (cv f1 f2) (cv F1 F2) by rw [iF,iF,←iF F1 f2,pG F1 f2,iF]] at b
 have c:=a.kA lF;have d:=m.kA lX;rw [show cv (cv h F) (cv F1 F2)=cv (cv h (cv F1 F2)) F by rw [iF,iF,pG F]] at d
 have r:=c.symm.trans hq d;refine Mo.trans hq (Mo.lH hq fun t=>Cg.of_eq ?_) (r.trans hq (Mo.lH hq fun t=>Cg.of_eq ?_))
 ·rw [sZ,xh,xh]
  grind
 ·rw [xh]
  grind
theorem Mo.D8(hq:ax q){D:Int}{s g1:Nat→Int}(lF:dC n F)(ls:dC N s)(m:Mo q n (cv f F) (dl (D*M)))(e:Mo q n g1 (cv f s)):Mo q n (cv F g1) (fun t=>D*M*s t):=by refine (e.zX lF).trans hq ?_;rw [←iF,pG F f,←D4];exact m.kA ls
theorem Inv.cg(hq:ax q){a b:Int}(na:¬q∣a)(nb:¬q∣b)(e:∀t,Cg q (a*f t) (b*g t))(h:Inv q n f):Inv q n g:=by
 obtain ⟨G,E,N,lG,nE,m⟩:=h;refine ⟨fun t=>b*G t,a*E,N,fun i hi=>by show b*G i=0;rw [lG i hi,cF],dR hq na nE,?_⟩
 have m:=m.mul a;refine Mo.trans hq (Mo.lH hq fun t=>?_) (m.trans hq (Mo.lH hq fun t=>Cg.of_eq ?_))
 ·show Cg q (cv g (fun i=>b*G i) t) (a*cv f G t)
  rw [ny,←gH,←gH];exact jI (fun i=>(e i).symm) fun i=>Cg.refl _
 ·show a*dl E t=dl (a*E) t
  unfold dl
  split
  ·rfl
  ·exact cF _
end
theorem pH{x:Int}(h:x.natAbs≤10 ^ 580):aP x:=fV h (by decide +kernel)
theorem J9{x:Int}(h:x.natAbs≤10 ^ 290):aP x:=fV h (by decide +kernel)
def SA(C:Addr):Sp:=fun vs H Q _=>∃(z a b:Addr) (q:Int) (ps rs:aJ) (D1 D2:Int) (f g:Nat→Int) (X1 X2 Y1 Y2 L1 L2:Nat),vs=[.ref z,.ref a,.ref b]∧df C H z q∧ax q∧aD B2 H q a ps∧aD B2 H q b rs∧ps.length≤50∧rs.length≤50∧RowW q ps D1 f X1 Y1 L1∧RowW q rs D2 g X2 Y2 L2∧1000≤X1∧1000≤X2∧X1*X2≤10 ^ 270∧1≤Y1∧1≤Y2∧Y1*Y2≤10 ^ 270 ∧
 ∀(c:Addr) (H':Hp),ai H H'→H c=none→aD B2 H' q c (aM (cY q ps.length rs.length f g (D1*D2) (ps.length+rs.length-1)))→Q (.ref c) H'
structure D9 (q:Int) (ps rs:aJ) (D1 D2:Int) (f g:Nat→Int) (T U L:Nat):Prop where
 lp:ps.length≤100
 lr:rs.length≤50
 nI:aX q D1
 gI:aX q D2
 zT:∀p∈ps,p.2∣D1
 zU:∀p∈rs,p.2∣D2
 w1:∀i,aS q (ps.getD i o1) (f i,D1)
 w2:∀i,aS q (rs.getD i o1) (g i,D2)
 t1:∀i,(f i).natAbs≤T
 u2:∀i,(g i).natAbs≤U
 hT:1000≤T
 hU:1000≤U
 d2:D2.natAbs≤U
 d1:D1.natAbs≤10 ^ 290
 zY:U≤10 ^ 290
 ne:aM rs≠[]
 len:(aM ps).length+1≤L+(aM rs).length
 big:T*(2*U) ^ L≤10 ^ 570
 J_:1000*(2*U) ^ L*D1.natAbs≤10 ^ 570
def SD(C:Addr):Sp:=fun vs H Q _=>∃(z a b:Addr) (q:Int) (ps rs:aJ) (D1 D2:Int) (f g:Nat→Int) (T U L:Nat),vs=[.ref z,.ref a,.ref b]∧df C H z q∧ax q∧aD (10 ^ 290) H q a ps∧aD (10 ^ 290) H q b rs∧D9 q ps rs D1 D2 f g T U L ∧
 ∀(p l1 l2:Addr) (pI s_:aJ) (H':Hp),ai H H'→H' p=some (.tup [.ref l1,.ref l2])→aD (10 ^ 580) H' q l1 pI→aD (10 ^ 580) H' q l2 s_→s_.length<(aM rs).length→pI.length=(aM ps).length+1-(aM rs).length→Q (.ref p) H'
def de(q:Int)(n:Nat):List (Int×Int):=i8 [cf q (-1)] n++[cf q 1]
def SE(C:Addr):Sp:=fun vs H Q _=>∃(z:Addr) (q:Int) (n:Nat),vs=[.ref z,.int (n:Int)]∧df C H z q∧ax q∧1≤n∧n≤100∧∀(c:Addr) (H':Hp),ai H H'→H c=none→aD 1000 H' q c (de q n)→Q (.ref c) H'
theorem nJ(q:Int)(x:Int)(hq:ax q):Canon q (cf q x)∧aS q (cf q x) (x,1):=by
 unfold cf;by_cases z:q=0
 ·subst z
  rw [ar rfl];exact ⟨⟨fun _=>⟨by show (1:Int)≤1;decide,by show Int.gcd x 1=1;simp⟩,fun z=>absurd rfl z⟩,aS.refl _⟩
 ·rw [ao z]
  have q2:0<q:=by rcases hq with h | h <;> lia
  refine ⟨⟨fun y=>absurd y z,fun _=>⟨rfl,du _ z,dJ _ q2⟩⟩,?_⟩;obtain ⟨w,ew⟩:=zf x q;exact ⟨-w,by dsimp only;rw [gq];lia⟩
theorem nK(n1:1≤n):(de q n).length=n+1:=by unfold de i8;simp;lia
theorem D_(n1:1≤n)(i:Nat):(de q n).getD i o1=if i=0 then cf q (-1) else if i=n then cf q 1 else o1:=by
 unfold de i8;rw [fk];by_cases z:i=0
 ·subst z
  rfl
 ·rw [ao z]
  by_cases y:i=n
  ·rw [ar y,gQ (by simp;lia)]
   rw [show i-([cf q (-1)]++List.replicate (n - [cf q (-1)].length) o1).length=0 by simp;lia]
   rfl
  ·rw [ao y]
   by_cases h:i<n
   ·rw [ib (by simp;lia),gQ (by simp;lia),kP]
    split <;> rfl
   ·rw [kT (by simp;lia)]
    rfl
theorem xl(hq:ax q)(n1:1≤n)(i:Nat):aS q ((de q n).getD i o1) (tp n i,1):=by
 rw [D_ n1];unfold tp;by_cases z:i=0
 ·rw [ar z,ar z,ao (by lia)]
  exact (nJ q (-1) hq).2
 ·rw [ao z,ao z]
  by_cases y:i=n
  ·rw [ar y,ar y]
   exact (nJ q 1 hq).2
  ·rw [ao y,ao y]
   exact ⟨0,by simp [o1]⟩
theorem Ea{p:Int×Int}(h:p∈de q n):p.2=1:=by
 have e:∀x,(cf q x).2=1:=fun x=>by unfold cf;split <;> rfl
 unfold de i8 at h;rcases h_.mp h with h | h
 ·rcases h_.mp h with h | h
  ·rw [iQ.mp h];exact e _
  ·rw [(yw.mp h).2];rfl
 ·rw [iQ.mp h];exact e _
theorem jc(hq:ax q)(n1:1≤n):aM (de q n)=de q n:=zG fun _=>by
 rw [nK n1,mq,D_ n1,ao (by lia),ar rfl]
 unfold cf;rcases hq with rfl | ⟨h2,_⟩;·rw [ar rfl];decide
 ·rw [ao (by lia),mh (by decide) (by lia)];decide
theorem zZ(n i:Nat):(tp n i).natAbs≤2:=by
 unfold tp
 split <;> split <;> decide
structure nN (q:Int) (n W:Nat):Prop where
 t:pF q n W
 wq:q≠0→W=1000
 big:Zt q n W 1*W≤10 ^ 220
 loose:1000*(2*Zt q n W 2) ^ n*1000≤10 ^ 570
structure jd (q:Int) (n W:Nat) (ps:aJ):Prop where
 sz:nN q n W
 len:ps.length=n
 row:∃(D:Int) (f:Nat→Int),RowW q ps D f W W n
structure fe (q:Int) (n:Nat) (ps:aJ) (D:Int) (f:Nat→Int):Prop where
 ok:aX q D
 w:∀i,aS q (ps.getD i o1) (f i,D)
 low:dC n f
structure jL (q:Int) (n:Nat) (ps rs:aJ) (X:Nat) (F:Nat→Int) (M:Int):Prop where
 len:rs.length=n
 cj:fe q n rs M F
 bF:∀i,(F i).natAbs≤X
 bM:M.natAbs≤X
 dvd:∀p∈rs,p.2∣M
 back:∀D f,fe q n ps D f→Mo q n (cv f F) (dl (D*M))
 inv:∀D f,fe q n ps D f→Inv q n f
def Ka(C:Addr):Sp:=fun vs H Q _=>∃(z a:Addr) (q:Int) (n W:Nat) (ps:aJ),vs=[.ref z,.ref a]∧df C H z q∧ax q∧aD (10 ^ 290) H q a ps∧jd q n W ps∧(∀H',ai H H'→(∀D f,fe q n ps D f→¬Inv q n f)→Q .aV H') ∧
 ∀(c:Addr) (rs:aJ) (F:Nat→Int) (M:Int) (H':Hp),ai H H'→H c=none→aD B2 H' q c rs→jL q n ps rs (Zt q n W 1*W) F M→Q (.ref c) H'
def SF(C:Addr):Sp:=fun vs H Q _=>∃(z a b:Addr) (q S:Int) (n W X:Nat) (ps ss:aJ) (s:Nat→Int),vs=[.ref z,.ref a,.ref b]∧df C H z q∧ax q∧aD (10 ^ 290) H q a ps∧aD (10 ^ 290) H q b ss∧jd q n W ps∧ss.length=n∧RowW q ss S s X X n∧1000≤X∧X≤10 ^ 25 ∧
 ∀(p:Addr) (tg:Str) (xs:List V) (H':Hp),ai H H'→H' p=some (.tup (.str tg::xs))→((tg=Str.ofString "loose"∧∀D f,fe q n ps D f→¬Inv q n f)∨(tg=Str.ofString "one"∧∀D f,fe q n ps D f→Inv q n f))→Q (.ref p) H'
variable {ps:aJ} {D D':Int} {f':Nat→Int}
theorem z8(hq:ax q)(cp:∀p∈ps,Canon q p)(ok:aX q D)(wD:∀i,aS q (ps.getD i o1) (f i,D))(Eb:aX q D')(Ec:∀i,aS q (ps.getD i o1) (f' i,D'))(h:Inv q n f):Inv q n f':=by refine Inv.cg hq (a:=D') (b:=D) (Eb.nz hq) (ok.nz hq) (fun t=>?_) h;obtain ⟨x,e⟩:=(wD t).symm.trans (Ec t) (dM hq cp t).bot;exact ⟨x,by dsimp only at e;rw [←e];grind⟩
variable {M:Int} {F:Nat→Int}
theorem SG(hq:ax q)(cp:∀p∈ps,Canon q p)(ok:aX q D)(wD:∀i,aS q (ps.getD i o1) (f i,D))(Ec:∀i,aS q (ps.getD i o1) (f' i,D'))(h:Mo q n (cv f F) (dl (D*M))):Mo q n (cv f' F) (dl (D'*M)):=by
 refine Mo.cancel hq (ok.nz hq) ?_;refine Mo.trans hq (Mo.lH hq fun t=>?_) ((h.mul D').trans hq (Mo.lH hq fun t=>Cg.of_eq ?_))
 ·show Cg q (D*cv f' F t) (D'*cv f F t)
  rw [←gH,←gH];refine jI (fun i=>?_) fun _=>Cg.refl _;obtain ⟨x,e⟩:=(Ec i).symm.trans (wD i) (dM hq cp i).bot;exact ⟨x,by dsimp only at e;rw [←e];grind⟩
 ·unfold dl
  split
  ·grind
  ·rw [cF,cF]
variable {X Y:Nat}
theorem RowW.cj(h:RowW q ps D f X Y n):fe q n ps D f:=⟨h.ok,h.w,h.out⟩
theorem jd.Kb(hq:ax q)(h:jd q n W ps)(r:RowW q ps D f W W n):JW q ps (de q n) D 1 f (tp n) W 1 (Zt q n W):=by
 have n1:=h.sz.t.n1;have dt:=h.sz.t.dt;have hW:=h.sz.t.w;have big:=h.sz.big;have z1:=jK h.sz.t 1;have zw:W≤Zt q n W 1*W:=fR _ (by lia)
 have lt:=nK (q:=q) n1;have lp:=h.len;have cl:=i9 ps;have lI:10 ^ 220≤10 ^ 290:=dn (by decide) (by decide)
 refine ⟨by lia,by lia,r.ok,aX.one,r.dvd,fun p hp=>by rw [Ea hp];exact iR 1,r.w,xl hq n1,r.bf,fun i=>ae (zZ n i) (by lia),fun _ i=>?_,hW,r.bD,by show 1≤W;lia,by lia,by rw [jc hq n1,lt];lia,fun ts us lt' Ed bt bu SH=>?_,ae big lI,by lia,ae zw (ae big lI)⟩
 ·unfold tp
  by_cases z:i=0;·rw [ar z,ao (by lia)];decide
  ·rw [ao z];split <;> decide
 ·rw [jc hq n1,lt] at Ed
  exact Sq hq h.sz.t (by lia) Ed bt (fun z x hx=>by have:=bt x hx;have:=h.sz.wq z;lia) (fun z x hx=>by have:=bu x hx;have:=h.sz.wq z;lia) SH
section
variable {q ld b1 b2:Int} {n:Nat} {ps gs us vs:aJ} {ts ws r u v:List Int}
theorem fc.tw(hq:ax q)(n1:1≤n)(C:fc q ps (de q n) gs us vs ts ws r u v b1 b2 ld)(t:Nat):Cg q (ag ws t) (b2*tp n t):=by
 have c:Canon q ((de q n).getD t o1):=by
  rw [D_ n1]
  split
  ·exact (nJ q _ hq).1
  ·split
   ·exact (nJ q _ hq).1
   ·exact Jw hq
 obtain ⟨x,e⟩:=(C.p2 t).symm.trans (xl hq n1 t) c.bot;exact ⟨x,by dsimp only at e;rw [←e];grind⟩
theorem fc.no(hq:ax q)(n1:1≤n)(C:fc q ps (de q n) gs us vs ts ws r u v b1 b2 ld)(l2:2≤r.length):¬Inv q n (ag ts):=by
 rintro ⟨G,E,N,lG,nE,m⟩;have d2:cC q (ag r) (tp n):=by obtain ⟨c,w,M,nc,lw,e⟩:=C.d2;refine ⟨c*b2,w,M,dR hq nc (C.k2.nz hq),lw,fun t=>Cg.trans ?_ (e t)⟩;rw [ie];exact ((C.tw hq n1 t).symm).mulL c
 exact Sv hq l2 C.tr C.d1 d2 lG nE m
theorem fc.mo(hq:ax q)(n1:1≤n)(C:fc q ps (de q n) gs us vs ts ws r u v b1 b2 ld)(l1:r.length=1):Mo q n (cv (ag ts) (ag u)) (dl ld):=by
 have lead:=C.lead (by intro e;rw [e] at l1;cases l1)
 rw [l1,kS] at lead;refine ⟨1,fun i=>-1*(b2*ag v i),v.length,ja hq,fun i hi=>by show -1*(b2*ag v i)=0;rw [c_ hi];simp,fun t=>?_⟩
 rw [kU,kU,gH,gH,←ny];have a:=C.bz t;have b:Cg q (cv (ag v) (ag ws) t) (cv (ag v) (fun i=>b2*tp n i) t):=jI (fun _=>Cg.refl _) (C.tw hq n1);have e:ag r t=dl ld t:=by
  unfold dl;by_cases z:t=0;·rw [ar z,z,lead]
  ·rw [ao z,c_ (by lia)]
 rw [e] at a;rw [zN (ag ts)];have c:=a.sub b;rw [Int.add_sub_cancel] at c;exact c.trans (Cg.of_eq (by lia))
theorem fc.inv(hq:ax q)(n1:1≤n)(C:fc q ps (de q n) gs us vs ts ws r u v b1 b2 ld)(l1:r.length=1):Inv q n (ag ts):=⟨ag u,ld,u.length,fun i hi=>c_ hi,C.nl,C.mo hq n1 l1⟩
theorem fc.nn(hq:ax q)(n1:1≤n)(C:fc q ps (de q n) gs us vs ts ws r u v b1 b2 ld):1≤r.length:=by rw [←C.lg];refine iT.mpr fun e=>?_;have z:=(C.nil e).2.1;rw [jc hq n1] at z;have l:=nK (q:=q) n1;rw [z] at l;exact absurd l (by simp)
variable {xs:aJ}
theorem z9(hq:ax q)(q0:q≠0)(cx:∀p∈xs,Canon q p)(lx:xs.length≤n)(hX:1000≤X):RowW q xs 1 (fun i=>(xs.getD i o1).1) X X n:=by
 have Kc:=fun i=>(dM hq cx i).2 q0;refine ⟨aX.one,fun p hp=>?_,fun i=>?_,fun i=>?_,by show 1≤X;lia,fun i hi=>by rw [dr (by lia)];rfl⟩
 ·rw [((cx p hp).2 q0).1]
  exact iR 1
 ·have e:=(Kc i).1
  exact ⟨0,by dsimp only;rw [e];simp⟩
 ·have e:=(Kc i).2
  have q3:q≤997:=by rcases hq with h | h <;> lia
  lia
theorem fc.row(hq:ax q)(n1:1≤n)(C:fc q ps (de q n) gs us vs ts ws r u v b1 b2 ld)(l1:r.length=1)(cu:∀p∈us,Canon q p)(lu:u.length≤n){Z:Nat}(hZ:1000≤Z)(hW:1000≤W)(bu:∀x∈u,x.natAbs≤Z)(bl:ld.natAbs≤Z)(bb:b1.natAbs≤W):∃(F:Nat→Int) (M:Int),RowW q us M F (Z*W) (Z*W) n∧Mo q n (cv (ag ts) F) (dl (b1*M)):=by
 have m:=C.mo hq n1 l1;have Ed:=C.lu;have SI:1000≤Z*W:=ae hZ (fQ _ (by lia))
 have key:∀(F:Nat→Int) (M:Int),(∀k,Cg q (ld*F k) (M*b1*ag u k))→Mo q n (cv (ag ts) F) (dl (b1*M)):=fun F M h=>by
  refine Mo.cancel hq C.nl ?_;refine Mo.trans hq (Mo.lH hq fun t=>?_) ((m.mul (M*b1)).trans hq (Mo.lH hq fun t=>Cg.of_eq ?_))
  ·show Cg q (ld*cv (ag ts) F t) (M*b1*cv (ag ts) (ag u) t)
   rw [←ny,←ny];exact jI (fun _=>Cg.refl _) h
  ·show M*b1*dl ld t=ld*dl (b1*M) t
   unfold dl
   split
   ·grind
   ·rw [cF,cF]
 by_cases z:q=0
 ·have hu:=C.hu
  have nl:=C.nl;have hb:=C.k1;subst z;have tf:ld≠0:=fun e=>nl (e▸iR 0);obtain ⟨s,M,hs,eM,hM⟩:∃s M:Int,(s=1∨s=-1)∧M=s*ld∧1≤M:=by
   by_cases h:0<ld;·exact ⟨1,ld,.inl rfl,by lia,by lia⟩
   ·exact ⟨-1,-ld,.inr rfl,by lia,by lia⟩
  have ab:∀x:Int,(s*x).natAbs=x.natAbs:=fun x=>by rw [a7];rcases hs with rfl | rfl <;> simp
  have jM:aX 0 M:=⟨fun _=>hM,fun h=>absurd rfl h⟩;have wM:∀i,aS 0 (us.getD i o1) (s*(ag u i*b1),M):=fun i=>by
   by_cases hi:i<us.length
   ·obtain ⟨x,e⟩:=hu i hi
    refine ⟨s*x,?_⟩;dsimp only at e ⊢;rw [jk] at e ⊢;rw [eM];generalize us.getD i o1=p at e ⊢;have:p.1*ld=ag u i*b1*p.2:=oC.mp e;rw [show p.1*(s*ld)=s*(p.1*ld) by grind,this]
    grind
   ·rw [dr (by lia),c_ (by lia)]
    exact ⟨0,by simp [o1]⟩
  refine ⟨fun k=>s*(ag u k*b1),M,⟨jM,fun p hp=>?_,wM,fun i=>?_,?_,fun i hi=>by rw [c_ (by lia)];simp⟩,key _ _ fun k=>Cg.of_eq (by rw [eM];grind)⟩
  ·obtain ⟨i,hi,rfl⟩:=ig hp
   have w:=wM i;rw [getD_at hi] at w;rw [ku hq (cu _ hp) (gG hq jM) (w.trans (gc jM).symm jM)];exact zC jM
  ·rw [ab,a7]
   exact bE (nH bu i) bb
  ·rw [eM,ab]
   exact ae bl (fQ _ (by lia))
 ·refine ⟨_,1,z9 hq z cu (by lia) SI,key _ _ fun k=>?_⟩
  have SJ:=fun i=>(dM hq cu i).2 z;by_cases hk:k<us.length
  ·obtain ⟨x,e⟩:=C.hu k hk
   have e2:=(SJ k).1;dsimp only at e ⊢;rw [e2,fO] at e;exact ⟨x,by rw [←e];grind⟩
  ·show Cg q (ld*(us.getD k o1).1) _
   rw [dr (by lia),c_ (by lia),cF]
   exact Cg.of_eq (by show ld*0=0;exact cF _)
theorem SK{i:Nat}:(i8 xs m).getD i o1=xs.getD i o1:=by
 unfold i8;by_cases h:i<xs.length;·rw [fk,ib h,fk]
 ·rw [dr (xs:=xs) (by lia),fk,gQ (by lia),kP]
  split <;> rfl
theorem fc.SM(hq:ax q)(n1:1≤n)(C:fc q ps (de q n) gs us vs ts ws r u v b1 b2 ld)(l1:r.length=1)(cp:∀p∈ps,Canon q p)(lu:us.length≤n)(R:RowW q us M F X X n)(m:Mo q n (cv (ag ts) F) (dl (b1*M))):jL q n ps (i8 us n) X F M:=
 ⟨by unfold i8;simp;lia,⟨R.ok,fun i=>by rw [SK];exact R.w i,R.out⟩,R.bf,R.bD,fun p hp=>by
  unfold i8 at hp;rcases h_.mp hp with h | h;·exact R.dvd p h
  ·rw [(yw.mp h).2];exact Int.one_dvd M,fun D f w=>SG hq cp C.k1 C.p1 w.w m,fun D f w=>z8 hq cp C.k1 C.p1 w.ok w.w (C.inv hq n1 l1)⟩
end
variable {ld b1 b2:Int} {gs us:aJ} {ws r v:List Int}
theorem fc.SN{vs:aJ}{u:List Int}(hq:ax q)(C:fc q ps (de q n) gs us vs ts ws r u v b1 b2 ld)(cg:∀p∈gs,Canon q p){U:Nat}(hU:1000≤U)(br:∀x∈r,x.natAbs≤U)(bl:ld.natAbs≤U):∃(M:Int) (G:Nat→Int),RowW q gs M G U U gs.length:=by
 have lg:=C.lg;by_cases z:q=0
 ·have hg:=C.hg
  have nl:=C.nl;subst z;have tf:ld≠0:=fun e=>nl (e▸iR 0);obtain ⟨s,M,hs,eM,hM⟩:∃s M:Int,(s=1∨s=-1)∧M=s*ld∧1≤M:=by
   by_cases h:0<ld;·exact ⟨1,ld,.inl rfl,by lia,by lia⟩
   ·exact ⟨-1,-ld,.inr rfl,by lia,by lia⟩
  have ab:∀x:Int,(s*x).natAbs=x.natAbs:=fun x=>by rw [a7];rcases hs with rfl | rfl <;> simp
  have jM:aX 0 M:=⟨fun _=>hM,fun h=>absurd rfl h⟩;have wM:∀i,aS 0 (gs.getD i o1) (s*ag r i,M):=fun i=>by
   by_cases hi:i<gs.length
   ·obtain ⟨x,e⟩:=hg i hi
    refine ⟨s*x,?_⟩;dsimp only at e ⊢;rw [jk] at e ⊢;rw [eM];generalize gs.getD i o1=p at e ⊢;have:p.1*ld=ag r i*1*p.2:=oC.mp e;rw [show p.1*(s*ld)=s*(p.1*ld) by grind,this]
    grind
   ·rw [dr (by lia),c_ (by lia)]
    exact ⟨0,by simp [o1]⟩
  refine ⟨M,fun k=>s*ag r k,jM,fun p hp=>?_,wM,fun i=>by rw [ab];exact nH br i,by rw [eM,ab];exact bl,fun i hi=>by rw [c_ (by lia)];simp⟩
  obtain ⟨i,hi,rfl⟩:=ig hp;have w:=wM i;rw [getD_at hi] at w;rw [ku hq (cg _ hp) (gG hq jM) (w.trans (gc jM).symm jM)];exact zC jM
 ·exact ⟨1,_,z9 hq z cg (aN _) hU⟩
theorem fc.SO{vs:aJ}{u:List Int}(hq:ax q)(s:nN q n W)(C:fc q ps (de q n) gs us vs ts ws r u v b1 b2 ld)(cg:∀p∈gs,Canon q p)(cut:aM gs=gs)(l2:2≤r.length)(SQ:gs.length≤50)(br:∀x∈r,x.natAbs≤Zt q n W r.length):∃(M:Int) (G:Nat→Int),D9 q (de q n) gs 1 M (tp n) G 1000 (Zt q n W 2) n:=by
 have n1:=s.t.n1;have dt:=s.t.dt;have lt:=nK (q:=q) n1;have lg:=C.lg;have Kd:∀x∈r,x.natAbs≤Zt q n W 2:=fun x hx=>ae (br x hx) (DW s.t _ _ l2);have u1:=jK s.t 2;have hW:=s.t.w;have bl:ld.natAbs≤Zt q n W 2:=by
  rw [C.lead (by intro e;rw [e] at l2;exact absurd l2 (by decide))]
  exact nH Kd _
 obtain ⟨M,G,R⟩:=C.SN hq cg u1 Kd bl;have lI:10 ^ 220≤10 ^ 290:=dn (by decide) (by decide)
 have SR:=DW s.t 1 2 (by decide)
 have lo:=s.loose;have one:(1:Int).natAbs=1:=rfl;refine ⟨M,G,by lia,SQ,aX.one,R.ok,fun p hp=>by rw [Ea hp];exact iR 1,R.dvd,xl hq n1,R.w,fun i=>ae (zZ n i) (by decide),R.bf,by decide,u1,R.bD,?_,ae SR (ae (ae (fQ _ (by lia)) s.big) lI),?_,?_,?_,?_⟩
 ·rw [one];exact jZ (by decide)
 ·rw [cut]
  exact iT.mp (by lia)
 ·rw [jc hq n1,lt,cut]
  lia
 ·exact ae (fQ _ (by decide)) lo
 ·rw [one,Nat.mul_one]
  exact ae (fQ _ (by decide)) lo
variable {ss:aJ} {s:Nat→Int}
theorem SU{S:Int}(hq:ax q)(n1:1≤n)(dt:n≤40)(R:RowW q us M F X X n)(R2:RowW q ss S s Y Y n)(lu:us.length≤n)(ls:ss.length≤n)(x1:1≤X)(bX:X≤10 ^ 220)(bY:Y≤10 ^ 25):D9 q (aM (cY q us.length ss.length F s (M*S) (us.length+ss.length-1))) (de q n) (M*S) 1 (bJ us.length ss.length F s) (tp n) (10 ^ 280) 1000 (2*n):=by
 have lt:=nK (q:=q) n1;have ok:=R.ok.mul R2.ok;have cP:=DM (n:=us.length) (m:=ss.length) (N:=us.length+ss.length-1) (f:=F) (g:=s) hq ok;have lP:(cY q us.length ss.length F s (M*S) (us.length+ss.length-1)).length=us.length+ss.length-1:=by simp [cY]
 have c1:=i9 (cY q us.length ss.length F s (M*S) (us.length+ss.length-1));have c2:=i9 (aM (cY q us.length ss.length F s (M*S) (us.length+ss.length-1)));have Ke:X*Y≤10 ^ 245:=ae (bE bX bY) (by decide +kernel)
 have bD:(M*S).natAbs≤10 ^ 245:=by rw [a7];exact ae (bE R.bD R2.bD) Ke
 have pw:2000 ^ (2*n)≤2000 ^ 80:=dn (by decide) (by lia)
 refine ⟨by lia,by lia,ok,aX.one,fun p hp=>?_,fun p hp=>by rw [Ea hp];exact iR 1,fun i=>?_,xl hq n1,fun i=>?_,fun i=>ae (zZ n i) (by decide),by decide +kernel,by decide,by decide,ae bD (dn (by decide) (by decide)),by decide +kernel,?_,?_,?_,?_⟩
 ·have hp:=w5 hp
  unfold cY at hp;obtain ⟨k,_,rfl⟩:=fm.mp hp;exact zC ok
 ·rw [DL hq cP]
  exact DN ok i
 ·refine ae (DA (M:=10 ^ 245) fun i j _ _=>?_) (ae (bE (show us.length≤50 by lia) (fW (10 ^ 245) (show ss.length≤50 by lia))) (by decide +kernel))
  rw [a7];exact ae (bE (R.bf i) (R2.bf j)) Ke
 ·rw [jc hq n1]
  exact iT.mp (by lia)
 ·rw [jc hq n1,lt]
  lia
 ·exact ae (dY _ pw) (by decide +kernel)
 ·exact ae (bE (dY _ pw) bD) (by decide +kernel)
def eX(q:Int)(n:Nat)(h:Nat→Int)(D:Int):List (Int×Int):=(List.range n).map fun t=>cy q (wr n h t) D
def fK(n k:Nat)(h:Nat→Int)(x:Nat):Int:=(if x<k then h x else 0)+if x+n<k then h (x+n) else 0
theorem SV(n:Nat)(h:Nat→Int)(x:Nat):fK n 0 h x=0:=by
 unfold fK;rw [ao (by lia),ao (by lia)]
 rfl
variable {k x:Nat} {h:Nat→Int}
theorem SW(hk:k<2*n)(hx:x<n)(e:k % n=x):fK n (k+1) h x=fK n k h x+h k:=by
 unfold fK;by_cases z:k<n
 ·rw [yx z] at e
  subst e;rw [ar (by lia),ao (by lia),ao (by lia),ao (by lia)]
  lia
 ·rw [Nat.mod_eq_sub_mod (by lia),yx (by lia)] at e
  subst e;rw [ar (by lia),ar (by lia),ar (by lia),ao (by lia),show k-n+n=k by lia]
  lia
theorem SX(hk:k<2*n)(hx:x<n)(e:k % n≠x):fK n (k+1) h x=fK n k h x:=by
 unfold fK;by_cases z:k<n
 ·rw [yx z] at e
  rw [ao (show ¬x+n<k+1 by lia),ao (show ¬x+n<k by lia)]
  by_cases y:x<k;·rw [ar y,ar (by lia)]
  ·rw [ao y,ao (by lia)]
 ·rw [Nat.mod_eq_sub_mod (by lia),yx (by lia)] at e
  rw [ar (show x<k+1 by lia),ar (show x<k by lia)]
  by_cases y:x+n<k;·rw [ar y,ar (by lia)]
  ·rw [ao y,ao (by lia)]
variable {B:Nat}
theorem SY(b:∀i,(h i).natAbs≤B):(fK n k h x).natAbs≤2*B:=by
 have b1:=b x;have b2:=b (x+n);unfold fK
 split <;> split <;> lia
theorem S0(b:∀i,(h i).natAbs≤B):(wr n h x).natAbs≤2*B:=by
 have b1:=b x;have b2:=b (x+n);unfold wr
 split <;> lia
theorem S2(hx:x<n)(z:∀i,k≤i→q∣h i):Cg q (fK n k h x) (wr n h x):=by
 unfold fK wr;rw [ar hx];have a:Cg q (if x<k then h x else 0) (h x):=by
  split
  ·exact Cg.refl _
  ·obtain ⟨c,e⟩:=z x (by lia)
   exact ⟨-c,by rw [e,gq];lia⟩
 have b:Cg q (if x+n<k then h (x+n) else 0) (h (x+n)):=by
  split
  ·exact Cg.refl _
  ·obtain ⟨c,e⟩:=z (x+n) (by lia)
   exact ⟨-c,by rw [e,gq];lia⟩
 exact a.add b
def Ee:Sp:=fun vs H Q _=>∃(td a:Addr) (q D:Int) (n:Nat) (ps:aJ) (h:Nat→Int),vs=[.ref td,.int (n:Int),.ref a]∧dB H td q∧ax q∧aD B2 H q a ps∧1≤n∧n≤40∧ps.length≤2*n∧aX q D∧D.natAbs≤B2∧(∀i,aS q (ps.getD i o1) (h i,D))∧(∀i,(h i).natAbs≤10 ^ 280) ∧
 ∀(c:Addr) (H':Hp),ai H H'→H c=none→aD B2 H' q c (eX q n h D)→Q (.ref c) H'
theorem tj(q:Int)(n:Nat)(h:Nat→Int)(D:Int):(eX q n h D).length=n:=by simp [eX]
theorem Kf{i:Nat}(hi:i<n):(eX q n h D).getD i o1=cy q (wr n h i) D:=zJ hi
theorem Ef(ok:aX q D)(bX:∀i,(h i).natAbs≤X)(bD:D.natAbs≤Y):RowW q (eX q n h D) D (wr n h) (2*X) Y n:=by
 refine ⟨ok,fun p hp=>?_,fun i=>?_,fun i=>S0 bX,bD,xj n h⟩
 ·unfold eX at hp
  obtain ⟨k,_,rfl⟩:=fm.mp hp;exact zC ok
 ·by_cases hi:i<n
  ·rw [Kf hi]
   exact gc ok
  ·rw [dr (by rw [tj];lia),xj n h i (by lia)]
   exact zI
theorem S3{h':Nat→Int}(hq:ax q)(ok:aX q D)(Eb:aX q D')(e:∀t,t<n→Cg q (D'*wr n h t) (D*wr n h' t)):eX q n h D=eX q n h' D':=by unfold eX;refine List.map_congr_left fun t ht=>Jk hq ok Eb ?_;obtain ⟨c,x⟩:=e t (vw.mp ht);exact ⟨c,by dsimp only;rw [←x];grind⟩
theorem Kg{S:Int}(hq:ax q)(ok:aX q D)(S4:aX q S)(l:ss.length=n)(cs:∀p∈ss,Canon q p)(w:∀i,aS q (ss.getD i o1) (s i,S))(e:∀t,t<n→Cg q (S*wr n h t) (D*s t)):eX q n h D=ss:=by
 refine List.ext_getElem (by rw [tj,l]) fun i h1 h2=>?_
 have hi:i<n:=by lia
 rw [←getD_at (d:=o1) h1,←getD_at (d:=o1) h2,Kf hi];refine ku hq (gG hq ok) (dM hq cs i) ((gc ok).trans ?_ ok);refine aS.trans ?_ (w i).symm S4;obtain ⟨c,x⟩:=e i hi;exact ⟨c,by dsimp only;rw [←x];grind⟩
def S5:Sp:=fun vs H Q _=>∃(td a b:Addr) (q D1 D2:Int) (n:Nat) (ps rs:aJ) (f g:Nat→Int) (X1 X2 Y1 Y2:Nat),vs=[.ref td,.ref a,.ref b]∧dB H td q∧ax q∧aD B2 H q a ps∧aD B2 H q b rs∧1≤n∧n≤40∧ps.length=n∧rs.length≤n∧RowW q ps D1 f X1 Y1 n∧RowW q rs D2 g X2 Y2 n∧X1*X2≤10 ^ 260∧Y1*Y2≤10 ^ 260 ∧
 ∀(c:Addr) (H':Hp),ai H H'→H c=none→aD B2 H' q c (eX q n (cv f g) (D1*D2))→Q (.ref c) H'
def Kh:Sp:=fun vs H Q _=>∃(td:Addr) (q:Int) (n:Nat),vs=[.ref td,.int (n:Int)]∧dB H td q∧ax q∧1≤n∧n≤40∧∀(c:Addr) (H':Hp),ai H H'→H c=none→aD 1000 H' q c (de q n)→Q (.ref c) H'
theorem z_{M:Nat}(hf:dC n f)(h:∀i j,(f i*g j).natAbs≤M)(k:Nat):(cv f g k).natAbs≤n*M:=by
 unfold cv;have e:∀d,aQ (n+d) (fun i=>f i*g (k-i))=aQ n fun i=>f i*g (k-i):=fun d=>by
  induction d with
  | zero=>rfl
  | succ d ih=>rw [show n+(d+1)=n+d+1 by lia,f_,ih,hf _ (by lia),jk,oz]
 by_cases hk:k+1≤n;·exact ae (sV (k+1) _ fun i _=>h _ _) (fW _ hk)
 ·rw [show k+1=n+(k+1-n) by lia,e]
  exact sV n _ fun i _=>h _ _
structure xn (q:Int) (n F W1 W2:Nat):Prop where
 n1:1≤n
 n8:n≤8
 s1:nN q n W1
 s2:nN q n W2
 Eg:dA ([.int (10 ^ 12),.int (10 ^ 12),.int 100,.int 9,.int 9,.int 9]:List V) ((if (6:Int)<(n:Int) then 6 else (n:Int))-1)=some (.int (F:Int))
 f4:9≤F
 pJ:F≤10 ^ 20
 b1:q=0→4*(F ^ n+1000)≤W1∧2*(n*(F ^ n+1000))≤W1
 xo:F ^ n+1000≤10 ^ 25
 b2:q=0→2*(n*(W1*W1))≤W2
 n6:q=0→n≤6
 z1:W1*(Zt q n W1 1*W1)≤10 ^ 220
 z2:W2*(Zt q n W2 1*W2)≤10 ^ 220
 z3:(Zt q n W1 1*W1)*(Zt q n W1 1*W1)≤10 ^ 260
theorem je(w:1000≤W)(n1:1≤n)(dt:n≤40)(l:J0 n W=true)(h:(decide (Zt 0 n W 1*W≤10 ^ 220) && decide (1000*(2*Zt 0 n W 2) ^ n*1000≤10 ^ 570))=true):nN 0 n W:=by rw [yo,rD,rD] at h;exact ⟨⟨w,n1,dt,fun _=>l⟩,fun z=>absurd rfl z,h.1,h.2⟩
theorem S6(n1:1≤n)(n6:n≤6):∃F W1 W2,xn 0 n F W1 W2:=by
 rcases (show n=1∨n=2∨n=3∨n=4∨n=5∨n=6 by lia) with rfl | rfl | rfl | rfl | rfl | rfl
 ·exact ⟨10 ^ 12,10 ^ 25,10 ^ 51,by decide,by decide,je (by decide) (by decide) (by decide) (by decide +kernel) (by decide +kernel),je (by decide) (by decide) (by decide) (by decide +kernel) (by decide +kernel),rfl,by decide,by decide,fun _=>by decide +kernel,by decide +kernel,fun _=>by decide +kernel,fun _=>by decide,by decide +kernel,by decide +kernel,by decide +kernel⟩
 ·exact ⟨10 ^ 12,10 ^ 25,10 ^ 51,by decide,by decide,je (by decide) (by decide) (by decide) (by decide +kernel) (by decide +kernel),je (by decide) (by decide) (by decide) (by decide +kernel) (by decide +kernel),rfl,by decide,by decide,fun _=>by decide +kernel,by decide +kernel,fun _=>by decide +kernel,fun _=>by decide,by decide +kernel,by decide +kernel,by decide +kernel⟩
 ·exact ⟨100,10 ^ 7,10 ^ 16,by decide,by decide,je (by decide) (by decide) (by decide) (by decide +kernel) (by decide +kernel),je (by decide) (by decide) (by decide) (by decide +kernel) (by decide +kernel),rfl,by decide,by decide,fun _=>by decide +kernel,by decide +kernel,fun _=>by decide +kernel,fun _=>by decide,by decide +kernel,by decide +kernel,by decide +kernel⟩
 ·exact ⟨9,10 ^ 7,10 ^ 16,by decide,by decide,je (by decide) (by decide) (by decide) (by decide +kernel) (by decide +kernel),je (by decide) (by decide) (by decide) (by decide +kernel) (by decide +kernel),rfl,by decide,by decide,fun _=>by decide +kernel,by decide +kernel,fun _=>by decide +kernel,fun _=>by decide,by decide +kernel,by decide +kernel,by decide +kernel⟩
 ·exact ⟨9,10 ^ 7,10 ^ 16,by decide,by decide,je (by decide) (by decide) (by decide) (by decide +kernel) (by decide +kernel),je (by decide) (by decide) (by decide) (by decide +kernel) (by decide +kernel),rfl,by decide,by decide,fun _=>by decide +kernel,by decide +kernel,fun _=>by decide +kernel,fun _=>by decide,by decide +kernel,by decide +kernel,by decide +kernel⟩
 ·exact ⟨9,10 ^ 7,10 ^ 16,by decide,by decide,je (by decide) (by decide) (by decide) (by decide +kernel) (by decide +kernel),je (by decide) (by decide) (by decide) (by decide +kernel) (by decide +kernel),rfl,by decide,by decide,fun _=>by decide +kernel,by decide +kernel,fun _=>by decide +kernel,fun _=>by decide,by decide +kernel,by decide +kernel,by decide +kernel⟩
theorem S7(z:q≠0)(n1:1≤n)(dt:n≤40):nN q n 1000:=by
 have e:∀j,Zt q n 1000 j=1000:=fun j=>by unfold Zt;rw [ao z]
 refine ⟨⟨by decide,n1,dt,fun h=>absurd h z⟩,fun _=>rfl,by rw [e];decide +kernel,?_⟩
 rw [e];exact ae (fW _ (dY _ (dn (show 0<2*1000 by decide) dt))) (by decide +kernel)
theorem S8(z:q≠0)(n1:1≤n)(n8:n≤8):∃F W1 W2,xn q n F W1 W2:=by
 have s:=S7 z n1 (show n≤40 by lia)
 have z0:Zt q n 1000 1=1000:=by unfold Zt;rw [ao z]
 have z1:1000*(Zt q n 1000 1*1000)≤10 ^ 220:=by rw [z0];decide +kernel
 have z3:(Zt q n 1000 1*1000)*(Zt q n 1000 1*1000)≤10 ^ 260:=by rw [z0];decide +kernel
 rcases (show n=1∨n=2∨n=3∨n=4∨n=5∨n=6∨n=7∨n=8 by lia) with rfl | rfl | rfl | rfl | rfl | rfl | rfl | rfl
 ·exact ⟨10 ^ 12,1000,1000,by decide,by decide,s,s,rfl,by decide,by decide,fun h=>absurd h z,by decide +kernel,fun h=>absurd h z,fun h=>absurd h z,z1,z1,z3⟩
 ·exact ⟨10 ^ 12,1000,1000,by decide,by decide,s,s,rfl,by decide,by decide,fun h=>absurd h z,by decide +kernel,fun h=>absurd h z,fun h=>absurd h z,z1,z1,z3⟩
 ·exact ⟨100,1000,1000,by decide,by decide,s,s,rfl,by decide,by decide,fun h=>absurd h z,by decide +kernel,fun h=>absurd h z,fun h=>absurd h z,z1,z1,z3⟩
 all_goals exact ⟨9,1000,1000,by decide,by decide,s,s,rfl,by decide,by decide,fun h=>absurd h z,by decide +kernel,fun h=>absurd h z,fun h=>absurd h z,z1,z1,z3⟩
theorem S9(hq:ax q)(z:q≠0)(s:nN q n W)(l:ps.length=n)(c:∀p∈ps,Canon q p):jd q n W ps:=⟨s,l,1,_,z9 hq z c (by lia) s.t.w⟩
variable {H:Hp}
theorem aD.bR{a:Addr}(h:aD B H 0 a ps):∀p∈ps,p.1.natAbs≤B∧p.2.natAbs≤B∧aX 0 p.2:=fun p hp=>by
 obtain ⟨vs,e,l,k⟩:=h;obtain ⟨i,hi,rfl⟩:=ig hp;have hv:i<vs.length:=by lia
 have z:=k i vs[i] ps[i] (by simp [hv]) (by simp [hi])
 have c:=z.canon.bot;generalize ps[i]=p at z c;generalize vs[i]=v at z;obtain ⟨x,m⟩:=p;cases z with
 | bR e l bx bm=>exact ⟨bx,bm,c⟩
 | rem h0 h1 h2=>lia
theorem Eh{F:Nat}{a:Addr}(hq:ax q)(h:aD F H q a ps)(l:ps.length=n)(F1:1≤F)(n1:1≤n)(bX:q=0→F ^ n≤X)(x1:1000≤X):∃(D:Int) (f:Nat→Int),RowW q ps D f X X n:=by
 by_cases z:q=0
 ·subst z
  have bX:=bX rfl;have fr:=h.bR;have hc:=h.dH;obtain ⟨D,ok,dv,bD,bd⟩:=Jx (q:=0) F1 ps fun p hp=>⟨(fr p hp).2.2,(fr p hp).2.1⟩;have gd:∀i,ps.getD i o1∈ps∨ps.getD i o1=o1:=fun i=>by
   by_cases hi:i<ps.length;·rw [getD_at hi];exact .inl (gj _)
   ·exact .inr (dr (by lia))
  have Ki:∀i,(ps.getD i o1).2∣D:=fun i=>by
   rcases gd i with h | h;·exact dv _ h
   ·rw [h];exact Int.one_dvd D
  refine ⟨D,fun i=>(ps.getD i o1).1*(D / (ps.getD i o1).2),ok,dv,fun i=>⟨0,?_⟩,fun i=>?_,by rw [l] at bD;exact ae bD bX,fun i hi=>by rw [dr (by lia)];simp [o1]⟩
  ·obtain ⟨k,e⟩:=Ki i
   have nz:(ps.getD i o1).2≠0:=fun z=>(dM hq hc i).bot.nz hq (by rw [z];exact dw 0)
   dsimp only;have e2:D / (ps.getD i o1).2=k:=by rw [e,me _ nz]
   rw [e2,cF,e];grind
  ·rcases gd i with h | h
   ·obtain ⟨k,e⟩:=Ki i
    have nz:(ps.getD i o1).2≠0:=fun z=>(dM hq hc i).bot.nz hq (by rw [z];exact dw 0)
    have e2:D / (ps.getD i o1).2=k:=by rw [e,me _ nz]
    have z:=bd _ h;rw [e2,a7];rw [e,a7] at z;have z2:=Nat.le_of_mul_le_mul_left z (gk.mpr nz);refine ae (bE (fr _ h).1 z2) ?_;rw [←Nat.pow_succ',l,Nat.succ_eq_add_one,Nat.sub_add_cancel n1];exact bX
   ·rw [h]
    show ((0:Int)*_).natAbs≤_;rw [jk];exact b9 _
 ·exact ⟨1,_,z9 hq z h.dH (by lia) x1⟩
def S_(K:aE):Sp:=fun vs H Q _=>∃(P a td:Addr) (ns:List Int) (q:Int) (n F W1 W2:Nat),vs=[.ref P,.ref td,.int (n:Int)]∧cR H P a∧a_ K (er P H) a (ns.map V.int)∧dB (er P H) td q∧ax q∧xn q n F W1 W2 ∧
 ∀(r:Addr) (ps:aJ) (H':Hp),aK P H H'→cR H' P a→aD B2 (er P H') q r ps→jd q n W1 ps→Q (.ref r) H'
theorem Ei{x:Int}(h:aS q o1 (x,D)):q∣x:=by obtain ⟨k,e⟩:=h;have e:(0:Int)*D-x*1=q*k:=e;exact ⟨-k,by rw [gq];lia⟩
theorem Kj(hf:∀i,n≤i→f i=0)(hg:∀i,m≤i→q∣g i)(k:Nat):Cg q (bJ n m f g k) (cv f g k):=by
 have e:bJ n m f g k=bJ n m f (fun j=>if j<m then g j else 0) k:=by unfold bJ;refine cX fun i _=>?_;unfold cH;refine cX fun j hj=>?_;dsimp only;rw [ar hj]
 rw [e,zO hf (fun i hi=>ao (by lia))]
 refine jI (fun _=>Cg.refl _) fun i=>?_
 split
 ·exact Cg.refl _
 ·obtain ⟨c,e⟩:=hg i (by lia)
  exact ⟨-c,by rw [e,gq];lia⟩
theorem Kk{x y:Int}(h:Cg q x y):aS q (x,D) (y,D):=by obtain ⟨c,e⟩:=h;exact ⟨c*D,by dsimp only;rw [←Int.sub_mul,e,ie]⟩
theorem Aa(hq:ax q)(s:nN q n W)(l:ps.length=n)(c:∀p∈ps,Canon q p)(h:q=0→∃(D:Int) (f:Nat→Int),RowW q ps D f W W n):jd q n W ps:=by
 by_cases z:q=0;·exact ⟨s,l,h z⟩
 ·exact S9 hq z s l c
def iG(P:Addr)(H:Hp)(q:Int)(n W:Nat)(a:Addr):Prop:=∃ps,aD B2 (My.er P H) q a ps∧jd q n W ps
variable {P:Addr} {H':Hp}
theorem iG.mono{a:Addr}(h:iG P H q n W a)(s:aK P H H'):iG P H' q n W a:=by obtain ⟨ps,h1,h2⟩:=h;exact ⟨ps,aD.mono h1 s,h2⟩
theorem aD.er{c a:Addr}(h:aD B H q c ps)(p:cR H P a)(n:c≠P):aD B (My.er P H) q c ps:=by obtain ⟨vs,e,l,f⟩:=h;exact ⟨vs,lB n e,l,fun i v x h1 h2=>(f i v x h1 h2).er (H':=H) p⟩
theorem iG.drawn{F W1 W2:Nat}{D:Addr}{ys:List V}(hq:ax q)(sz:xn q n F W1 W2)(nD:D≠P)(e:H D=some (.lst ys))(l:ys.length=n)(hP:∀(i:Nat) (y:V),ys[i]?=some y→∃xm:Int×Int,aZ F (My.er P H) q y xm.1 xm.2):iG P H q n W1 D:=by
 obtain ⟨xs,hR,lx⟩:=Dv (lB nD e) hP;have pJ:=sz.pJ;have f4:=sz.f4;have bF:F≤B2:=ae pJ (by decide +kernel)
 refine ⟨xs,hR.weak bF,Aa hq sz.s1 (by lia) hR.dH fun z=>?_⟩
 have X8:F ^ n+1000≤W1:=ae (fR _ (by decide)) (sz.b1 z).1
 obtain ⟨D',f',R'⟩:=Eh (X:=F ^ n+1000) hq hR (by lia) (by lia) sz.n1 (fun _=>oy ..) (Nat.le_add_left ..)
 exact ⟨D',f',R'.weak X8 X8 (aN _)⟩
theorem Kl{F:Nat}{i:Int}{v:V}(h:aZ B H q v (cf q i).1 (cf q i).2)(b:i.natAbs≤F)(f1:1≤F):aZ F H q v (cf q i).1 (cf q i).2:=by
 generalize hp:cf q i=p at h ⊢;obtain ⟨x,m⟩:=p;cases h with
 | bR e l bx bm=>unfold cf at hp;rw [ar rfl] at hp;cases hp;exact .bR e l b f1
 | rem h0 h1 h2=>exact .rem h0 h1 h2
theorem Km(hq:ax q)(n1:1≤n)(lh:dC (n+n) h)(lg:∀t,n≤t→q∣g t)(m:Mo q n h g)(t:Nat):Cg q (wr n h t) (g t):=
 ((xk hq (by rw [oB];exact lh)).trans hq m).uniq hq n1 (fun t ht=>by rw [xj n h t ht];exact dw q) lg t
variable {rs:aJ}
theorem jL.unit(hq:ax q)(n1:1≤n)(B:jL q n ps rs X F M)(w:fe q n ps D f):eX q n (cv f F) (D*M)=eX q n (dl 1) 1:=by
 refine S3 hq (w.ok.mul B.cj.ok) aX.one fun t ht=>?_;rw [kU];refine (Km hq n1 (gJ w.low B.cj.low) (fun t ht=>?_) (B.back D f w) t).trans (Cg.of_eq ?_)
 ·rw [xi _ t (by lia)]
  exact dw q
 ·have z:wr n (dl 1) t=dl 1 t:=by unfold wr;rw [ar ht,xi 1 (t+n) (by lia),oz]
  rw [z];unfold dl
  split
  ·rw [fO]
  ·rw [cF]
theorem jL.D8{S:Int}(hq:ax q)(n1:1≤n)(B:jL q n ps rs X F M)(w:fe q n ps D f)(ws:fe q n ss S s)(l:ss.length=n)(cs:∀p∈ss,Canon q p):eX q n (cv F (wr n (cv f s))) (M*(D*S))=ss:=by
 refine Kg hq (B.cj.ok.mul (w.ok.mul ws.ok)) ws.ok l cs ws.w fun t ht=>?_;have m:=Mo.D8 hq B.cj.low ws.low (B.back D f w) (xk hq (h:=cv f s) (by rw [oB];exact gJ w.low ws.low))
 have e:=(Km hq n1 (gJ B.cj.low (xj n _)) (fun t ht=>by rw [ws.low t ht,cF];exact dw q) m t).mulL S
 exact e.trans (Cg.of_eq (by grind))
variable {D1 D2:Int} {lJ lK:aJ} {f1 f2:Nat→Int}
theorem jL.both{M1 M2:Int}{X1 X2:Nat}{Ab Ac:aJ}{F1 F2:Nat→Int}(hq:ax q)(n1:1≤n)(B1:jL q n lJ Ab X1 F1 M1)(B2:jL q n lK Ac X2 F2 M2)(B:jL q n ps rs X F M)(w1:fe q n lJ D1 f1)(w2:fe q n lK D2 f2)(w:fe q n ps (D1*D2) (wr n (cv f1 f2)))(cr:∀p∈rs,Canon q p):eX q n (cv F1 F2) (M1*M2)=rs:=by
 refine Kg hq (B1.cj.ok.mul B2.cj.ok) B.cj.ok B.len cr B.cj.w fun t ht=>?_;have m:=Mo.Sy hq w2.low w.low B1.cj.low B2.cj.low B.cj.low (xk hq (h:=cv f1 f2) (by rw [oB];exact gJ w1.low w2.low)) (B1.back _ _ w1) (B2.back _ _ w2) (B.back _ _ w) (w.ok.nz hq)
 have e:=(xk hq (h:=cv F1 F2) (by rw [oB];exact gJ B1.cj.low B2.cj.low)).mul M
 have r:=(e.trans hq m.symm).uniq hq n1 (fun t ht=>by rw [xj n _ t ht,cF];exact dw q) (fun t ht=>by rw [B.cj.low t ht,cF];exact dw q) t
 exact r
theorem Ta{ps:aJ}(hq:ax q)(w1:fe q n lJ D1 f1)(w2:fe q n lK D2 f2):Inv q n (wr n (cv f1 f2))↔Inv q n f1∧Inv q n f2:=
 Inv.both hq w1.low w2.low (xk hq (by rw [oB];exact gJ w1.low w2.low))
def Kn(C:Addr):Sp:=fun vs H Q _=>∃(td z a b:Addr) (q S:Int) (m n W X:Nat) (ps ss:aJ) (s:Nat→Int),vs=[.ref td,.ref z,.ref a,.ref b,.int (m:Int)]∧dB H td q∧df C H z q∧ax q∧aD B2 H q a ps∧aD B2 H q b ss∧jd q n W ps∧W*(Zt q n W 1*W)≤10 ^ 220∧ss.length=n∧RowW q ss S s X X n∧1000≤X∧X≤10 ^ 25∧m≤5∧∀H',ai H H'→Q (.bl true) H'
def Ad(H:Hp)(q:Int)(n:Nat)(ps:aJ)(X:Nat)(v:V):Prop:=
 (v=.aV∧∀D f,fe q n ps D f→¬Inv q n f)∨∃(c:Addr) (rs:aJ) (F:Nat→Int) (M:Int),v=.ref c∧aD B2 H q c rs∧jL q n ps rs X F M
theorem Ad.mono{v:V}(h:Ad H q n ps X v)(s:ai H H'):Ad H' q n ps X v:=by
 rcases h with h | ⟨c,rs,F,M,h1,h2,h3⟩;·exact .inl h
 ·exact .inr ⟨c,rs,F,M,h1,h2.mono s,h3⟩
theorem Ej{C:Addr}{vs:List V}{Q:VK}{E:XK}(h:∃(z a:Addr) (q:Int) (n W:Nat) (ps:aJ),vs=[.ref z,.ref a]∧df C H z q∧ax q∧aD (10 ^ 290) H q a ps∧jd q n W ps∧∀(v:V) (H':Hp),ai H H'→Ad H' q n ps (Zt q n W 1*W) v→Q v H'):Ka C vs H Q E:=by obtain ⟨z,a,q,n,W,ps,h1,h2,h3,h4,h5,k⟩:=h;exact ⟨z,a,q,n,W,ps,h1,h2,h3,h4,h5,fun H' s neg=>k _ H' s (.inl ⟨rfl,neg⟩),fun c rs F M H' s nc hC BD=>k _ H' s (.inr ⟨c,rs,F,M,rfl,hC,BD⟩)⟩
end My
set_option maxRecDepth 100000
set_option maxHeartbeats 4000000
namespace My
open PySem L2
def top(i:Nat):Stmt:=PySem.Challenge.pw_bandwright_k63_backs_of_turned_rows.main.body.getD i (.Pass ⟨0,0,0,0⟩)
abbrev Ae:Stmt:=top 7
abbrev Af:Stmt:=top 8
abbrev Ag:Stmt:=top 9
abbrev Ah:Stmt:=top 10
abbrev Ai:Stmt:=top 11
abbrev Aj:Stmt:=top 12
abbrev Ak:Stmt:=top 13
abbrev Al:Stmt:=top 15
abbrev Am:Stmt:=top 16
abbrev An:Stmt:=top 17
abbrev Ao:Stmt:=top 18
abbrev Ap:Stmt:=top 19
abbrev Aq:Stmt:=top 20
abbrev Ar:Stmt:=top 23
abbrev As:Stmt:=top 25
abbrev Au:Stmt:=top 26
abbrev Av:Stmt:=top 27
abbrev Aw:Stmt:=top 28
abbrev Ax:Stmt:=top 32
abbrev Ay:Stmt:=top 34
abbrev Az:Stmt:=top 35
abbrev AA:Stmt:=top 37
abbrev AB:Stmt:=top 40
abbrev AD:Stmt:=top 42
abbrev AE:Stmt:=top 43
abbrev AF:Stmt:=top 46
abbrev AG:Stmt:=top 47
abbrev AH:Stmt:=top 50
abbrev AI:Stmt:=top 51
abbrev AJ:Stmt:=top 52
abbrev AK:Stmt:=top 53
abbrev AL:Stmt:=top 54
abbrev AM:Stmt:=top 55
abbrev AN:Stmt:=top 56
abbrev AO:Stmt:=top 57
abbrev AQ:Stmt:=top 58
abbrev AR:Stmt:=top 59
abbrev AS:Stmt:=top 60
abbrev AU:Stmt:=top 61
abbrev AV:Stmt:=top 62
abbrev AW:Stmt:=top 63
abbrev AX:Stmt:=top 64
abbrev AY:Stmt:=top 65
abbrev AZ:Stmt:=top 66
abbrev A0:Stmt:=top 67
abbrev A3:Stmt:=inClass (top 48) 0
abbrev jf:Stmt:=inClass (top 48) 3
abbrev A4:Stmt:=inClass (top 48) 8
abbrev A5:Stmt:=inClass (top 48) 9
set_option genInjectivity false in
set_option genSizeOf false in
structure Ek where
 pK:Addr
 tq:FuncData
 pL:Addr
 tx:FuncData
 pM:Addr
 tD:FuncData
 pN:Addr
 tE:FuncData
 pO:Addr
 tF:FuncData
 pP:Addr
 tG:FuncData
 pQ:Addr
 tH:FuncData
 pR:Addr
 tI:FuncData
 pS:Addr
 tJ:FuncData
 pV:Addr
 tK:FuncData
 pW:Addr
 tL:FuncData
 pX:Addr
 tM:FuncData
 pY:Addr
 tO:FuncData
 pZ:Addr
 tP:FuncData
 p9:Addr
 tQ:FuncData
 p_:Addr
 tR:FuncData
 qa:Addr
 tS:FuncData
 qb:Addr
 tV:FuncData
 qc:Addr
 tW:FuncData
 qd:Addr
 tX:FuncData
 qe:Addr
 tY:FuncData
 qf:Addr
 tZ:FuncData
 qg:Addr
 t5:FuncData
 qh:Addr
 t6:FuncData
 qi:Addr
 t7:FuncData
 qj:Addr
 t8:FuncData
 qk:Addr
 t9:FuncData
 ql:Addr
 t_:FuncData
 qm:Addr
 uc:FuncData
 qo:Addr
 ud:FuncData
 qp:Addr
 ue:FuncData
 qr:Addr
 uf:FuncData
 qs:Addr
 ug:FuncData
 qt:Addr
 uh:FuncData
 qu:Addr
 ui:FuncData
 qv:Addr
 uj:FuncData
 qw:Addr
 uk:FuncData
 qx:Addr
 um:FuncData
 qy:Addr
 uo:FuncData
 qz:Addr
 uq:FuncData
 qA:Addr
 ur:FuncData
 qB:Addr
 uu:FuncData
 qC:Addr
 uv:FuncData
 qD:Addr
 uw:FuncData
 nO:Addr
 qE:FuncData
 qF:Addr
 ux:FuncData
 lL:Addr
 xp:FuncData
 qG:Addr
 uy:FuncData
 qH:Addr
 uz:FuncData
 a9:Addr
 qI:Addr
 kB:Addr
 nQ:Addr
abbrev bK (mg:dj) (x:Str) (f:Addr):Prop:=mg x=some (.ref f)
abbrev El (K:aE) (a:Addr):Prop:=PySem.W.excIn K a [.type "ValueError",.type "Exception",.type "BaseException",.type "object"] "ValueError.__new__"=true
structure Txt (K:aE) (mg:dj) (t:Ek):Prop where
 qJ:aH K "whole_trimmed" Ae t.pK t.tq
 Em:Binds K t.tq ["row"] []
 En:bK mg "whole_trimmed" t.pK
 qK:aH K "whole_times" Af t.pL t.tx
 Eo:Binds K t.tx ["one","other"] []
 Ep:bK mg "whole_times" t.pL
 uA:aH K "whole_less" Ag t.pM t.tD
 Ko:Binds K t.tD ["one","other"] []
 Kp:bK mg "whole_less" t.pM
 qL:aH K "whole_parted" Ah t.pN t.tE
 Er:Binds K t.tE ["world","one","other"] []
 Es:bK mg "whole_parted" t.pN
 nR:aH K "power" Ai t.pO t.tF
 A6:Binds K t.tF ["number","times"] []
 A7:bK mg "power" t.pO
 uB:aH K "next_part" Aj t.pP t.tG
 Kq:Binds K t.tG ["world","last","now","by","much","least"] []
 Kr:bK mg "next_part" t.pP
 uC:aH K "whole_common" Ak t.pQ t.tH
 Ks:Binds K t.tH ["world","one","other"] []
 Kt:bK mg "whole_common" t.pQ
 jN:aH K "trimmed" Al t.pR t.tI
 qM:Binds K t.tI ["world","row"] []
 qN:bK mg "trimmed" t.pR
 lM:aH K "padded" Am t.pS t.tJ
 xq:Binds K t.tJ ["world","row","many"] []
 xr:bK mg "padded" t.pS
 jO:aH K "numbers_of" An t.pV t.tK
 qO:Binds K t.tK ["world","wholes","times","bottom"] []
 qP:bK mg "numbers_of" t.pV
 uD:aH K "poly_times" Ao t.pW t.tL
 Ku:Binds K t.tL ["world","one","other"] []
 Kv:bK mg "poly_times" t.pW
 qQ:aH K "parted" Ap t.pX t.tM
 Et:Binds K t.tM ["world","one","other"] []
 Eu:bK mg "parted" t.pX
 qR:aH K "common" Aq t.pY t.tO
 Ew:Binds K t.tO ["world","one","other"] []
 Ex:bK mg "common" t.pY
 uE:aH K "check_aim" Ar t.pZ t.tP
 Kw:Binds K t.tP ["n","aim"] []
 Kx:bK mg "check_aim" t.pZ
 qS:aH K "turned_size" As t.p9 t.tQ
 Ey:Binds K t.tQ ["row"] []
 Ez:bK mg "turned_size" t.p9
 qT:aH K "whole_turn" Au t.p_ t.tR
 EA:Binds K t.tR ["world","n"] []
 EB:bK mg "whole_turn" t.p_
 uF:aH K "turned_undone" Av t.qa t.tS
 Ky:Binds K t.tS ["world","row","aim"] []
 Kz:bK mg "turned_undone" t.qa
 lN:aH K "turned_back" Aw t.qb t.tV
 xt:Binds K t.tV ["world","row"] []
 xu:bK mg "turned_back" t.qb
 uH:aH K "is_whole" Ax t.qc t.tW
 KA:Binds K t.tW ["thing"] []
 KC:bK mg "is_whole" t.qc
 qU:aH K "common_divisor" Ay t.qd t.tX
 EC:Binds K t.tX ["one","other"] []
 ED:bK mg "common_divisor" t.qd
 uI:aH K "is_prime" Az t.qe t.tY
 KD:Binds K t.tY ["number"] []
 KG:bK mg "is_prime" t.qe
 uJ:aH K "ratio" AA t.qf t.tZ
 KH:Binds K t.tZ ["top","bottom"] []
 KI:bK mg "ratio" t.qf
 uK:aH K "one_bottom" AB t.qg t.t5
 KJ:Binds K t.t5 ["row"] []
 KL:bK mg "one_bottom" t.qg
 uN:aH K "remainder_back" AD t.qh t.t6
 KN:Binds K t.t6 ["prime","number"] []
 KO:bK mg "remainder_back" t.qh
 uO:aH K "remainder_over" AE t.qi t.t7
 KP:Binds K t.t7 ["prime","a","b"] []
 KQ:bK mg "remainder_over" t.qi
 uP:aH K "is_fractions" AF t.qj t.t8
 KR:Binds K t.t8 ["told"] []
 KS:bK mg "is_fractions" t.qj
 uQ:aH K "is_wheel" AG t.qk t.t9
 KU:Binds K t.t9 ["told"] []
 KW:bK mg "is_wheel" t.qk
 uR:aH K "_law_e_fill" AH t.ql t.t_
 KY:Binds K t.t_ ["cell","at"] []
 KZ:bK mg "_law_e_fill" t.ql
 d_:aH K "_law_e_next" AI t.qm t.uc
 fT:Binds K t.uc ["pen","many"] []
 fU:bK mg "_law_e_next" t.qm
 kC:aH K "_law_e_low" AJ t.qo t.ud
 uS:Binds K t.ud ["top","bottom"] []
 uT:bK mg "_law_e_low" t.qo
 gK:aH K "_law_e_of" AK t.qp t.ue
 jP:Binds K t.ue ["told","number"] []
 jQ:bK mg "_law_e_of" t.qp
 qV:aH K "_law_e_plus" AL t.qr t.uf
 EE:Binds K t.uf ["told","a","b"] []
 EF:bK mg "_law_e_plus" t.qr
 uU:aH K "_law_e_times" AM t.qs t.ug
 K0:Binds K t.ug ["told","a","b"] []
 K1:bK mg "_law_e_times" t.qs
 uV:aH K "_law_e_is_number" AN t.qt t.uh
 K2:Binds K t.uh ["told","a"] []
 K3:bK mg "_law_e_is_number" t.qt
 uW:aH K "_law_e_is_row" AO t.qu t.ui
 K4:Binds K t.ui ["told","found"] []
 K5:bK mg "_law_e_is_row" t.qu
 uX:aH K "_law_e_world" AQ t.qv t.uj
 K6:Binds K t.uj ["pen"] []
 K7:bK mg "_law_e_world" t.qv
 qW:aH K "_law_e_number" AR t.qw t.uk
 EG:Binds K t.uk ["pen","told","far"] []
 EH:bK mg "_law_e_number" t.qw
 uY:aH K "_law_e_cut" AS t.qx t.um
 K8:Binds K t.um ["told","row"] []
 K9:bK mg "_law_e_cut" t.qx
 nS:aH K "_law_e_product" AU t.qy t.uo
 A8:Binds K t.uo ["told","one","other"] []
 A9:bK mg "_law_e_product" t.qy
 uZ:aH K "_law_e_turn" AV t.qz t.uq
 K_:Binds K t.uq ["told","many"] []
 La:bK mg "_law_e_turn" t.qz
 lO:aH K "_law_e_wrapped" AW t.qA t.ur
 xv:Binds K t.ur ["told","many","row"] []
 xw:bK mg "_law_e_wrapped" t.qA
 qX:aH K "_law_e_turned_row" AX t.qB t.uu
 EI:Binds K t.uu ["pen","told","many"] []
 EJ:bK mg "_law_e_turned_row" t.qB
 kD:aH K "_law_e_turned_to" AY t.qC t.uv
 u5:Binds K t.uv ["told","row","numbers"] []
 u6:bK mg "_law_e_turned_to" t.qC
 u7:aH K "_law_e_back_right" AZ t.qD t.uw
 Lb:Binds K t.uw ["told","world","row","some","turns"] []
 Lc:bK mg "_law_e_back_right" t.qD
 u9:aH K "law" A0 t.nO t.qE
 Tb:Binds K t.qE ["script"] []
 Ld:bK mg "law" t.nO
 xx:eO K "__init__" "World.__init__" A3 t.qF t.ux
 Le:Binds K t.ux ["self","told"] []
 A_:Mk K t.a9 t.qF
 Lg:iA K "of" "World.of" jf 1 t.lL t.xp
 EK:Binds K t.xp ["self","top","bottom"] []
 Ba:∃v,Vals [V.int 1] [v]∧Binds K t.xp ["self","top","bottom"] [v]
 Tc:∀(s:Shared) (us ws:List Value),K.In s.heap→ws.length=1→us.length+1=(["self","top","bottom"]:List Str).length→BindsTo s t.xp ⟨us,[("bottom":Str)].zip ws⟩ ((["self","top","bottom"]:List Str).zip (us++ws))
 qY:Meth K t.a9 "of" t.lL
 xy:eO K "as_wholes" "World.as_wholes" A4 t.qG t.uy
 qZ:Binds K t.uy ["self","row"] []
 lQ:Meth K t.a9 "as_wholes" t.qG
 xA:eO K "evenly" "World.evenly" A5 t.qH t.uz
 q8:Binds K t.uz ["self","row","by"] []
 lR:Meth K t.a9 "evenly" t.qH
 dk:jx K t.a9
 Lh:bK mg "World" t.a9
 kF:oV K t.a9 "prime"
 Li:bK mg "NoWorld" t.qI
 Bb:bK mg "NoOver" t.kB
 EL:bK mg "NoFit" t.nQ
 Te:mg "ValueError"=none
 xB:mg "abs"=none
 Lj:mg "all"=none
 Bc:mg "bool"=none
 EM:mg "enumerate"=none
 xC:mg "int"=none
 jR:mg "isinstance"=none
 ck:mg "len"=none
 nU:mg "list"=none
 EN:mg "max"=none
 Lk:mg "min"=none
 gg:mg "range"=none
 Tf:mg "sum"=none
 Bd:mg "tuple"=none
 Be:mg "zip"=none
 Ll:∃u,mg "GREATEST_PRIME"=some u∧RelV (.int 997) u
 Lm:∃u,mg "LONG"=some u∧RelV (.int 2048) u
 Ln:∃u,mg "MOST"=some u∧RelV (.int 40) u
 Lo:El K t.qI
 Bf:El K t.kB
 EO:El K t.nQ
section
variable {P:Program} {w:World} {K:aE} {mg:dj} {base:Heap} {t:Ek}
theorem Tg:bo ["thing"] ["thing"] (aL Ax):=bI
theorem Th(T:Txt K mg t):aW P w K mg base bQ 1 t.qc t.tW ["thing"] Qa:=by
 have S:=Tg;refine T.uH.cq S (fun _ _ _ _ H _ Q _ hr h=>?_);obtain ⟨v,rfl,ha,k⟩:=h;refine ⟨_,(aw (aR (k6 (bp (ki (K:=K)) rfl T.jR boot_isinstance (aa (pv 0) (aa (j7 (v:=.ty "int") rfl T.xC boot_int rfl) af))) (rR (GO (bp (ki (K:=K)) rfl T.jR boot_isinstance (aa (pv 0) (aa (j7 (v:=.ty "bool") rfl T.Bc boot_bool rfl) af)))))))),?_⟩;obtain ⟨Ty,ty,k1,k2,_⟩:=ha.CZ (K:=K);refine ⟨_,rfl,_,_,_,_,rfl,rfl,ty,k1,_,rfl,bS (fun h1=>?_) (fun h1=>?_)⟩
 ·refine ⟨_,rfl,_,_,_,_,rfl,rfl,ty,k2,_,rfl,?_⟩
  have e:(!sN v)=sM v:=by
   cases h2:sN v with
   | true=>rw [P9 h2];rfl
   | false=>rw [h2,Bool.or_false] at h1;rw [h1];rfl
  show Q (.bl (!sN v)) H;rw [e];exact k
 ·have e:sM v=false:=by
   cases h2:sM v with
   | true=>rw [h2] at h1;exact absurd rfl h1
   | false=>rfl
  rw [e] at k;exact k
theorem Ti:bo ["one","other","left","shorter"] ["one","other"] (aL Ay):=bI
theorem Lp(T:Txt K mg t):aW P w K mg base bQ 1 t.qd t.tX ["one","other"] Qb:=by
 have S:=Ti;obtain ⟨uL,hL,rL⟩:=T.Lm;refine T.qU.cq S (fun _ _ _ _ H _ _ _ hr h=>?_);obtain ⟨a,b,rfl,mb,k⟩:=h
 refine ⟨_,(ak (putL 0 S.nd (bp yP rfl T.xB boot_abs (aa (pv 0) af)))
  (ak (putL 1 S.nd (bp yP rfl T.xB boot_abs (aa (pv 1) af)))
  (ak (mG eo (bw jv (pv 1) ah) (ak (putL 2 S.nd (au eJ (pv 0) (pv 1)))
  (ak (putL 0 S.nd (pv 1))
  (ak (putL 1 S.nd (pv 2))
  (aw (bG (bw jv (O5 PySem.F.plainAttrs_int PySem.F.slot_int_bit_length PySem.F.type_int_bit_length P6 (pv 0)) (Cn (v:=.int 2048) rfl hL rL)) NM b6))))))
  (aw (aR (pv 0)))))),?_⟩
 refine ⟨_,rfl,a,rfl,_,rfl,b,rfl,fun m σ H'=>H'=H∧∃(x y:Nat) (v u:Option V),σ=[some (.int (x:Int)),some (.int (y:Int)),v,u]∧m=y∧y≤b.natAbs∧Nat.gcd x y=Int.gcd a b,⟨b.natAbs,rfl,a.natAbs,b.natAbs,none,none,?_,rfl,aN _,rfl⟩,?_⟩
 ·show [some (V.int (if a<0 then -a else a)),some (V.int (if b<0 then -b else b)),none,none]=_
  rw [y_,y_]
 ·rintro m σ H' ⟨rfl,x,y,v,u,rfl,em,hb,hg⟩
  refine ⟨_,rfl,_,_,rfl,rfl,_,rfl,bS (fun hy=>?_) (fun hy=>?_)⟩
  ·have hy:(0:Int)<y:=di hy
   refine ⟨fun σ' H2=>H2=H'∧σ'=[some (.int (y:Int)),some (.int (((x % y:Nat)):Int)),some (.int (((x % y:Nat)):Int)),u],?_,?_⟩
   ·rintro σ' H2 ⟨rfl,rfl⟩
    exact ⟨x % y,by rw [em];exact Nat.mod_lt _ (by lia),rfl,y,x % y,_,_,rfl,rfl,ae (Nat.le_of_lt (Nat.mod_lt _ (by lia))) hb,by rw [Il];exact hg⟩
   ·have hm:aP (y:Int):=fV (by rw [Int.natAbs_natCast];exact hb) mb
    have hbt:=P8 hm;refine ⟨_,rfl,_,rfl,_,_,rfl,rfl,hy,_,rfl,_,rfl,_,rfl,rfl,_,rfl,rfl,_,_,rfl,rfl,_,rfl,bS (fun hz=>?_) (fun _=>⟨rfl,rfl⟩)⟩;have hz:=di hz;exact absurd hz (by lia)
  ·have hy:¬(0:Int)<y:=fun z=>hy (dE z)
   have y0:y=0:=by lia
   subst y0;rw [Nat.gcd_zero_right] at hg;rw [←hg] at k;exact ⟨_,rfl,k⟩
theorem Tj:bo ["number","divisor"] ["number"] (aL Az):=bI
theorem Tn(T:Txt K mg t):aW P w K mg base bQ 1 t.qe t.tY ["number"] Qc:=by
 have S:=Tj;refine T.uI.cq S (fun _ _ _ _ H _ Q _ hr h=>?_);obtain ⟨n,rfl,To,si,k⟩:=h
 refine ⟨_,(ak (putL 1 S.nd ah)
  (ak (mG eo (bw r6 (au fS (pv 1) (pv 1)) (pv 0)) (ak (bG (bw dO (au eJ (pv 0) (pv 1)) ah) (aw (aR iX)) b6)
  (aw (yJ (i:=1) S.nd rfl (Or.inl rfl) ah GV))))
  (aw (aR (mK CB (pv 0) ah))))),?_⟩
 refine ⟨fun m σ H'=>H'=H∧∃d:Int,σ=[some (.int n),some (.int d)]∧2≤d∧d≤32∧m=(33-d).toNat∧∀e:Int,2≤e→e<d→n % e≠0,⟨_,rfl,2,rfl,by lia,by lia,rfl,fun e a b=>by lia⟩,?_⟩
 rintro m σ H' ⟨rfl,d,rfl,h1,h2,rfl,h3⟩;refine ⟨_,rfl,_,rfl,_,_,rfl,rfl,.inl ⟨by lia,by lia⟩,_,rfl,_,_,rfl,rfl,_,rfl,bS (fun hq=>?_) (fun hq=>?_)⟩
 ·have hq:=di hq
  have hd:d<32:=by
   by_cases z:d<32;·exact z
   ·have:d=32:=by lia
    subst this;lia
  refine ⟨fun σ' H2=>H2=H'∧σ'=[some (.int n),some (.int (d+1))]∧n % d≠0,?_,?_⟩
  ·rintro σ' H2 ⟨rfl,rfl,hm⟩
   refine ⟨(33-(d+1)).toNat,by lia,rfl,d+1,rfl,by lia,by lia,rfl,fun e a b=>?_⟩
   by_cases z:e=d;·subst z;exact hm
   ·exact h3 e a (by lia)
  ·refine ⟨_,rfl,_,rfl,_,_,rfl,rfl,(show (0:Int)<d by lia),rfl,_,rfl,bS (fun hm=>?_) (fun hm=>?_)⟩
   ·have hm:=V.int.inj (di hm)
    rw [Ii si h1 hq hm] at k;exact k
   ·exact ⟨_,rfl,_,_,rfl,rfl,rfl,rfl,fun z=>hm (dE (fN V.int z))⟩
 ·have hq:¬d*d≤n:=fun z=>hq (dE z)
  refine ⟨_,rfl,_,_,rfl,rfl,?_⟩;rw [PZ (n:=n) (d:=d) (by lia) h1 h3] at k
  have e:decide ((2:Int)≤n)=true:=dE To;show Q (.bl (decide ((2:Int)≤n))) H';rw [e];exact k
theorem Tp:bo ["told"] ["told"] (aL AF):=bI
theorem Tq(T:Txt K mg t):aW P w K mg base bQ 1 t.qj t.t8 ["told"] Qd:=by
 have S:=Tp;refine T.uP.cq S (fun _ _ _ _ H _ _ _ hr h=>?_);obtain ⟨p,d,rfl,hp,k⟩:=h;refine ⟨_,(aw (aR (k6 (bp (ki (K:=K)) rfl T.jR boot_isinstance (aa (pv 0) (aa (j7 (v:=.ty "tuple") rfl T.Bd boot_tuple rfl) af))) (k6 (mK dO (bp cn rfl T.ck cm (aa (pv 0) af)) ah) (rR (mK dO (aA a8 (pv 0) ah) eF)))))),?_⟩;refine ⟨_,rfl,_,_,_,true,rfl,rfl,.of (.tup hp),y8,true,rfl,dG ?_⟩;cases d with
 | a x=>refine ⟨_,rfl,p,_,rfl,.inr (.of hp),rfl,true,rfl,dG ?_⟩;refine ⟨_,rfl,p,_,0,.str x,rfl,rfl,.of hp,rfl,rfl,?_⟩;rw [C6];exact k
 | b x n=>exact ⟨_,rfl,p,_,rfl,.inr (.of hp),rfl,false,rfl,cO k⟩
theorem Tr:bo ["told"] ["told"] (aL AG):=bI
theorem Ts(T:Txt K mg t):aW P w K mg base bQ 2 t.qk t.t9 ["told"] Qe:=by
 have S:=Tr;obtain ⟨uG,hG,rG⟩:=T.Ll;refine T.uQ.cq S (fun _ _ _ _ H _ _ _ hr h=>?_);obtain ⟨p,d,rfl,hp,k⟩:=h
 refine ⟨_,(ak (bG (PW.pt (pw_or (rQ (mC (bp (ki (K:=K)) rfl T.jR boot_isinstance (aa (pv 0) (aa (j7 (v:=.ty "tuple") rfl T.Bd boot_tuple rfl) af))))) (pw_or (bw oS (bp cn rfl T.ck cm (aa (pv 0) af)) ah) (pw_or1 (bw oS (aA a8 (pv 0) ah) eF))))) (aw (aR iX)) b6)
  (aw (aR (k6 (aC (Th T) hr T.KC T.uH.kp T.KA ay (aa (aA a8 (pv 0) ah) af)) (k6 (Hn r6 r6 ah (aA a8 (pv 0) ah) (Cn (v:=.int 997) rfl hG rG)) (rR (aC (Tn T) hr T.KG T.uI.kp T.KD ay (aa (aA a8 (pv 0) ah) af)))))))),?_⟩
 refine ⟨_,rfl,_,_,_,true,rfl,rfl,.of (.tup hp),y8,true,rfl,cO ?_⟩;cases d with
 | a x=>exact ⟨_,rfl,p,_,rfl,.inr (.of hp),rfl,true,rfl,dG (dG k)⟩
 | b x n=>
  refine ⟨_,rfl,p,_,rfl,.inr (.of hp),rfl,false,rfl,cO ?_⟩;refine ⟨_,rfl,p,_,0,.str x,rfl,rfl,.of hp,rfl,rfl,_,rfl,bS (fun hw=>?_) (fun hw=>?_)⟩
  ·have hw:¬x="wheel":=by rw [C6] at hw;simpa using hw
   have e:(Td.b x n).i5=false:=by simp [Td.i5,hw]
   rw [e] at k;exact k
  ·have hw:x="wheel":=by rw [C6] at hw;simpa using hw
   refine ⟨_,rfl,p,_,1,.int n,rfl,rfl,.of hp,rfl,.int n,rfl,.int n,true,rfl,dG ?_⟩;refine ⟨_,rfl,p,_,1,.int n,rfl,rfl,.of hp,rfl,_,_,rfl,rfl,_,rfl,?_⟩;refine bS (fun h2=>?_) (fun h2=>?_)
   ·have h2:=di h2
    refine ⟨_,_,rfl,rfl,_,rfl,bS (fun h3=>?_) (fun h3=>?_)⟩
    ·have h3:=di h3
     refine ⟨_,rfl,p,_,1,.int n,rfl,rfl,.of hp,rfl,n,rfl,h2,h3,?_⟩;have e:(Td.b x n).i5=jB n:=by simp [Td.i5,hw,h2,h3]
     rw [e] at k;exact k
    ·have h3:¬n≤997:=fun z=>h3 (dE z)
     have e:(Td.b x n).i5=false:=by simp [Td.i5,h3]
     rw [e] at k;exact k
   ·have h2:¬2≤n:=fun z=>h2 (dE z)
    have e:(Td.b x n).i5=false:=by simp [Td.i5,h2]
    rw [e] at k;exact ⟨false,rfl,cO k⟩
theorem Tu:bo ["self","told"] ["self","told"] (aL A3):=bI
theorem Tv(T:Txt K mg t):aW P w K mg base (dP P w) 3 t.qF t.ux ["self","told"] (Qf t.a9 t.qI):=by
 have S:=Tu;refine T.xx.fE S (fun _ _ _ _ H _ _ _ hr h L=>?_);obtain ⟨x,dx,p,d,rfl,hx,hp,k1,k2⟩:=h;refine ⟨_,(aw (bG (mC (aC (Tq T) hr T.KS T.uP.kp T.KR ay (aa (pv 1) af))) (aw (Hv (pv 0) jq rfl)) (aw (bG (mC (aC (Ts T) hr T.KW T.uQ.kp T.KU ay (aa (pv 1) af))) (aw (Hv (pv 0) (aA a8 (pv 1) ah) rfl)) (aw (sL L rfl rO T.Lo rfl T.Li (aa eF af))))))),?_⟩;refine ⟨_,rfl,p,d,rfl,hp,_,rfl,bS (fun hF=>?_) (fun hF=>?_)⟩
 ·refine ⟨_,rfl,x,t.a9,dx,[],rfl,hx,T.dk,T.kF,(by show 0<1000;decide),?_⟩
  have e:d.prime=.aV:=by
   cases d with
   | a x=>rfl
   | b x n=>cases hF
  have k:=k1 (by unfold Td.good;rw [hF];rfl)
  rw [e] at k;exact k
 ·have hF:d.wm=false:=by simpa using hF
  refine ⟨_,rfl,p,d,rfl,hp,_,rfl,bS (fun hW=>?_) (fun hW=>?_)⟩
  ·have k:=k1 (by unfold Td.good;rw [hW,Bool.or_true])
   cases d with
   | a x=>cases hW
   | b y n=>exact ⟨_,rfl,p,_,1,.int n,rfl,rfl,.of hp,rfl,_,rfl,x,t.a9,dx,[],rfl,hx,T.dk,T.kF,(by show 0<1000;decide),k⟩
  ·have hW:d.i5=false:=by simpa using hW
   exact ⟨by show 1≤sizeLine;decide,k2 (by unfold Td.good;rw [hF,hW];rfl)⟩
theorem Tw:bo ["top","bottom","shared"] ["top","bottom"] (aL AA):=bI
theorem Tx(T:Txt K mg t):aW P w K mg base (dP P w) 2 t.qf t.tZ ["top","bottom"] (Qp t.kB):=by
 have S:=Tw;refine T.uJ.fE S (fun _ _ _ _ H _ _ _ hr h L=>?_);obtain ⟨a,b,rfl,mb,kE,k⟩:=h
 refine ⟨_,(ak (bG (bw dO (pv 1) ah) (aw (sL L rfl rO T.Bf rfl T.Bb (aa eF af))) b6)
  (eE.oK (ak (putL 2 S.nd (aC (Lp T) hr T.ED T.qU.kp T.EC ay (aa (pv 0) (aa (pv 1) af))))
  (ak (bG (bw ke (pv 1) ah) (aw (putL 2 S.nd (jt ju (pv 2)))) b6)
  (aw (aR (fA (aa (au wF (pv 0) (pv 2)) (aa (au wF (pv 1) (pv 2)) af))))))))),?_⟩
 have n2:2≤sizeLine:=by decide
 refine ⟨_,rfl,rfl,_,rfl,bS (fun hz=>?_) (fun hz=>?_)⟩
 ·have hz:b=0:=V.int.inj (di hz)
  exact ⟨by show 1≤sizeLine;decide,kE hz⟩
 have hz:b≠0:=fun z=>hz (dE (by rw [z]))
 have ok:=Im (a:=a) hz mb;have kk:=k hz;unfold fH fI at kk;refine ⟨_,rfl,_,rfl,a,b,rfl,mb,_,rfl,_,_,rfl,rfl,_,rfl,bS (fun hn=>?_) (fun hn=>?_)⟩
 ·have hn:b<0:=di hn
  have e:lowG a b=-(Int.gcd a b:Int):=by unfold lowG;rw [ar hn,rF]
  rw [e] at ok kk;refine ⟨_,rfl,_,rfl,_,rfl,_,rfl,_,_,rfl,rfl,ok,_,rfl,_,rfl,_,_,rfl,rfl,ok,n2,fun r hr=>kk r _ (aB hr) av⟩
 ·have hn:¬b<0:=fun z=>hn (dE z)
  have e:lowG a b=(Int.gcd a b:Int):=by unfold lowG;rw [ao hn]
  rw [e] at ok kk;refine ⟨_,rfl,_,rfl,_,_,rfl,rfl,ok,_,rfl,_,rfl,_,_,rfl,rfl,ok,n2,fun r hr=>kk r _ (aB hr) av⟩
theorem Tz:bo ["prime","number","last","last_times","now","now_times","fits","left","left_times"] ["prime","number"] (aL AD):=bI
theorem TB(T:Txt K mg t):aW P w K mg base (dP P w) 1 t.qh t.t6 ["prime","number"] (Qk t.kB):=by
 have S:=Tz;refine T.uN.fE S (fun _ _ _ _ H _ _ _ hr h L=>?_);obtain ⟨q,b,rfl,q1,q2,q3,b0,b1,kE,k⟩:=h
 refine ⟨_,(ak (bG (bw dO (pv 1) ah) (aw (sL L rfl rO T.Bf rfl T.Bb (aa eF af))) b6)
  (eE.oK (ak (putL 2 S.nd (pv 0))
  (ak (putL 3 S.nd ah)
  (ak (putL 4 S.nd (pv 1))
  (ak (putL 5 S.nd ah)
  (ak (mG eo (bw jv (pv 4) ah) (ak (putL 6 S.nd (au Oe (pv 2) (pv 4)))
  (ak (putL 7 S.nd (au d8 (pv 2) (au fS (pv 6) (pv 4))))
  (ak (putL 8 S.nd (au d8 (pv 3) (au fS (pv 6) (pv 5))))
  (ak (putL 2 S.nd (pv 4))
  (ak (putL 3 S.nd (pv 5))
  (ak (putL 4 S.nd (pv 7))
  (aw (putL 5 S.nd (pv 8))))))))))
  (aw (aR (au eJ (pv 5) (pv 0))))))))))),?_⟩
 refine ⟨_,rfl,rfl,_,rfl,bS (fun hz=>?_) (fun hz=>?_)⟩
 ·have hz:b=0:=V.int.inj (di hz)
  exact ⟨by show 1≤sizeLine;decide,kE hz⟩
 have hz:b≠0:=fun z=>hz (dE (by rw [z]))
 refine ⟨_,rfl,_,rfl,fun m σ H'=>H'=H∧∃(l lt n nt:Int) (v1 v2 v3:Option V),σ=[some (.int q),some (.int b),some (.int l),some (.int lt),some (.int n),some (.int nt),v1,v2,v3]∧m=n.toNat∧lq q b l lt n nt∧l≤997,
  ⟨b.toNat,rfl,q,0,b,1,none,none,none,rfl,rfl,lq.start q1 q2 q3 (by lia) b1,q2⟩,?_⟩
 rintro m σ H' ⟨rfl,l,lt,n,nt,v1,v2,v3,rfl,em,hb,hl⟩;have p1:=hb.pos;have p2:=hb.less;refine ⟨_,rfl,_,_,rfl,rfl,_,rfl,bS (fun hy=>?_) (fun hy=>?_)⟩
 ·have hy:1<n:=di hy
  have hs:=hb.step hy;have f0:0≤l / n:=vP (by lia) (by lia)
  have f1:l / n≤l:=Int.ediv_le_self _ (by lia)
  refine ⟨fun σ' H2=>H2=H'∧σ'=[some (.int q),some (.int b),some (.int n),some (.int nt),some (.int (l-l / n*n)),some (.int (lt-l / n*nt)),some (.int (l / n)),some (.int (l-l / n*n)),some (.int (lt-l / n*nt))],?_,?_⟩
  ·rintro σ' H2 ⟨rfl,rfl⟩
   exact ⟨(l-l / n*n).toNat,by rw [em];lia,rfl,_,_,_,_,_,_,_,rfl,rfl,hs.1,by lia⟩
  ·exact ⟨_,rfl,_,rfl,_,_,rfl,rfl,⟨by lia,by lia⟩,_,rfl,_,rfl,_,rfl,_,_,rfl,rfl,.inr ⟨by lia,by lia⟩,_,_,rfl,rfl,
    _,rfl,_,rfl,_,rfl,_,_,rfl,rfl,.inl ⟨by lia,by lia⟩,_,_,rfl,rfl,_,rfl,_,rfl,_,rfl,_,rfl,rfl,rfl⟩
 ·have hy:¬1<n:=fun z=>hy (dE z)
  have n1:n=1:=by lia
  subst n1;exact ⟨_,rfl,_,rfl,_,_,rfl,rfl,(show (0:Int)<q by lia),k hz _ (du _ (by lia)) (dJ _ (by lia)) (hb.done q1)⟩
theorem TC:bo ["prime","a","b"] ["prime","a","b"] (aL AE):=bI
theorem TF(T:Txt K mg t):aW P w K mg base (dP P w) 2 t.qi t.t7 ["prime","a","b"] (Ql t.kB):=by
 have S:=TC;refine T.uO.fE S (fun _ _ _ _ H _ _ _ hr h L=>?_);obtain ⟨q,i,j,rfl,q1,q2,q3,i0,i1,j0,j1,kE,k⟩:=h;refine ⟨_,(aw (aR (au eJ (au fS (pv 1) (aC (TB T) hr T.KO T.uN.kp T.KN (mP L) (aa (pv 0) (aa (pv 2) af)))) (pv 0)))),?_⟩
 exact ⟨_,rfl,_,rfl,_,rfl,q,j,rfl,q1,q2,q3,j0,j1,kE,fun hj r r0 r1 gL=>⟨_,_,rfl,rfl,.inl ⟨by lia,by lia⟩,_,rfl,_,_,rfl,rfl,(show (0:Int)<q by lia),
  k hj _ (du _ (by lia)) (dJ _ (by lia)) (Qm q1 i0 i1 gL)⟩⟩
theorem TH:bo ["self","top","bottom"] ["self","top","bottom"] (aL jf):=bI
theorem xD(T:Txt K mg t):aW P w K mg base (dP P w) 3 t.lL t.xp ["self","top","bottom"] (Qq t.a9 t.kB):=by
 have S:=TH;refine T.Lg.CY S (fun vs H Q E h=>?_) (fun aU A outer s H vs Q E hr h L=>?_)
 ·obtain ⟨z,q,a,b,rfl,_⟩:=h
  rfl
 ·obtain ⟨z,q,a,b,rfl,⟨dx,hx⟩,hq,mb,kE,k⟩:=h
  refine ⟨_,(ak (bG (bw r9 (oW (pv 0) rfl) jq) (aw (aR (aC (Tx T) hr T.KI T.uJ.kp T.KH (mP L) (aa (pv 1) (aa (pv 2) af))))) b6)
   (aw (aR (aC (TF T) hr T.KQ T.uO.kp T.KP (mP L) (aa (oW (pv 0) rfl) (aa (au eJ (pv 1) (oW (pv 0) rfl)) (aa (au eJ (pv 2) (oW (pv 0) rfl)) af))))))),?_⟩
  refine ⟨_,rfl,z,t.a9,dx,_,_,rfl,hx,T.dk,T.kF,o_ _,rfl,_,rfl,?_⟩;rcases hq with rfl | ⟨q2,q3,q4⟩
  ·rw [ar rfl]
   refine dG ⟨_,rfl,_,rfl,a,b,rfl,mb,fun hb=>kE (by unfold kl;rw [ar rfl];exact hb),fun hb r H' s' er=>k (fun hn=>hb (by unfold kl at hn;rw [ar rfl] at hn;exact hn)) _ H' s' (.inl ⟨rfl,r,rfl,er⟩)⟩
  ·have hq:q≠0:=by lia
   rw [ao hq] at hx ⊢;have p0:(0:Int)<q:=by lia
   refine cO ⟨_,rfl,z,t.a9,dx,_,_,rfl,hx,T.dk,T.kF,o_ _,_,rfl,_,rfl,z,t.a9,dx,_,_,rfl,hx,T.dk,T.kF,o_ _,_,_,rfl,rfl,p0,_,rfl,_,rfl,z,t.a9,dx,_,_,rfl,hx,T.dk,T.kF,o_ _,_,_,rfl,rfl,p0,?_⟩;have nv:kl q b↔b % q=0:=by unfold kl;rw [ao hq]
   exact ⟨q,a % q,b % q,rfl,q2,q3,q4,du _ hq,dJ _ p0,du _ hq,dJ _ p0,fun hj=>kE (nv.mpr hj),fun hj r r0 r1 gL=>k (fun z=>hj (nv.mp z)) _ H (ai.refl H) (.inr ⟨q2,r,rfl,r0,r1,gL⟩)⟩
theorem TJ:bo ["row","bottom","number"] ["row"] (aL AB):=bI
theorem TK(T:Txt K mg t):aW P w K mg base bQ 2 t.qg t.t5 ["row"] Sj:=by
 have S:=TJ;refine T.uK.cq S (fun _ _ _ _ H vs _ _ hr h=>?_);obtain ⟨a,ps,B,D,rfl,⟨vs,ea,hl,hn⟩,Lq,cZ,hD,hB,bD,k⟩:=h
 refine ⟨_,(ak (mX 1 S.nd ah)
  (ak (iY eo rfl (j9 (pv 0)) (e_ (i:=2) S.nd rfl (Or.inl rfl))
   (aw (mX 1 S.nd (au fF (au C4 (pv 1) (aC (Lp T) hr T.ED T.qU.kp T.EC ay (aa (pv 1) (aa (aA a8 (pv 2) ah) af)))) (aA a8 (pv 2) ah)))))
  (aw (aR (fA (aa (kj (N:=["number","bottom"]) (ρ:=(fun σ=>[σ[1]?.join])) (gD [1] rfl) rfl (j9 (pv 0)) (fun _ _ _=>.nil) (fun _ _ _=>(au fF (aA (zq (K:=K)) (pv 0) ah) (au C4 (pv 1) (aA (zq (K:=K)) (pv 0) ah))))) (aa (pv 1) af))))))),?_⟩
 have D1:=cZ.1 rfl;have parts:∀(i:Nat) (v:V),vs[i]?=some v→∃(r:Addr) (x m:Int),v=.ref r∧H r=some (.tup [.int x,.int m])∧ps[i]?=some (x,m)∧iz x m∧x.natAbs≤B∧m∣D:=fun i v e=>by
  have hi:i<ps.length:=by rw [←hl];exact (cU.mp e).1
  have ep:ps[i]?=some ps[i]:=by simp [hi]
  have h1:=hn i v ps[i] e ep;have h2:=hD _ (gj hi);generalize ps[i]=p at h1 ep h2;obtain ⟨x,m⟩:=p;cases h1 with
  | bR er l bx bm=>exact ⟨_,x,m,rfl,er,ep,l,bx,h2⟩
  | rem h0 h1 h2=>lia
 have u_:∀{y:Int},y∣D→aP y:=fun h=>JV (ae (i_ h (by lia)) bD)
 refine ⟨_,rfl,a,rfl,⟨_,.of ea⟩,?_⟩
 refine GZ (K:=K) (a:=a) (xs:=vs) (fun i σ Hc=>Hc=H∧∃(b:Int) (v2:Option V),σ=[some (.ref a),some (.int b),v2]∧1≤b∧b∣D∧∀(j:Nat) (p:Int×Int),j<i→ps[j]?=some p→p.2∣b)
  ⟨rfl,1,none,rfl,by decide,Int.one_dvd D,fun j p hj=>by lia⟩ (fun i σ Hc _ ⟨z,_⟩=>by rw [z];exact .of ea) ?_ ?_
 ·rintro i v σ Hc hi ⟨rfl,b,v2,rfl,b1,bb,hd⟩
  obtain ⟨r,x,m,rfl,er,ep,l,bx,bm⟩:=parts i v hi;have m1:=l.pos;obtain ⟨s1,s2,s3,s4⟩:=QJ b1 m1;have gp:=pb (a:=b) (b:=m) (by lia)
  have gm:aP (Int.gcd b m:Int):=u_ (jj (ox ..) bm);refine ⟨_,rfl,_,rfl,_,rfl,r,_,_,_,rfl,rfl,.of er,rfl,b,m,rfl,u_ bm,_,_,rfl,rfl,⟨by lia,gm⟩,_,rfl,r,_,_,_,rfl,rfl,.of er,rfl,_,_,rfl,rfl,⟨?_,u_ bm⟩,?_⟩
  ·exact fV (md ..) (u_ bb)
  ·refine ⟨rfl,_,_,rfl,s1,lcm_dvd b1 m1 bb bm,fun j p hj hp=>?_⟩
   by_cases z:j=i
   ·subst z
    rw [ep] at hp;cases hp;exact s2
   ·exact jj (hd j p (by lia) hp) s3
 ·rintro σ Hc ⟨rfl,b,v2,rfl,b1,bb,hd⟩
  rw [hl] at hd;have mb:aP b:=u_ bb;dsimp only;refine wK (QI (pk (xs:=vs) (fun R h=>⟨_,rfl,a,rfl,⟨_,.of ea⟩,h _ _ (ai.refl _) (m8 (.of ea))⟩) (by rw [hl];exact jA (by lia)) (fun _ i y _=>∃(p:Int×Int),ps[i]?=some p∧y=.int (p.1*(b / p.2))) (fun _ _ _ _ _ _ h _ _=>h) ?_ ?_))
  ·intro D' i v hi Hd R sd _ kd
   obtain ⟨r,x,m,rfl,er,ep,l,bx,bm⟩:=parts i v hi;have m1:=l.pos;have TL:aP (b / m):=fV (md ..) mb;exact ⟨_,rfl,r,_,_,_,rfl,rfl,.of (sd _ _ er),rfl,_,rfl,_,rfl,r,_,_,_,rfl,rfl,.of (sd _ _ er),rfl,_,_,rfl,rfl,⟨by lia,u_ bm⟩,_,_,rfl,rfl,⟨JV (ae bx hB),TL⟩,kd _ Hd (ai.refl _) ⟨(x,m),ep,rfl⟩⟩
  ·intro D' ys Hd nD sd Bg hP eD
   have ey:ys=(ps.map fun p=>p.1*(b / p.2)).map V.int:=zr (by rw [Bg,hl,aT]) fun i v e=>by obtain ⟨p,e1,e2⟩:=hP i v e;exact ⟨p.1*(b / p.2),by rw [fP,e1];rfl,e2⟩
   refine ⟨_,rfl,by show 2≤sizeLine;decide,fun r gL=>?_⟩
   refine k _ _ (ps.map fun p=>p.1*(b / p.2)) b (sd.trans (aB gL)) ⟨r,D',rfl,av,aB gL _ _ (by rw [eD,ey]),nD⟩ ⟨by rw [aT],⟨fun _=>b1,fun z=>absurd rfl z⟩,bb,fun i hi=>?_⟩
   have ER:i<vs.length:=by lia
   have e1:(ps.map fun p=>p.1*(b / p.2)).getD i 0=ps[i].1*(b / ps[i].2):=by rw [getD_at (by rw [aT];exact hi),jn]
   rw [e1,getD_at hi];obtain ⟨r',x,m,_,_,ep,l,bx,bm⟩:=parts i vs[i] (by simp [ER])
   have nV:ps[i]=(x,m):=by
    rw [show ps[i]?=some ps[i] by simp [hi]] at ep
    exact Option.some.inj ep
   rw [nV];dsimp only;have m1:=l.pos;obtain ⟨c,ec⟩:=hd i (x,m) hi (by rw [←nV];simp [hi])
   dsimp only at ec;have eq:b / m=c:=by rw [ec];exact me _ (by lia)
   refine ⟨by rw [eq,ec];grind,?_⟩
   rw [a7];exact bE bx (ae (md ..) (i_ bb (by lia)))
theorem TM:bo ["self","row"] ["self","row"] (aL A4):=bI
theorem ES(T:Txt K mg t):aW P w K mg base bQ 3 t.qG t.uy ["self","row"] (Sk t.a9):=by
 have S:=TM;refine T.xy.cq S (fun _ _ _ _ H vs _ _ hr h=>?_);obtain ⟨z,a,q,ps,B,D,rfl,⟨dx,hx⟩,hq,Lr,Lq,cZ,hD,hB,b1,bD,k⟩:=h
 refine ⟨_,(ak (bG (bw r9 (oW (pv 0) rfl) jq) (aw (aR (aC (TK T) hr T.KL T.uK.kp T.KJ ay (aa (pv 1) af)))) b6)
  (aw (aR (fA (aa (o5 sE rfl T.nU boot_list (aa (pv 1) af)) (aa ah af)))))),?_⟩
 refine ⟨_,rfl,z,t.a9,dx,_,_,rfl,hx,T.dk,T.kF,o_ _,rfl,_,rfl,?_⟩;rcases hq with rfl | ⟨q2,q3,q4⟩
 ·rw [ar rfl]
  exact dG ⟨_,rfl,a,ps,B,D,rfl,Lr,Lq,cZ,hD,hB,bD,k⟩
 ·have hq:q≠0:=by lia
  rw [ao hq] at hx ⊢;obtain ⟨vs,ea,hl,hn⟩:=Lr;have parts:∀(i:Nat) (v:V),vs[i]?=some v→∃x:Int,v=.int x∧ps[i]?=some (x,1)∧0≤x∧x<q:=fun i v e=>by
   have hi:i<ps.length:=by rw [←hl];exact (cU.mp e).1
   have ep:ps[i]?=some ps[i]:=by simp [hi]
   have h1:=hn i v ps[i] e ep;generalize ps[i]=p at h1 ep;obtain ⟨x,m⟩:=p;cases h1 with
   | bR er l bx bm=>exact absurd rfl hq
   | rem h0 h1 h2=>exact ⟨x,rfl,ep,h0,h1⟩
  have ey:vs=(ps.map fun p=>p.1).map V.int:=zr (by rw [hl,aT]) fun i v e=>by obtain ⟨x,e1,e2,_⟩:=parts i v e;exact ⟨x,by rw [fP,e2];rfl,e1⟩
  have eD:=cZ.2 hq;refine cO ⟨_,rfl,a,vs,rfl,.inl (.of ea),fun l nl=>⟨by show 2≤sizeLine;decide,fun r gL=>?_⟩⟩
  refine k _ _ (ps.map fun p=>p.1) 1 ((aB nl).trans (aB gL)) ⟨r,l,rfl,av,aB gL _ _ (by rw [av,ey]),nl⟩ ⟨by rw [aT],aX.one,Int.one_dvd D,fun i hi=>?_⟩
  have ER:i<vs.length:=by lia
  rw [getD_at (by rw [aT];exact hi),jn,getD_at hi]
  obtain ⟨x,_,ep,x0,x1⟩:=parts i vs[i] (by simp [ER])
  have nV:ps[i]=(x,1):=by
   rw [show ps[i]?=some ps[i] by simp [hi]] at ep
   exact Option.some.inj ep
  rw [nV];refine ⟨rfl,?_⟩;rw [eD];show x.natAbs≤B*1;lia
theorem TN:bo ["world","row","many"] ["world","row"] (aL Al):=bI
theorem va(T:Txt K mg t):aW P w K mg base bQ 4 t.pR t.tI ["world","row"] (Q8 t.a9):=by
 have S:=TN;have kG:=xD (P:=P) (w:=w) (base:=base) T;obtain ⟨dv,lT,vb⟩:=T.Ba;refine T.jN.cq S (fun _ _ _ _ H vs _ _ hr h=>?_);obtain ⟨z,a,q,ps,B,rfl,hz,hq,hR,ET,k⟩:=h;have hu:=hr.wc
 refine ⟨_,(ak (putL 2 S.nd (bp cn rfl T.ck cm (aa (pv 1) af)))
  (ak (mG eo (PW.pt (pw_and (bw jv (pv 2) ah) (pw_and1 (bw (Iu hu) (aA bP (pv 1) (au d8 (pv 2) ah)) (fB (pv 0) T.dk T.qY kG (hr.mono (by decide)) vb lT i4 (aa ah af)))))) (aw (yJ (i:=2) S.nd rfl (Or.inl rfl) ah GW)))
  (aw (aR (su sC (pv 1) so (sq (pv 2))))))),?_⟩
 obtain ⟨vs,ea,hl,hn⟩:=id hR;refine ⟨_,rfl,a,vs,rfl,.inl (.of ea),?_⟩;refine ⟨fun c σ Hc=>ai H Hc∧c≤ps.length∧dh ps c=dh ps ps.length∧σ=[some (.ref z),some (.ref a),some (.int (c:Int))],⟨ps.length,ai.refl H,aN _,rfl,by rw [←hl];rfl⟩,?_⟩
 rintro c σ Hc ⟨sc,hc,q_,rfl⟩;refine ⟨_,rfl,_,_,rfl,rfl,_,rfl,bS (fun h0=>?_) (fun h0=>?_)⟩
 ·have h0:(0:Int)<(c:Int):=di h0
  obtain ⟨d,rfl⟩:∃d,c=d+1:=⟨c-1,by lia⟩
  have hd:d<vs.length:=by lia
  have k4:d<ps.length:=by lia
  refine ⟨_,rfl,_,rfl,_,_,rfl,rfl,a,vs,_,vs[d],rfl,rfl,.of (sc _ _ ea),(by show dA vs (((d+1:Nat):Int)-1)=_;rw [show ((d+1:Nat):Int)-1=(d:Int) by lia];exact i3 (by simp [hd])),?_⟩
  have hv:=hn d vs[d] ps[d] (by simp [hd]) (by simp [k4])
  obtain ⟨dz,Ls⟩:=hz.mono sc;have nv:=Dt hq;refine ⟨_,rfl,z,dz,_,rfl,Ls,fG (by decide +kernel),z,q,0,1,rfl,⟨dz,Ls⟩,hq,aP.of_lt (by decide) (by decide),fun h=>absurd h nv,fun _ v0 H1 s1 ho=>?_⟩
  have m7:=I_ (B:=1000) (by decide) ho hq (.inl rfl)
  have gd:ps.getD d o1=ps[d]:=getD_at k4;refine Jb (hv.mono (sc.trans s1)) m7 ⟨_,rfl,bS (fun fL=>?_) (fun fL=>?_)⟩
  ·have fL:ps[d].1=0:=di fL
   refine ⟨fun σ' H2=>ai H H2∧σ'=[some (.ref z),some (.ref a),some (.int (d:Int))],?_,?_⟩
   ·rintro σ' H2 ⟨s2,rfl⟩
    refine ⟨d,by lia,s2,by lia,?_,rfl⟩
    rw [←q_];show _=if (ps.getD d o1).1=0 then dh ps d else d+1
    rw [gd,ar fL]
   ·exact ⟨_,rfl,_,_,rfl,rfl,sc.trans s1,by show List.set _ 2 (some (V.int (((d+1:Nat):Int)-1)))=_;rw [show ((d+1:Nat):Int)-1=(d:Int) by lia];rfl⟩
  ·have fL:¬ps[d].1=0:=fun e=>fL (dE e)
   have e:dh ps ps.length=d+1:=by
    rw [←q_];show (if (ps.getD d o1).1=0 then dh ps d else d+1)=_
    rw [gd,ao fL]
   refine ⟨_,rfl,_,rfl,_,rfl,a,vs,rfl,.of ((sc.trans s1) _ _ ea),fun r nr=>?_⟩;rw [sU vs (d+1) (by lia)]
   have sr:=(sc.trans s1).trans (aB (o:=.lst (vs.take (d+1))) nr);refine k r _ sr (none_of (sc.trans s1) nr) ?_;unfold aM;rw [e];exact aD.take av hl fun i v p h1 h2=>(hn i v p h1 h2).mono sr
 ·have h0:¬(0:Int)<(c:Int):=fun z=>h0 (dE z)
  have c0:c=0:=by lia
  subst c0;refine ⟨_,rfl,_,rfl,_,rfl,a,vs,rfl,.of (sc _ _ ea),fun r nr=>?_⟩;rw [sU vs 0 (by lia)]
  have sr:=sc.trans (aB (o:=.lst (vs.take 0)) nr);refine k r _ sr (none_of sc nr) ?_;unfold aM;rw [←q_];exact aD.take av hl fun i v p h1 h2=>(hn i v p h1 h2).mono sr
theorem TQ:bo ["self","row","by","back"] ["self","row","by"] (aL A5):=bI
theorem EU(T:Txt K mg t):aW P w K mg base bQ 4 t.qH t.uz ["self","row","by"] (Jz t.a9):=by
 have S:=TQ;have kG:=xD (P:=P) (w:=w) (base:=base) T;refine T.xA.cq S (fun _ _ _ _ H _ _ _ hr h=>?_);obtain ⟨z,a,q,ts,b,u,rfl,⟨dx,hx⟩,hq,ea,Bh,hm,mb,nb,ko,k⟩:=h
 refine ⟨_,(ak (bG (bw r9 (oW (pv 0) rfl) jq) (aw (aR (kj (N:=["number","by"]) (ρ:=(fun σ=>[σ[2]?.join])) (gD [2] rfl) rfl (j9 (pv 1)) (fun _ _ _=>.nil) (fun _ _ _=>(au wF (pv 0) (pv 1)))))) b6)
  (ak (mX 3 S.nd (fB (pv 0) T.dk T.qY kG (hr.mono (by decide)) T.EK .nil i4 (aa ah (aa (pv 2) af))))
  (aw (aR (kj (N:=["number","back","self"]) (ρ:=(fun σ=>[σ[3]?.join,σ[0]?.join])) (gD [3,0] rfl) rfl (j9 (pv 1)) (fun _ _ _=>.nil) (fun _ _ _=>(au eJ (au fF (pv 0) (pv 1)) (RC (K:=K) (pv 2) rfl)))))))),?_⟩
 refine ⟨_,rfl,z,t.a9,dx,_,_,rfl,hx,T.dk,T.kF,o_ _,rfl,_,rfl,?_⟩;rcases id hq with rfl | ⟨q2,q3,q4⟩
 ·rw [ar rfl]
  have b0:b≠0:=RT nb;refine dG (wK (wZ (ts:=ts) (fun x=>x.fdiv b) Bh (fun R h=>⟨_,rfl,a,rfl,⟨_,.of ea⟩,h _ _ (ai.refl _) (m8 (.of ea))⟩) ?_ ?_))
  ·intro x Bi Hc R sc kc
   exact ⟨_,rfl,_,rfl,_,_,rfl,rfl,⟨b0,mb⟩,kc Hc (ai.refl _)⟩
  ·refine fun D Hc nD sc eD=>k D Hc _ sc nD eD (by rw [aT]) (fun i hi=>?_) fun z=>absurd rfl z
   have e:=RR (ko i hi);rw [getD_at hi] at e;rw [getD_at (by rw [aT];exact hi),jn,e,Int.mul_fdiv_cancel_left _ b0]
   exact Cg.refl _
 ·have nX:q≠0:=by lia
  rw [ao nX] at hx ⊢;have hz:df t.a9 H z q:=⟨dx,by rw [ao nX];exact hx⟩
  refine cO ⟨_,rfl,z,dx,_,rfl,hx,fG (by decide +kernel),_,rfl,z,q,1,b,rfl,hz,hq,mb,fun h=>absurd h (Iz nb),fun _ v H1 s1 ho=>?_⟩
  rcases ho with ⟨e,_⟩ | ⟨_,r,rfl,r0,r1,er⟩;·exact absurd e nX
  have mr:aP r:=aP.of_lt (by lia) (by lia)
  dsimp only [bH];refine wK (wZ (ts:=ts) (fun x=>x*r % q) Bh (fun R h=>⟨_,rfl,a,rfl,⟨_,.of (s1 _ _ ea)⟩,h _ _ (ai.refl _) (m8 (.of (s1 _ _ ea)))⟩) ?_ ?_)
  ·intro x Bi Hc R sc kc
   exact ⟨_,rfl,_,rfl,_,_,rfl,rfl,⟨hm x Bi,mr⟩,_,rfl,z,t.a9,dx,_,_,rfl,sc _ _ (s1 _ _ hx),T.dk,T.kF,o_ _,_,_,rfl,rfl,(show (0:Int)<q by lia),kc Hc (ai.refl _)⟩
  ·refine fun D Hc nD sc eD=>k D Hc _ (s1.trans sc) (none_of s1 nD) eD (by rw [aT]) (fun i hi=>?_) fun _ x Bi=>?_
   ·have e:=ko i hi
    rw [getD_at hi] at e;rw [getD_at (by rw [aT];exact hi),jn]
    have e1:Cg q (r*b) 1:=by refine Cg.trans (((g_ q b).symm.mulL r).trans (g_ q _).symm) ?_;rw [er];exact g_ q 1
    refine (g_ q _).trans ((e.mulR r).trans ?_);rw [show b*u i*r=r*b*u i by grind]
    refine (e1.mulR (u i)).trans ?_;rw [kU];exact Cg.refl _
   ·obtain ⟨y,_,rfl⟩:=fm.mp Bi
    exact ⟨du _ nX,dJ _ (by lia)⟩
def TR(C:Addr):Sp:=fun vs H Q _=>∃(z a:Addr) (q c b:Int) (ts:List Int) (B:Nat),vs=[.ref z,.ref a,.int c,.int b]∧df C H z q∧ax q∧H a=some (.lst (ts.map V.int))∧ts.length≤500∧¬q∣b∧aP b∧aP c∧(∀t∈ts,aP t)∧b.natAbs≤B∧(∀t∈ts,(t*c).natAbs≤B) ∧
 ∀(r:Addr) (ps:aJ) (H':Hp),ai H H'→H r=none→aD B H' q r ps→ps.length=ts.length→(∀i,i<ts.length→aS q (ps.getD i o1) (ts.getD i 0*c,b))→Q (.ref r) H'
theorem TU:bo ["world","wholes","times","bottom"] ["world","wholes","times","bottom"] (aL An):=bI
theorem vc(T:Txt K mg t):aW P w K mg base bQ 4 t.pV t.tK ["world","wholes","times","bottom"] (TR t.a9):=by
 have S:=TU;have kG:=xD (P:=P) (w:=w) (base:=base) T;refine T.jO.cq S (fun _ _ _ _ H _ _ _ hr h=>?_);obtain ⟨z,a,q,c,b,ts,B,rfl,⟨dz,hd⟩,hq,ea,Bh,nb,mb,mc,mt,bb,bt,k⟩:=h;refine ⟨_,(aw (aR (kj (N:=["whole","world","times","bottom"]) (ρ:=(fun σ=>[σ[0]?.join,σ[2]?.join,σ[3]?.join])) (gD [0,2,3] rfl) rfl (j9 (pv 1)) (fun _ _ _=>.nil) (fun _ _ _=>(fB (pv 1) T.dk T.qY kG (hr.mono (by decide)) T.EK .nil i4 (aa (au fF (pv 0) (pv 2)) (aa (pv 3) af))))))),?_⟩
 refine wK (pk (xs:=ts.map V.int) (fun R h=>⟨_,rfl,a,rfl,⟨_,.of ea⟩,h _ _ (ai.refl _) (m8 (.of ea))⟩) (by rw [aT];exact jA (by lia)) (fun _ i y Hx=>∃p:Int×Int,aZ B Hx q y p.1 p.2∧aS q p (ts.getD i 0*c,b)) (fun _ _ _ _ _ _ ⟨p,h0,h1⟩ e f=>⟨p,h0.cQ e f,h1⟩) ?_ ?_)
 ·intro D i v hi Hc R sc _ kc
  have cD:i<ts.length:=by have:=(cU.mp hi).1;simpa using this
  have ev:v=.int ts[i]:=by rw [fP] at hi;simp [cD] at hi;exact hi.symm
  subst ev;have tm:=gj cD;refine ⟨_,rfl,z,dz,_,rfl,sc _ _ hd,fG (by decide +kernel),_,rfl,_,rfl,_,_,rfl,rfl,⟨mt _ tm,mc⟩,_,rfl,z,q,ts[i]*c,b,rfl,⟨dz,sc _ _ hd⟩,hq,mb,fun h=>absurd h (Iz nb),fun _ v' H' s' ho=>kc v' H' s' ?_⟩
  rw [getD_at cD];exact Jr ho hq nb (bt _ tm) bb
 ·intro D ys Hc nD sc Bg hP eD
  obtain ⟨ps,lp,hp⟩:=pick (R:=fun i y p=>aZ B Hc q y (Prod.fst p) (Prod.snd p)∧aS q p (ts.getD i 0*c,b)) hP;rw [aT] at Bg;refine k D ps Hc sc nD ⟨ys,eD,lp.symm,fun i v p h1 h2=>(hp i v p h1 h2).1⟩ (by lia) fun i hi=>?_
  have i1:i<ys.length:=by lia
  have i2:i<ps.length:=by lia
  rw [getD_at i2];exact (hp i ys[i] ps[i] (by simp [i1]) (by simp [i2])).2
theorem TV:bo ["world","row","many"] ["world","row","many"] (aL Am):=bI
theorem Bj(T:Txt K mg t):aW P w K mg base bQ 4 t.pS t.tJ ["world","row","many"] (Rf t.a9):=by
 have S:=TV;have kG:=xD (P:=P) (w:=w) (base:=base) T;obtain ⟨dv,lT,vb⟩:=T.Ba;refine T.lM.cq S (fun _ _ _ _ H vs _ _ hr h=>?_);obtain ⟨z,a,q,ps,B,n,rfl,⟨dz,hd⟩,hq,hR,hB,hn,ET,k⟩:=h;refine ⟨_,(aw (aR (au k9 (pv 1) (au we (cw (aa (fB (pv 0) T.dk T.qY kG (hr.mono (by decide)) vb lT i4 (aa ah af)) af)) (au d8 (pv 2) (bp cn rfl T.ck cm (aa (pv 1) af))))))),?_⟩
 have nv:=Dt hq;obtain ⟨vs,ea,lv,fv⟩:=id hR;refine ⟨_,rfl,_,rfl,z,dz,_,rfl,hd,fG (by decide +kernel),z,q,0,1,rfl,⟨dz,hd⟩,hq,aP.of_lt (by decide) (by decide),fun h=>absurd h nv,fun _ v0 H1 s1 ho=>?_⟩
 refine ⟨by show 1≤sizeLine;decide,fun l nl=>?_⟩
 have sl:ai H1 (upd H1 l (.lst [v0])):=aB nl;have el:upd H1 l (.lst [v0]) l=some (.lst [v0]):=av;have h0:=I_ (B:=B) hB (ho.mono sl) hq (.inl rfl);generalize upd H1 l (.lst [v0])=H2 at sl el h0 ⊢;have s2:=s1.trans sl;have ek:(n:Int)-(vs.length:Int)=((n-ps.length:Nat):Int):=by lia
 refine ⟨_,rfl,_,rfl,a,vs,rfl,.inl (.of (s2 _ _ ea)),_,_,rfl,rfl,l,((n-ps.length:Nat):Int),[v0],rfl,by show V.int ((n:Int)-(vs.length:Int))=_;rw [ek],el,by lia,by lia,?_,fun r nr=>?_⟩
 ·rw [dI]
  exact ae (show [v0].length*(n-ps.length)≤1000 by simp;lia) (by decide)
 rw [dI,show (List.replicate (n-ps.length) [v0]).flatten=List.replicate (n-ps.length) v0 by induction (n-ps.length) with
  | zero=>rfl
  | succ n ih=>simp [kR]]
 have sr:ai H2 (upd H2 r (.lst (List.replicate (n-ps.length) v0))):=aB nr;have er:upd H2 r (.lst (List.replicate (n-ps.length) v0)) r=some (.lst (List.replicate (n-ps.length) v0)):=av;have h0:=h0.mono sr;generalize upd H2 r (.lst (List.replicate (n-ps.length) v0))=H3 at sr er h0 ⊢;have s3:=s2.trans sr;refine ⟨a,r,vs,_,rfl,rfl,s3 _ _ ea,er,ae (show _≤1000 by rw [gR];lia) (by decide),fun c nc=>?_⟩
 have sc:ai H3 (upd H3 c (.lst (vs++List.replicate (n-ps.length) v0))):=aB nc;refine k c _ (s3.trans sc) (none_of s3 nc) (aD.cat av lv (by rw [gR,gR]) (fun i v p h1 h2=>(fv i v p h1 h2).mono (s3.trans sc)) (fun i v p h1 h2=>?_))
 rw [kP] at h1 h2
 split at h1
 ·rename_i hi
  rw [ar hi] at h2;cases h1;cases h2;exact h0.mono sc
 ·cases h1
theorem TY:bo ["one","other","told","i","a","j","b"] ["one","other"] (aL Af):=bI
theorem Lu(T:Txt K mg t):aW P w K mg base bQ 1 t.pL t.tx ["one","other"] Rk:=by
 have S:=TY;refine T.qK.cq S (fun _ _ _ _ H _ _ _ hr h=>?_);obtain ⟨a,b,ts,us,rfl,ea,eb,mt,mu,TZ,T4,k⟩:=h
 refine ⟨_,(ak (putL 2 S.nd (au we (cw (aa ah af)) (bp (Ho rfl) rfl T.EN boot_max (aa ah (aa (au d8 (au d5 (bp cn rfl T.ck cm (aa (pv 0) af)) (bp cn rfl T.ck cm (aa (pv 1) af))) ah) af)))))
  (ak (iY eo rfl (Jf rfl T.EM (aa (pv 0) af)) (yI rfl (mE (e_ (i:=3) S.nd rfl (Or.inl rfl)) (mE (e_ (i:=4) S.nd rfl (Or.inl rfl)) yH)))
   (aw (iY eo rfl (Jf rfl T.EM (aa (pv 1) af)) (yI rfl (mE (e_ (i:=5) S.nd rfl (Or.inl rfl)) (mE (e_ (i:=6) S.nd rfl (Or.inl rfl)) yH)))
   (aw (@NX _ _ _ _ _ _ _ _ _ _ _ _ _ (pv 2) (au d5 (pv 3) (pv 5)) Rj (au fF (pv 4) (pv 6)) GV set_list (by intros;rfl))))))
  (aw (aR (pv 2))))),?_⟩
 obtain ⟨N,eN⟩:∃N:Nat,N=ts.length+us.length-1:=⟨_,rfl⟩;have emax:(if ((ts.map V.int).length:Int)+((us.map V.int).length:Int)-1>0 then ((ts.map V.int).length:Int)+((us.map V.int).length:Int)-1 else 0)=(N:Int):=by
  rw [aT,aT,eN]
  split <;> lia
 refine ⟨by show 1≤sizeLine;decide,fun l nl=>?_⟩
 have sl:ai H (upd H l (.lst [.int 0])):=aB nl;refine ⟨_,rfl,a,ts.map V.int,rfl,.inl (.of (sl _ _ ea)),_,rfl,b,us.map V.int,rfl,.inl (.of (sl _ _ eb)),_,_,rfl,rfl,_,_,rfl,rfl,_,_,rfl,l,(N:Int),[.int 0],rfl,fN V.int emax,av,by lia,by lia,?_,fun c nc=>?_⟩
 ·rw [dI]
  exact ae (show [V.int 0].length*N≤200 by simp;lia) (by decide)
 have e0:(List.replicate ((N:Int).toNat) [V.int 0]).flatten=((List.range N).map fun k=>bJ 0 us.length (fun i=>ts.getD i 0) (fun j=>us.getD j 0) k).map V.int:=by
  rw [dI];refine yu fun i=>?_;have e1:(List.replicate N [V.int 0]).flatten=List.replicate N (V.int 0):=by
   clear eN emax
   induction N with
   | zero=>rfl
   | succ n ih=>simp [kR]
  rw [e1,kP];by_cases hi:i<N;·simp [hi,bJ,aQ]
  ·simp [hi]
 rw [e0];have EV:ai H (upd (upd H l (.lst [.int 0])) c (.lst (((List.range N).map fun k=>bJ 0 us.length (fun i=>ts.getD i 0) (fun j=>us.getD j 0) k).map V.int))):=sl.trans (aB nc);have Lv:upd (upd H l (.lst [.int 0])) c (.lst (((List.range N).map fun k=>bJ 0 us.length (fun i=>ts.getD i 0) (fun j=>us.getD j 0) k).map V.int)) c=_:=av;generalize upd (upd H l (.lst [.int 0])) c (.lst (((List.range N).map fun k=>bJ 0 us.length (fun i=>ts.getD i 0) (fun j=>us.getD j 0) k).map V.int))=H0 at EV Lv ⊢;have Lw:H c=none:=none_of sl nc;refine ⟨_,rfl,a,rfl,⟨_,.of (EV _ _ ea)⟩,?_⟩
 refine Jg (K:=K) (l:=a) (xs:=ts.map V.int) (fun i σ Hc=>ai H Hc∧∃(v3 v4 v5 v6:Option V),σ=[some (.ref a),some (.ref b),some (.ref c),v3,v4,v5,v6]∧Hc c=some (.lst (((List.range N).map fun k=>bJ i us.length (fun i=>ts.getD i 0) (fun j=>us.getD j 0) k).map V.int)))
  ⟨EV,_,_,_,_,rfl,Lv⟩ (fun i σ Hc ⟨z,_⟩=>.of (z _ _ ea)) ?_ ?_
 ·rintro i x σ Hc Tt hx ⟨sc,v3,v4,v5,v6,rfl,ec⟩ nT
  have hi:i<ts.length:=by have:=(cU.mp hx).1;simpa using this
  have ex:x=.int (ts.getD i 0):=by rw [fP] at hx;simp [hi] at hx;rw [getD_at hi,hx]
  subst ex;have sT:ai Hc (upd Hc Tt (.tup [.int (i:Int),.int (ts.getD i 0)])):=aB nT;have eT:upd Hc Tt (.tup [.int (i:Int),.int (ts.getD i 0)]) Tt=_:=av;generalize upd Hc Tt (.tup [.int (i:Int),.int (ts.getD i 0)])=H1 at sT eT ⊢;refine ⟨Tt,_,rfl,.of eT,rfl,_,_,rfl,_,_,rfl,rfl,?_⟩;have s1:=sc.trans sT;have EW:=sT _ _ ec;refine ⟨_,rfl,b,rfl,⟨_,.of (s1 _ _ eb)⟩,?_⟩
  refine Jg (K:=K) (l:=b) (xs:=us.map V.int) (fun j σ Hd=>ai H Hd∧∃(v5 v6:Option V),σ=[some (.ref a),some (.ref b),some (.ref c),some (.int (i:Int)),some (.int (ts.getD i 0)),v5,v6]∧Hd c=some (.lst (((List.range N).map fun k=>bJ i us.length (fun i=>ts.getD i 0) (fun j=>us.getD j 0) k+cH j (ts.getD i 0) (fun j=>us.getD j 0) i k).map V.int)))
   ⟨s1,_,_,rfl,?_⟩ (fun i σ Hc ⟨z,_⟩=>.of (z _ _ eb)) ?_ ?_
  ·rw [EW]
   congr 5
   exact funext fun k=>(oz _).symm
  ·rintro j y σ Hd T2 hy ⟨sd,v5,v6,rfl,ed⟩ T5
   have hj:j<us.length:=by have:=(cU.mp hy).1;simpa using this
   have ey:y=.int (us.getD j 0):=by rw [fP] at hy;simp [hj] at hy;rw [getD_at hj,hy]
   subst ey;have s2:ai Hd (upd Hd T2 (.tup [.int (j:Int),.int (us.getD j 0)])):=aB T5;have e2:upd Hd T2 (.tup [.int (j:Int),.int (us.getD j 0)]) T2=_:=av;generalize upd Hd T2 (.tup [.int (j:Int),.int (us.getD j 0)])=H2 at s2 e2 ⊢;have kH:=s2 _ _ ed;have hN:i+j<N:=by lia
   have ei:(i:Int)+(j:Int)=((i+j:Nat):Int):=by lia
   refine ⟨T2,_,rfl,.of e2,rfl,_,_,rfl,_,_,rfl,rfl,?_⟩;refine ⟨_,rfl,_,rfl,_,rfl,_,_,rfl,rfl,c,_,_,.int (bJ i us.length (fun i=>ts.getD i 0) (fun j=>us.getD j 0) (i+j)+cH j (ts.getD i 0) (fun j=>us.getD j 0) i (i+j)),rfl,rfl,by lia,.of kH,(by rw [ei];exact i3 (by simp [hN])),_,rfl,_,rfl,_,_,rfl,rfl,⟨mt _ (by rw [getD_at hi];exact gj hi),mu _ (by rw [getD_at hj];exact gj hj)⟩,_,_,rfl,rfl,c,_,_,i+j,rfl,rfl,kH,?_,?_⟩
   ·rw [ei]
    unfold gU;rw [ar (by lia),ar (by simp;lia),dI]
   refine ⟨kn (sd.trans s2) Lw,_,_,rfl,?_⟩;rw [av,Rl hN]
   congr 4
   exact funext fun k=>by unfold cH;rw [f_];dsimp only;lia
  ·rintro σ Hd ⟨sd,v5,v6,rfl,ed⟩
   refine ⟨sd,_,_,_,_,rfl,?_⟩;rw [ed,aT]
   congr 4
   exact funext fun k=>by unfold bJ;rw [f_]
 ·rintro σ Hc ⟨sc,v3,v4,v5,v6,rfl,ec⟩
  rw [aT] at ec;refine ⟨_,rfl,k c Hc sc Lw ?_⟩;unfold gF;rw [ec,eN]
theorem T6:bo ["world","one","other","lead","left","by","much","place","head","less"] ["world","one","other"] (aL Ah):=bI
theorem Lx(T:Txt K mg t):aW P w K mg base bQ 5 t.pN t.tE ["world","one","other"] (Sa t.a9):=by
 have S:=T6;have nY:=EU (P:=P) (w:=w) (base:=base) T;refine T.qL.cq S (fun _ _ _ _ H _ _ _ hr h=>?_);obtain ⟨z,a,b,q,ts,us,TT,U,rfl,hz,hq,ea,eb,TZ,T4,u1,hT,hU,Jo,wW,nZ,Ly,lz,tz,k⟩:=h
 refine ⟨_,(ak (mX 3 S.nd (aA bP (pv 2) (jt ju ah)))
  (ak (putL 4 S.nd (pv 1))
  (ak (putL 5 S.nd (cw af))
  (ak (putL 6 S.nd ah)
  (ak (iY eo rfl (Rz rfl T.gg (aa (au d8 (bp cn rfl T.ck cm (aa (pv 1) af)) (bp cn rfl T.ck cm (aa (pv 2) af))) (aa (jt ju ah) (aa (jt ju ah) af)))) (e_ (i:=7) S.nd rfl (Or.inl rfl))
   (ak (mX 8 S.nd (aA bP (pv 4) (jt ju ah)))
  (ak (putL 9 S.nd (au k9 (au we (cw (aa ah af)) (pv 7)) (kj (N:=["number","head"]) (ρ:=(fun σ=>[σ[8]?.join])) (gD [8] rfl) rfl (j9 (su sC (pv 2) so (sq (jt ju ah)))) (fun _ _ _=>.nil) (fun _ _ _=>(au fF (pv 1) (pv 0))))))
  (ak (putL 4 S.nd (fB (pv 0) T.dk T.lR nY (hr.mono (by decide)) T.q8 .nil ay (aa (IG (N:=["a","b","lead"]) (ρ:=(fun σ=>[σ[3]?.join])) (Dj [3] rfl) rfl (Di rfl T.Be (aa (pv 4) (aa (pv 9) af))) (fun _ _ _=>.nil) (fun _ _ _=>(au d8 (au fF (pv 2) (pv 0)) (pv 1)))) (aa ah af))))
  (ak (putL 5 S.nd (fB (pv 0) T.dk T.lR nY (hr.mono (by decide)) T.q8 .nil ay (aa (au k9 (cw (aa (pv 8) af)) (kj (N:=["number","lead"]) (ρ:=(fun σ=>[σ[3]?.join])) (gD [3] rfl) rfl (j9 (pv 5)) (fun _ _ _=>.nil) (fun _ _ _=>(au fF (pv 1) (pv 0))))) (aa ah af))))
  (aw (putL 6 S.nd (aA bP (fB (pv 0) T.dk T.lR nY (hr.mono (by decide)) T.q8 .nil ay (aa (cw (aa (au fF (pv 6) (pv 3)) af)) (aa ah af))) ah))))))))
  (aw (aR (fA (aa (pv 5) (aa (pv 4) (aa (pv 6) af))))))))))),?_⟩
 obtain ⟨dz,hd⟩:=id hz;generalize lD:us.getD (us.length-1) 0=lead at lz;generalize hn:ts.length+1-us.length=n at nZ k;have pU:∀i,i≤n→TT*(2*U) ^ i≤10 ^ 580:=fun i hi=>ae (dY TT (dn (by lia) hi)) nZ
 have wY:lead.natAbs≤10 ^ 580:=by rw [←lD];exact ae (nq hU _) Ly
 have EX:aP lead:=eW (ae wY (by decide +kernel))
 refine ⟨_,rfl,_,rfl,b,us.map V.int,_,_,rfl,rfl,.of eb,zE u1,?_⟩;rw [lD];refine ⟨_,rfl,by show 0≤sizeLine;decide,fun l0 T7=>?_⟩
 have s0:ai H (upd H l0 (.lst [])):=aB T7;have vd:upd H l0 (.lst []) l0=some (.lst (([]:List Int).map V.int)):=av;generalize upd H l0 (.lst [])=H0 at s0 vd ⊢;dsimp only [bH];refine ⟨_,rfl,a,ts.map V.int,rfl,.inl (.of (s0 _ _ ea)),_,rfl,b,us.map V.int,rfl,.inl (.of (s0 _ _ eb)),_,_,rfl,rfl,_,rfl,_,rfl,_,_,rfl,⟨by simp;lia,by simp;lia,by decide,by decide⟩,?_⟩
 have en:((((ts.map V.int).length:Int)-((us.map V.int).length:Int)) - -1).toNat=n:=by rw [aT,aT];lia
 rw [en]
 refine RA (fun i σ Hc=>ai H Hc∧∃(l1 l2:Addr) (bs ls:List Int) (az:Int) (v7 v8 v9:Option V),σ=[some (.ref z),some (.ref a),some (.ref b),some (.int lead),some (.ref l2),some (.ref l1),some (.int az),v7,v8,v9]∧Hc l1=some (.lst (bs.map V.int))∧Hc l2=some (.lst (ls.map V.int))∧kv q ts us TT U n i bs ls az∧(q=0→az=lead ^ i))
  ⟨s0,l0,a,[],ts,1,none,none,none,rfl,vd,s0 _ _ ea,kv.start hq hT hn.symm,fun _=>(vN _).symm⟩ ?_ ?_
 ·rintro i σ Hc hi ⟨sc,l1,l2,bs,ls,az,v7,v8,v9,rfl,e1,e2,I,em⟩
  have ll:=I.ll;have lb:=I.lb;have xE:1≤ls.length:=by lia
  have bX:=pU i (by lia)
  have xF:∀x∈ls,x.natAbs≤10 ^ 580:=fun x hx=>ae (I.bl x hx) bX;have EY:∀x∈bs,x.natAbs≤10 ^ 580:=fun x hx=>ae (ae (fQ _ (by lia)) (I.bb x hx)) bX
  have EZ:az.natAbs≤10 ^ 580:=ae I.bm (ae (fW _ wW) bX);have T8:∀x∈us,x.natAbs≤10 ^ 580:=fun x hx=>ae (hU x hx) Ly;have vf:∀{x:Int},x.natAbs≤10 ^ 580→aP x:=fun h=>eW (ae h (by decide +kernel))
  have hm:∀x∈eU (n-1-i) (ls.getD (ls.length-1) 0) us,x.natAbs≤TT*(2*U) ^ i*U:=fun x hx=>by
   unfold eU at hx;rcases h_.mp hx with z | z;·rw [(yw.mp z).2];exact b9 _
   ·obtain ⟨u,ko,e⟩:=fm.mp z
    rw [←e,a7];exact bE (nq I.bl _) (hU u (List.dropLast_subset _ ko))
  have E3:lead.natAbs≤U:=by rw [←lD];exact nq hU _
  have T9:TT*(2*U) ^ i*U+TT*(2*U) ^ i*U≤10 ^ 580:=by
   have:=pU (i+1) (by lia)
   rw [fo,←mi] at this;have e:TT*(2*U) ^ i*(2*U)=TT*(2*U) ^ i*U+TT*(2*U) ^ i*U:=by grind
   rw [←e];exact this
  have iH:∀x∈bs,(lead*x).natAbs≤10 ^ 580:=fun x hx=>by rw [a7,ji];exact ae (ae (dY _ (ae E3 (show U≤2*U by lia))) (I.bb x hx)) (pU i (by lia))
  have T_:(az*lead).natAbs≤10 ^ 580:=by rw [a7];exact ae (bE (ae I.bm (fW _ wW)) E3) (by lia)
  have I':=I.step hq hn.symm hi u1 hU Jo wW (by rw [lD];exact lz) (tz (by lia))
  rw [lD] at I';have ep:(((ts.map V.int).length:Int)-((us.map V.int).length:Int))-(i:Int)=((n-1-i:Nat):Int):=by rw [aT,aT];lia
  rw [ep];refine ⟨_,rfl,_,rfl,l2,ls.map V.int,_,_,rfl,rfl,.of e2,zE xE,?_⟩;generalize sX:ls.getD (ls.length-1) 0=head at I';have wX:head.natAbs≤10 ^ 580:=by rw [←sX];exact nq xF _
  generalize gT:n-1-i=place at I';dsimp only [bH];simp only [dZ,d0];refine ⟨by show 1≤sizeLine;decide,fun la E4=>?_⟩
  have sa:ai Hc (upd Hc la (.lst [.int 0])):=aB E4;refine ⟨_,rfl,la,(place:Int),[.int 0],rfl,rfl,av,by lia,by lia,?_,fun lr Ua=>?_⟩
  ·rw [dI]
   exact ae (show [V.int 0].length*place≤200 by simp;lia) (by decide)
  rw [DI];have sr:ai Hc (upd (upd Hc la (.lst [.int 0])) lr (.lst ((List.replicate place (0:Int)).map V.int))):=sa.trans (aB Ua);have Lz:upd (upd Hc la (.lst [.int 0])) lr (.lst ((List.replicate place (0:Int)).map V.int)) lr=some (.lst ((List.replicate place (0:Int)).map V.int)):=av;generalize upd (upd Hc la (.lst [.int 0])) lr (.lst ((List.replicate place (0:Int)).map V.int))=Hd at sr Lz ⊢;refine wZ (ts:=us.dropLast) (fun u=>head*u) (by rw [List.length_dropLast];lia) (fun R h=>⟨_,rfl,_,rfl,_,rfl,b,_,rfl,.of (sr _ _ (sc _ _ eb)),fun r nr=>?_⟩) ?_ ?_
  ·rw [RM,List.map_dropLast] at *
   exact ⟨r,rfl,⟨_,.of av⟩,h _ _ (aB nr) (m8 (.of av))⟩
  ·intro u hu Hx R sx kx
   exact ⟨_,rfl,_,rfl,_,_,rfl,rfl,⟨vf wX,vf (T8 u (List.dropLast_subset _ hu))⟩,kx Hx (ai.refl _)⟩
  intro D He nD se eD;refine ⟨lr,D,_,_,rfl,rfl,se _ _ Lz,eD,?_,fun xG Ub=>?_⟩
  ·rw [aT,aT,aT,gR,List.length_dropLast]
   exact ae (show _≤300 by lia) (by decide)
  have eL:(List.replicate place (0:Int)).map V.int++(us.dropLast.map fun u=>head*u).map V.int=(eU place head us).map V.int:=by unfold eU;rw [rK]
  rw [eL];have s1:ai Hc (upd He xG (.lst ((eU place head us).map V.int))):=sr.trans (se.trans (aB Ub));have E5:upd He xG (.lst ((eU place head us).map V.int)) xG=some (.lst ((eU place head us).map V.int)):=av;dsimp only [bH];generalize upd He xG (.lst ((eU place head us).map V.int))=Hf at s1 E5 ⊢;simp only [dZ,d0];rw [sX,gT] at hm;have mO:=s1 _ _ (sc _ _ hd);refine iC (dq ⟨_,rfl,z,dz,_,rfl,mO,fG (by decide +kernel),Jq (xs:=ls) (ys:=eU place head us) (fun x y=>lead*x-y) (by lia) (fun R h=>⟨_,rfl,_,rfl,l2,xG,rfl,⟨_,.of (s1 _ _ e2)⟩,⟨_,.of E5⟩,h _ _ (ai.refl _) (Dn (.of (s1 _ _ e2)) (.of E5))⟩) ?_ ?_⟩)
  ·intro x y kI Hx R sx kx
   exact ⟨_,rfl,_,rfl,_,_,rfl,rfl,⟨EX,vf (xF x (rC kI).1)⟩,_,rfl,_,_,rfl,rfl,kx Hx (ai.refl _)⟩
  intro D2 Hg sg Uc;dsimp only [cW,tC,ft,ot];refine DQ ⟨dz,sg _ _ mO⟩ hq Uc ?_ ?_ fun c2 Hh sh Bk Ud=>?_;·rw [aT,yv];lia
  ·intro x hx
   obtain ⟨ab,DG,rfl⟩:=fm.mp hx;have m:=rC DG;have b1:(lead*ab.1).natAbs≤TT*(2*U) ^ i*U:=by rw [a7,ji];exact bE (I.bl _ m.1) E3
   have b2:=hm _ m.2;exact eW (ae (ae (Int.natAbs_sub_le ..) (ae (oA b1 b2) T9)) (by decide +kernel))
  have s2:=s1.trans (sg.trans sh);have LA:=s2 _ _ (sc _ _ hd);dsimp only [bH];simp only [dZ,d0];refine iC (dq ⟨_,rfl,z,dz,_,rfl,LA,fG (by decide +kernel),_,rfl,by show 1≤sizeLine;decide,fun lh LB=>?_⟩)
  have s3:ai Hc (upd Hh lh (.lst [.int head])):=s2.trans (aB LB);have LC:ai Hh (upd Hh lh (.lst [.int head])):=aB LB;have LD:upd Hh lh (.lst [.int head]) lh=some (.lst (([head]:List Int).map V.int)):=av;generalize upd Hh lh (.lst [.int head])=Hi at s3 LD LC ⊢;refine wZ (ts:=bs) (fun x=>lead*x) (by lia) (fun R h=>⟨_,rfl,l1,rfl,⟨_,.of (s3 _ _ e1)⟩,h _ _ (ai.refl _) (m8 (.of (s3 _ _ e1)))⟩) ?_ ?_
  ·intro x hx Hx R sx kx
   exact ⟨_,rfl,_,rfl,_,_,rfl,rfl,⟨EX,vf (EY x hx)⟩,kx Hx (ai.refl _)⟩
  intro D3 Hj nD3 sj Ue;refine ⟨lh,D3,_,_,rfl,rfl,sj _ _ LD,Ue,?_,fun lc Ug=>?_⟩
  ·rw [aT,aT,aT]
   exact ae (show _≤300 by simp;lia) (by decide)
  rw [←rK];have sl:ai Hj (upd Hj lc (.lst ((([head]:List Int)++bs.map fun x=>lead*x).map V.int))):=aB Ug;have LF:upd Hj lc (.lst ((([head]:List Int)++bs.map fun x=>lead*x).map V.int)) lc=some (.lst ((([head]:List Int)++bs.map fun x=>lead*x).map V.int)):=av;generalize upd Hj lc (.lst ((([head]:List Int)++bs.map fun x=>lead*x).map V.int))=Hk at sl LF ⊢;have sk:=LC.trans (sj.trans sl);dsimp only [cW,tC,ft,ot];refine DQ ⟨dz,sk _ _ LA⟩ hq LF (by simp;lia) ?_ fun c3 Hl Ci LG E6=>?_
  ·intro x hx
   rcases h_.mp hx with z | z;·rw [iQ.mp z];exact vf wX
   ·obtain ⟨u,ko,e⟩:=fm.mp z
    rw [←e];exact eW (ae (iH u ko) (by decide +kernel))
  have LH:=sk.trans Ci;have s4:=s2.trans LH;have LI:=s4 _ _ (sc _ _ hd);dsimp only [bH];simp only [dZ,d0];refine ⟨_,rfl,z,dz,_,rfl,LI,fG (by decide +kernel),_,rfl,_,rfl,_,_,rfl,rfl,⟨vf EZ,EX⟩,by show 1≤sizeLine;decide,fun lm Uh=>?_⟩
  have sm:ai Hl (upd Hl lm (.lst [.int (az*lead)])):=aB Uh;dsimp only [cW,tC,ft,ot];refine DQ (ts:=[az*lead]) ⟨dz,sm _ _ LI⟩ hq av (by simp) (fun x hx=>?_) fun c4 Hm Ui E7 Uj=>?_
  ·rw [iQ.mp hx]
   exact eW (ae T_ (by decide +kernel))
  refine ⟨c4,_,_,_,rfl,rfl,.of Uj,rfl,?_⟩;have s5:=sm.trans Ui;exact ⟨sc.trans (s4.trans s5),c3,c2,_,_,_,_,_,_,rfl,s5 _ _ E6,(LH.trans s5) _ _ Ud,I',fun z=>by subst z;show (az*lead) % 0=_;rw [Int.emod_zero,em rfl,vO]⟩
 ·rintro σ Hc ⟨sc,l1,l2,bs,ls,az,v7,v8,v9,rfl,e1,e2,I,em⟩
  refine ⟨_,rfl,_,rfl,_,rfl,by show 3≤sizeLine;decide,fun p np=>?_⟩
  have sp:ai Hc (upd Hc p (.tup [.ref l1,.ref l2,.int az])):=aB np;exact k p l1 l2 bs ls az _ (sc.trans sp) av (sp _ _ e1) (sp _ _ e2) I (by rw [lD];exact em)
theorem Uk:bo ["row","many"] ["row"] (aL Ae):=bI
theorem LJ(T:Txt K mg t):aW P w K mg base bQ 1 t.pK t.tq ["row"] R8:=by
 have S:=Uk;refine T.qJ.cq S (fun _ _ _ _ H _ _ _ hr h=>?_);obtain ⟨a,ts,rfl,ea,Bh,k⟩:=h;have hu:=hr.wc
 refine ⟨_,(ak (putL 1 S.nd (bp cn rfl T.ck cm (aa (pv 0) af)))
  (ak (mG eo (PW.pt (pw_and (bw jv (pv 1) ah) (pw_and1 (bw dO (aA bP (pv 0) (au d8 (pv 1) ah)) ah)))) (aw (yJ (i:=1) S.nd rfl (Or.inl rfl) ah GW)))
  (aw (aR (su sC (pv 0) so (sq (pv 1))))))),?_⟩
 have lm:(ts.map V.int).length=ts.length:=aT _;refine ⟨_,rfl,a,_,rfl,.inl (.of ea),?_⟩;rw [lm];refine ⟨fun c σ Hc=>ai H Hc∧c≤ts.length∧(∀j,c≤j→ag ts j=0)∧σ=[some (.ref a),some (.int (c:Int))],⟨ts.length,ai.refl H,aN _,fun j hj=>c_ hj,rfl⟩,?_⟩;rintro c σ Hc ⟨sc,hc,hz,rfl⟩;refine ⟨_,rfl,_,_,rfl,rfl,_,rfl,bS (fun h0=>?_) (fun h0=>?_)⟩
 ·have h0:(0:Int)<(c:Int):=di h0
  obtain ⟨d,rfl⟩:∃d,c=d+1:=⟨c-1,by lia⟩
  have hd:d<ts.length:=by lia
  refine ⟨_,rfl,_,rfl,_,_,rfl,rfl,a,ts.map V.int,_,.int ts[d],rfl,rfl,.of (sc _ _ ea),(by show dA (ts.map V.int) (((d+1:Nat):Int)-1)=_;rw [show ((d+1:Nat):Int)-1=(d:Int) by lia];exact i3 (by rw [fP,List.getElem?_eq_getElem hd];rfl)),?_⟩
  have LK:ag ts d=ts[d]:=getD_at hd;refine ⟨rfl,_,rfl,bS (fun hb=>?_) (fun hb=>?_)⟩
  ·have z:ts[d]=0:=by rw [o9] at hb;exact di hb
   refine ⟨fun σ' H2=>ai H H2∧σ'=[some (.ref a),some (.int (d:Int))],?_,?_⟩
   ·rintro σ' H2 ⟨s2,rfl⟩
    refine ⟨d,by lia,s2,by lia,fun j hj=>?_,rfl⟩
    by_cases e:j=d;·rw [e,LK];exact z
    ·exact hz j (by lia)
   ·exact ⟨_,rfl,_,_,rfl,rfl,sc,by show List.set _ 1 (some (V.int (((d+1:Nat):Int)-1)))=_;rw [show ((d+1:Nat):Int)-1=(d:Int) by lia];rfl⟩
  ·refine ⟨_,rfl,_,rfl,_,rfl,a,_,rfl,.of (sc _ _ ea),fun r nr=>?_⟩
   rw [sU _ (d+1) (by rw [lm];lia),←List.map_take]
   refine k r _ (d+1) (sc.trans (aB nr)) (none_of sc nr) hc hz (fun _ e=>hb ?_) av;rw [o9];rw [show d+1-1=d by lia,LK] at e
   exact dE e
 ·have h0:¬(0:Int)<(c:Int):=fun z=>h0 (dE z)
  have c0:c=0:=by lia
  subst c0;refine ⟨_,rfl,_,rfl,_,rfl,a,_,rfl,.of (sc _ _ ea),fun r nr=>?_⟩;rw [sU _ 0 (by lia),←List.map_take]
  exact k r _ 0 (sc.trans (aB nr)) (none_of sc nr) hc hz (fun z=>absurd z (by lia)) av
theorem Ul:bo ["number","times","told","turn"] ["number","times"] (aL Ai):=bI
theorem E8(T:Txt K mg t):aW P w K mg base bQ 1 t.pO t.tF ["number","times"] R9:=by
 have S:=Ul;refine T.nR.cq S (fun _ _ _ _ H _ _ _ hr h=>?_);obtain ⟨x,n,rfl,n0,n1,bd,bx,k⟩:=h
 refine ⟨_,(ak (putL 2 S.nd ah)
  (ak (iY eo rfl (gS rfl T.gg (aa (pv 1) af)) (e_ (i:=3) S.nd rfl (Or.inl rfl))
   (aw (yJ (i:=2) S.nd rfl (Or.inl rfl) (pv 0) R5)))
  (aw (aR (pv 2))))),?_⟩
 refine fJ fun _ hR=>dq (hR _ _ ?_);refine fJ fun _ hR=>⟨_,rfl,n,rfl,by lia,by lia,?_⟩
 refine rZ (fun i σ Hc=>∃(v3:Option V),σ=[some (.int x),some (.int n),some (.int (x ^ i)),v3]∧Hc=H) ⟨_,by rw [vN];rfl,rfl⟩ ?_ ?_
 ·rintro i σ Hc hi ⟨v3,rfl,rfl⟩
  refine ⟨_,rfl,_,rfl,_,_,rfl,rfl,⟨eW (bd i (by lia)),eW bx⟩,⟨some (.int (0+(i:Int))),?_,rfl⟩⟩
  rw [vO];rfl
 ·rintro σ Hc ⟨v3,rfl,rfl⟩
  exact hR _ _ ⟨_,rfl,k⟩
theorem Um:bo ["one","other","many"] ["one","other"] (aL Ag):=bI
theorem Uo(T:Txt K mg t):aW P w K mg base bQ 1 t.pM t.tD ["one","other"] R_:=by
 have S:=Um;refine T.uA.cq S (fun _ _ _ _ H _ _ _ hr h=>?_);obtain ⟨a,b,ts,us,rfl,ea,eb,l1,l2,k⟩:=h
 refine ⟨_,(ak (putL 2 S.nd (bp (Ho rfl) rfl T.EN boot_max (aa (bp cn rfl T.ck cm (aa (pv 0) af)) (aa (bp cn rfl T.ck cm (aa (pv 1) af)) af))))
  (aw (aR (IG (N:=["a","b"]) (ρ:=(fun σ=>[])) (Dj [] rfl) rfl (Di rfl T.Be (aa (au k9 (pv 0) (au we (cw (aa ah af)) (au d8 (pv 2) (bp cn rfl T.ck cm (aa (pv 0) af))))) (aa (au k9 (pv 1) (au we (cw (aa ah af)) (au d8 (pv 2) (bp cn rfl T.ck cm (aa (pv 1) af))))) af))) (fun _ _ _=>.nil) (fun _ _ _=>(au d8 (pv 0) (pv 1))))))),?_⟩
 refine fJ fun _ hR=>dq ⟨_,rfl,a,_,rfl,.inl (.of ea),_,rfl,b,_,rfl,.inl (.of eb),_,_,rfl,hR _ _ ?_⟩;rw [aT,aT];obtain ⟨N,eN⟩:∃N:Nat,N=max ts.length us.length:=⟨_,rfl⟩;rw [show (if ((us.length:Nat):Int)>((ts.length:Nat):Int) then ((us.length:Nat):Int) else ((ts.length:Nat):Int))=(N:Int) by rw [eN];split <;> lia]
 refine wK (Jq (xs:=ts++List.replicate (N-ts.length) 0) (ys:=us++List.replicate (N-us.length) 0) (fun x y=>x-y) (by rw [jh,gR];lia) (fun R h=>?_) ?_ fun D He se eD=>?_)
 ·refine ⟨_,rfl,?_⟩
  refine ⟨by show 1≤sizeLine;decide,fun la E4=>?_⟩
  have sa:ai H (upd H la (.lst [.int 0])):=aB E4;refine ⟨_,rfl,_,rfl,a,_,rfl,.inl (.of (sa _ _ (ea))),_,_,rfl,rfl,?_⟩;rw [show (fun i j:Int=>V.int (i-j)) (N:Int) ((ts.map V.int).length:Int)=V.int ((N-ts.length:Nat):Int) by
   show V.int _=V.int _;rw [aT]
   congr 1
   lia]
  refine ⟨la,((N-ts.length:Nat):Int),[.int 0],rfl,rfl,av,by lia,by lia,?_,fun ra Up=>?_⟩
  ·rw [dI]
   exact ae (show [V.int 0].length*_≤200 by simp;lia) (by decide)
  rw [DI];have ta:ai H (upd (upd H la (.lst [.int 0])) ra (.lst ((List.replicate (N-ts.length) (0:Int)).map V.int))):=sa.trans (aB Up);have era:upd (upd H la (.lst [.int 0])) ra (.lst ((List.replicate (N-ts.length) (0:Int)).map V.int)) ra=some (.lst ((List.replicate (N-ts.length) (0:Int)).map V.int)):=av;generalize upd (upd H la (.lst [.int 0])) ra (.lst ((List.replicate (N-ts.length) (0:Int)).map V.int))=H1 at ta era ⊢;refine ⟨a,ra,_,_,rfl,rfl,ta _ _ (ea),era,?_,fun ca E9=>?_⟩
  ·rw [aT,aT,gR]
   exact ae (show _≤500 by lia) (by decide)
  rw [←rK];have ua:ai H (upd H1 ca (.lst ((ts++List.replicate (N-ts.length) 0).map V.int))):=ta.trans (aB E9);have E_:upd H1 ca (.lst ((ts++List.replicate (N-ts.length) 0).map V.int)) ca=some (.lst ((ts++List.replicate (N-ts.length) 0).map V.int)):=av;generalize upd H1 ca (.lst ((ts++List.replicate (N-ts.length) 0).map V.int))=rf at ua E_ ⊢;refine ⟨_,rfl,?_⟩;refine ⟨by show 1≤sizeLine;decide,fun lb Uq=>?_⟩
  have sb:ai rf (upd rf lb (.lst [.int 0])):=aB Uq;refine ⟨_,rfl,_,rfl,b,_,rfl,.inl (.of (sb _ _ (ua _ _ eb))),_,_,rfl,rfl,?_⟩;rw [show (fun i j:Int=>V.int (i-j)) (N:Int) ((us.map V.int).length:Int)=V.int ((N-us.length:Nat):Int) by
   show V.int _=V.int _;rw [aT]
   congr 1
   lia]
  refine ⟨lb,((N-us.length:Nat):Int),[.int 0],rfl,rfl,av,by lia,by lia,?_,fun rb Ur=>?_⟩
  ·rw [dI]
   exact ae (show [V.int 0].length*_≤200 by simp;lia) (by decide)
  rw [DI];have tb:ai rf (upd (upd rf lb (.lst [.int 0])) rb (.lst ((List.replicate (N-us.length) (0:Int)).map V.int))):=sb.trans (aB Ur);have LM:upd (upd rf lb (.lst [.int 0])) rb (.lst ((List.replicate (N-us.length) (0:Int)).map V.int)) rb=some (.lst ((List.replicate (N-us.length) (0:Int)).map V.int)):=av;generalize upd (upd rf lb (.lst [.int 0])) rb (.lst ((List.replicate (N-us.length) (0:Int)).map V.int))=H2 at tb LM ⊢;refine ⟨b,rb,_,_,rfl,rfl,tb _ _ (ua _ _ eb),LM,?_,fun cb Fb=>?_⟩
  ·rw [aT,aT,gR]
   exact ae (show _≤500 by lia) (by decide)
  rw [←rK];have ub:ai rf (upd H2 cb (.lst ((us++List.replicate (N-us.length) 0).map V.int))):=tb.trans (aB Fb);have Fc:upd H2 cb (.lst ((us++List.replicate (N-us.length) 0).map V.int)) cb=some (.lst ((us++List.replicate (N-us.length) 0).map V.int)):=av;generalize upd H2 cb (.lst ((us++List.replicate (N-us.length) 0).map V.int))=H2' at ub Fc ⊢;exact ⟨ca,cb,rfl,⟨_,.of (ub _ _ E_)⟩,⟨_,.of Fc⟩,h _ _ (ua.trans ub) (Dn (.of (ub _ _ E_)) (.of Fc))⟩
 ·intro x y kI Hx R sx kx
  exact ⟨_,rfl,_,rfl,_,_,rfl,rfl,kx Hx (ai.refl _)⟩
 ·have pad:∀(xs:List Int) (m t:Nat),ag (xs++List.replicate m 0) t=ag xs t:=fun xs m t=>by
   unfold ag;rw [fk,fk];by_cases h:t<xs.length;·rw [ib h]
   ·rw [gQ (by lia),kT (l:=xs) (by lia),kP]
    split <;> rfl
  refine k D He _ se eD ?_ fun t=>?_
  ·simp
   lia
  ·have e:ag (((ts++List.replicate (N-ts.length) 0).zip (us++List.replicate (N-us.length) 0)).map fun ab:Int×Int=>ab.1-ab.2) t=ag (ts++List.replicate (N-ts.length) 0) t-ag (us++List.replicate (N-us.length) 0) t:=by
    have lz:((ts++List.replicate (N-ts.length) 0).zip (us++List.replicate (N-us.length) 0)).length=N:=by simp;lia
    have la:(ts++List.replicate (N-ts.length) 0).length=N:=by simp;lia
    have lb:(us++List.replicate (N-us.length) 0).length=N:=by simp;lia
    unfold ag;by_cases h:t<N;·rw [getD_at (by simpa [lz] using h),getD_at (by lia),getD_at (by lia),jn,List.getElem_zip]
    ·rw [dr (by simp;lia),dr (by lia),dr (by lia)]
     rfl
   rw [e,pad,pad]
theorem Us:bo ["world","last","now","by","much","least","left"] ["world","last","now","by","much","least"] (aL Aj):=bI
theorem Ut(T:Txt K mg t):aW P w K mg base bQ 5 t.pP t.tG ["world","last","now","by","much","least"] (JQ t.a9):=by
 have S:=Us;have nY:=EU (P:=P) (w:=w) (base:=base) T;refine T.uB.cq S (fun _ _ _ _ H _ _ _ hr h=>?_);obtain ⟨z,a,b,c,q,xs,ys,bs,az,least,u,rfl,hz,hq,ea,eb,ec,l1,l2,l3,bx,Uu,bb,bc,bm,bl,nl,e,k⟩:=h
 refine ⟨_,(ak (putL 6 S.nd (aC (Uo T) hr T.Kp T.uA.kp T.Ko ay (aa (kj (N:=["number","much"]) (ρ:=(fun σ=>[σ[4]?.join])) (gD [4] rfl) rfl (j9 (pv 1)) (fun _ _ _=>.nil) (fun _ _ _=>(au fF (pv 1) (pv 0)))) (aa (aC (Lu T) hr T.Ep T.qK.kp T.Eo ay (aa (pv 3) (aa (pv 2) af))) af))))
  (aw (aR (aC (LJ T) hr T.En T.qJ.kp T.Em ay (aa (fB (pv 0) T.dk T.lR nY (hr.mono (by decide)) T.q8 .nil ay (aa (pv 6) (aa (pv 5) af))) af))))),?_⟩
 have fL:∀{Hx:Hp},ai H Hx→df t.a9 Hx z q:=fun sx=>hz.mono sx;refine fJ fun _ hR=>dq ?_;dsimp only [oZ];refine R6 (wZ (ts:=xs) (fun x=>az*x) (by lia) (fun R h=>⟨_,rfl,a,rfl,⟨_,.of ea⟩,h _ _ (ai.refl _) (m8 (.of ea))⟩) ?_ ?_)
 ·intro x hx Hx R sx kx
  exact ⟨_,rfl,_,rfl,_,_,rfl,rfl,⟨eW bm,eW (bx x hx).1⟩,kx Hx (ai.refl _)⟩
 intro D H1 nD s1 eD;have Uv:=s1 _ _ eb;have EW:=s1 _ _ ec;refine ⟨_,rfl,_,rfl,c,b,bs,ys,rfl,EW,Uv,(fun t h=>eW (bb t h)),(fun t h=>eW (Uu t h)),by lia,by lia,fun d H2 s2 nd ed=>?_⟩
 refine ⟨D,d,_,_,rfl,s2 _ _ eD,ed,by rw [aT];lia,by unfold gF;rw [aT,gw];lia,fun e' H3 ls s3 ee le ve=>hR _ _ ?_⟩
 have gh:=s1.trans (s2.trans s3);have vl:∀t,ag ls t=az*ag xs t-cv (ag bs) (ag ys) t:=fun t=>by
  rw [ve,RV]
  congr 1
  exact wV (by simp) t
 obtain ⟨dz,hd⟩:=fL gh;have cl:(gF bs ys).length≤bs.length+ys.length-1:=by unfold gF;rw [aT,gw];lia
 have ll:ls.length≤max xs.length (bs.length+ys.length-1):=by rw [le,aT];lia
 have Uw:∀x∈ls,aP x:=fun x hx=>by
  obtain ⟨t,ht,rfl⟩:=ig hx;have e1:=vl t;rw [show ag ls t=ls[t] from getD_at ht] at e1;rw [e1];have b1:(az*ag xs t).natAbs≤10 ^ 599:=by
   by_cases h:t<xs.length
   ·rw [show ag xs t=xs[t] from getD_at h]
    exact (bx _ (gj h)).2
   ·rw [c_ (by lia),cF]
    exact b9 _
  exact eW (ae (Int.natAbs_sub_le ..) (ae (oA b1 (bc t)) (by decide +kernel)))
 refine ⟨_,rfl,z,dz,_,rfl,hd,fG (by decide +kernel),⟨_,rfl,_,rfl,z,e',q,ls,least,u,rfl,fL gh,hq,ee,by lia,Uw,eW bl,nl,fun t _=>by rw [show ls.getD t 0=ag ls t from rfl,vl];exact e t,fun g H4 rs s4 ng eg lr Ux nn=>?_⟩⟩
 refine ⟨g,rs,rfl,eg,by lia,fun r H5 k5 s5 nr hk Fd hn er=>?_⟩
 obtain ⟨Uy,Uz,ek⟩:=JP (q:=q) nn hk hn Fd;refine k r H5 (rs.take k5) (gh.trans (s4.trans s5)) (none_of (gh.trans s4) nr) er (by rw [l_];lia) (fun t=>?_) Uy Uz
 rw [ek];by_cases h:t<ls.length;·exact Ux t h
 ·rw [c_ (by lia)]
  have z1:=e t;rw [←vl t,c_ (by lia)] at z1
  refine (xa hq nl ?_).symm;rw [cF];exact z1.symm
theorem UA:bo ["cell","at","x"] ["cell","at"] (aL AH):=bI
theorem UB(T:Txt K mg t):aW P w K mg base bQ 1 t.ql t.t_ ["cell","at"] Q3:=by
 have S:=UA;refine T.uR.cq S (fun _ _ _ _ H _ _ _ hr h=>?_);obtain ⟨c,a,rfl,ha,k⟩:=h
 refine ⟨_,(ak (bG (bw CB (pv 0) (au Cz ah ah)) (aw (aR (pv 0))) b6)
  (ak (putL 2 S.nd (au eJ (au d5 (au d5 (au fS (au eJ (pv 0) ah) ah) (au fS (pv 1) ah)) ah) ah))
  (ak (putL 2 S.nd (au eJ (au d5 (au d5 (au d5 (au fS (pv 2) (pv 2)) (au fS ah (pv 2))) (pv 1)) ah) ah))
  (aw (aR (au d5 (au fS (pv 2) ah) (au eJ (au d5 (au d5 (au fS (pv 2) (pv 2)) (au fS ah (pv 1))) ah) ah))))))),?_⟩
 refine ⟨_,rfl,_,_,rfl,rfl,⟨by decide,by decide,by decide⟩,_,_,rfl,rfl,_,rfl,bS (fun h=>?_) (fun h=>?_)⟩
 ·have h:=di h
  exact ⟨_,rfl,k _ (Int.le_trans (by decide) h)⟩
 ·refine ⟨_,rfl,_,_,rfl,rfl,(by show (0:Int)<2147483647;decide),_,_,rfl,rfl,.inr ⟨by decide,by decide⟩,_,rfl,_,_,rfl,rfl,.inr ⟨by decide,by decide⟩,_,_,rfl,rfl,_,_,rfl,rfl,_,_,rfl,rfl,(by show (0:Int)<2147483399;decide),?_⟩
  have b0:=du (c % 2147483647*40692+a*65539+7) (show (2147483399:Int)≠0 by decide)
  have b1:=dJ (c % 2147483647*40692+a*65539+7) (show (0:Int)<2147483399 by decide)
  generalize (c % 2147483647*40692+a*65539+7) % 2147483399=x at b0 b1 ⊢;refine ⟨_,rfl,_,rfl,_,_,rfl,rfl,.inl ⟨by lia,by lia⟩,_,rfl,_,_,rfl,rfl,.inl ⟨by decide,by decide⟩,_,_,rfl,rfl,_,rfl,_,_,rfl,rfl,_,_,rfl,rfl,_,_,rfl,rfl,(by show (0:Int)<2147483563;decide),?_⟩
  have c0:=du (x*x+40014*x+a+1) (show (2147483563:Int)≠0 by decide)
  have c1:=dJ (x*x+40014*x+a+1) (show (0:Int)<2147483563 by decide)
  generalize (x*x+40014*x+a+1) % 2147483563=y at c0 c1 ⊢;refine ⟨_,rfl,_,_,rfl,rfl,.inr ⟨by decide,by decide⟩,_,rfl,_,rfl,_,_,rfl,rfl,.inl ⟨by lia,by lia⟩,_,rfl,_,_,rfl,rfl,.inl ⟨by decide,by decide⟩,_,_,rfl,rfl,_,_,rfl,rfl,_,_,rfl,rfl,(by show (0:Int)<2147483543;decide),_,_,rfl,rfl,k _ (Int.add_nonneg (Int.mul_nonneg (du _ (by decide)) (by decide)) (du _ (by decide)))⟩
theorem UC:bo ["pen","many","at","cell","found"] ["pen","many"] (aL AI):=bI
theorem rg(T:Txt K mg t):aW P w K mg base bQ 2 t.qm t.uc ["pen","many"] (Q4 K):=by
 have S:=UC;refine T.d_.cq S (fun _ _ _ _ H _ _ _ hr h=>?_);obtain ⟨P0,a,ns,many,rfl,⟨x,y,eP,hx,hy⟩,hS,m1,mm,k⟩:=h;have rh:=hr.units
 refine ⟨_,(ak (bG (bw ke (aA bP (pv 0) ah) (pv 1)) (ak (putL 2 S.nd (aA bP (pv 0) ah))
  (ak (putL 3 S.nd ah)
  (ak (bG (bw ke (pv 2) (bp cn rfl T.ck cm (aa (aA bP (pv 0) ah) af))) (aw (putL 3 S.nd (aA bP (aA bP (pv 0) ah) (pv 2)))) (aw (bG (bw (Q1 rh) (aA bP (pv 0) ah) (cw af)) (aw (putL 3 S.nd (au d5 (au eJ (aA bP (aA bP (pv 0) ah) (au eJ (au fS (pv 2) ah) (bp cn rfl T.ck cm (aa (aA bP (pv 0) ah) af)))) ah) (au fS (pv 2) ah)))) b6)))
  (ak (@vZ _ _ _ _ _ _ (au d5 (pv 2) ah) (vY (pv 0) ah set_list) (by rfl) (by rfl) (by rfl))
  (aw (@vZ _ _ _ _ _ _ (aC (UB T) hr T.KZ T.uR.kp T.KY ay (aa (pv 3) (aa (pv 2) af))) (vY (pv 0) ah set_list) (by rfl) (by rfl) (by rfl))))))) b6)
  (ak (putL 4 S.nd (au eJ (aA bP (pv 0) ah) (pv 1)))
  (ak (@vZ _ _ _ _ _ _ (au C4 (aA bP (pv 0) ah) (pv 1)) (vY (pv 0) ah set_list) (by rfl) (by rfl) (by rfl))
  (aw (aR (pv 4)))))),?_⟩
 have Bl:=dS.seq hS;refine ⟨_,rfl,P0,_,_,_,rfl,rfl,.of eP,rfl,_,rfl,_,_,rfl,rfl,_,rfl,bS (fun cK=>?_) (fun cK=>?_)⟩
 ·refine ⟨_,rfl,P0,_,_,_,rfl,rfl,.of eP,rfl,?_⟩
  refine ⟨_,rfl,_,rfl,P0,_,_,_,rfl,rfl,.of eP,rfl,a,ns.map V.int,rfl,.inl Bl,_,_,rfl,rfl,_,rfl,bS (fun h1=>?_) (fun h1=>?_)⟩
  ·have h1:x<((ns.map V.int).length:Int):=di h1
   obtain ⟨v,hv,mv⟩:=Ik (xs:=ns.map V.int) hx h1;obtain ⟨c,_,rfl⟩:=fm.mp mv;refine ⟨_,rfl,P0,_,_,_,rfl,rfl,.of eP,rfl,_,rfl,a,ns.map V.int,_,_,rfl,rfl,Bl,hv,?_⟩;refine ⟨_,rfl,_,_,rfl,rfl,_,rfl,P0,_,1,1,rfl,rfl,eP,rfl,?_⟩;refine ⟨_,rfl,_,rfl,c,x,rfl,hx,fun r gL=>⟨_,rfl,P0,_,2,2,rfl,rfl,av,rfl,?_⟩⟩;have q0:=du (r) (show many≠0 by lia)
   have q1:=dJ (r) (show 0<many by lia)
   have q2:=vP (gL) (show 0≤many by lia)
   refine ⟨_,rfl,P0,_,_,_,rfl,rfl,.of av,rfl,_,rfl,_,_,rfl,rfl,(show 0<many by lia),?_⟩
   refine ⟨_,rfl,P0,_,_,_,rfl,rfl,.of av,rfl,_,rfl,_,_,rfl,rfl,⟨show 0<many by lia,mm⟩,_,rfl,P0,_,2,2,rfl,rfl,av,rfl,?_⟩
   exact ⟨_,rfl,k _ _ q0 q1 (((aK.refl H).trans aK.kr).trans (aK.kr.trans aK.kr)) ⟨x+1,r / many,av,by lia,q2⟩⟩
  ·refine ⟨_,rfl,P0,_,_,_,rfl,rfl,.of eP,rfl,by show 0≤sizeLine;decide,fun l nl=>?_⟩
   have sl:ai H (upd H l (.lst [])):=aB nl;refine ⟨a,l,ns.map V.int,rfl,rfl,sl.seq Bl,av,fun v hv=>?_,_,rfl,?_⟩
   ·obtain ⟨c,_,rfl⟩:=fm.mp hv
    exact ⟨c,rfl⟩
   have xH:=sl _ _ eP;have rj:=sl.seq Bl;generalize upd H l (.lst [])=H2 at sl xH rj ⊢;refine bS (fun h2=>?_) (fun h2=>?_)
   ·have hl:0<(ns.map V.int).length:=by
     cases ns with
     | nil=>simp at h2
     | cons=>simp
    have UD:=du (x*5) (show ((ns.map V.int).length:Int)≠0 by lia)
    have UE:=dJ (x*5) (show (0:Int)<((ns.map V.int).length:Int) by lia)
    obtain ⟨v,hv,mv⟩:=Ik (xs:=ns.map V.int) UD UE;obtain ⟨c,_,rfl⟩:=fm.mp mv;refine ⟨_,rfl,P0,_,_,_,rfl,rfl,.of xH,rfl,_,rfl,_,_,rfl,rfl,.inr ⟨by decide,by decide⟩,_,rfl,P0,_,_,_,rfl,rfl,.of xH,rfl,a,ns.map V.int,rfl,.inl rj,_,_,rfl,rfl,(show (0:Int)<((ns.map V.int).length:Int) by lia),a,ns.map V.int,_,_,rfl,rfl,rj,hv,_,_,rfl,rfl,(show (0:Int)<1000003 by decide),_,rfl,_,_,rfl,rfl,.inr ⟨by decide,by decide⟩,_,_,rfl,rfl,?_⟩
    refine ⟨_,rfl,_,_,rfl,rfl,_,rfl,P0,_,1,1,rfl,rfl,xH,rfl,?_⟩;refine ⟨_,rfl,_,rfl,_,x,rfl,hx,fun r gL=>⟨_,rfl,P0,_,2,2,rfl,rfl,av,rfl,?_⟩⟩;have q0:=du (r) (show many≠0 by lia)
    have q1:=dJ (r) (show 0<many by lia)
    have q2:=vP (gL) (show 0≤many by lia)
    refine ⟨_,rfl,P0,_,_,_,rfl,rfl,.of av,rfl,_,rfl,_,_,rfl,rfl,(show 0<many by lia),?_⟩
    refine ⟨_,rfl,P0,_,_,_,rfl,rfl,.of av,rfl,_,rfl,_,_,rfl,rfl,⟨show 0<many by lia,mm⟩,_,rfl,P0,_,2,2,rfl,rfl,av,rfl,?_⟩
    exact ⟨_,rfl,k _ _ q0 q1 (((aK.of sl).trans aK.kr).trans (aK.kr.trans aK.kr)) ⟨x+1,r / many,av,by lia,q2⟩⟩
   ·
    refine ⟨_,rfl,_,_,rfl,rfl,_,rfl,P0,_,1,1,rfl,rfl,xH,rfl,?_⟩;refine ⟨_,rfl,_,rfl,0,x,rfl,hx,fun r gL=>⟨_,rfl,P0,_,2,2,rfl,rfl,av,rfl,?_⟩⟩;have q0:=du (r) (show many≠0 by lia)
    have q1:=dJ (r) (show 0<many by lia)
    have q2:=vP (gL) (show 0≤many by lia)
    refine ⟨_,rfl,P0,_,_,_,rfl,rfl,.of av,rfl,_,rfl,_,_,rfl,rfl,(show 0<many by lia),?_⟩
    refine ⟨_,rfl,P0,_,_,_,rfl,rfl,.of av,rfl,_,rfl,_,_,rfl,rfl,⟨show 0<many by lia,mm⟩,_,rfl,P0,_,2,2,rfl,rfl,av,rfl,?_⟩
    exact ⟨_,rfl,k _ _ q0 q1 (((aK.of sl).trans aK.kr).trans (aK.kr.trans aK.kr)) ⟨x+1,r / many,av,by lia,q2⟩⟩
 ·dsimp only [iq]
  have q0:=du (y) (show many≠0 by lia)
  have q1:=dJ (y) (show 0<many by lia)
  have q2:=vP (hy) (show 0≤many by lia)
  refine ⟨_,rfl,P0,_,_,_,rfl,rfl,.of eP,rfl,_,rfl,_,_,rfl,rfl,(show 0<many by lia),?_⟩
  refine ⟨_,rfl,P0,_,_,_,rfl,rfl,.of eP,rfl,_,rfl,_,_,rfl,rfl,⟨show 0<many by lia,mm⟩,_,rfl,P0,_,2,2,rfl,rfl,eP,rfl,?_⟩
  exact ⟨_,rfl,k _ _ q0 q1 (aK.kr) ⟨x,y / many,av,hx,q2⟩⟩
theorem UG:bo ["top","bottom","one","other"] ["top","bottom"] (aL AJ):=bI
theorem xI(T:Txt K mg t):aW P w K mg base bQ 1 t.qo t.ud ["top","bottom"] Qg:=by
 have S:=UG;refine T.kC.cq S (fun _ _ _ _ H _ Q _ hr h=>?_);obtain ⟨a,b,rfl,hb,mb,k⟩:=h
 refine ⟨_,(ak (putL 2 S.nd (bp yP rfl T.xB boot_abs (aa (pv 0) af)))
  (ak (putL 3 S.nd (bp yP rfl T.xB boot_abs (aa (pv 1) af)))
  (ak (mG eo (bw oS (pv 3) ah) (aw (NR (i:=2) (j:=3) rfl S.nd rfl rfl (by decide) rfl rfl (aa (pv 3) (aa (au eJ (pv 2) (pv 3)) af)) rfl)))
  (ak (bG (bw ke (pv 1) ah) (aw (putL 2 S.nd (jt ju (pv 2)))) b6)
  (aw (aR (fA (aa (au wF (pv 0) (pv 2)) (aa (au wF (pv 1) (pv 2)) af))))))))),?_⟩
 have ok:=Im (a:=a) hb mb;refine ⟨_,rfl,a,rfl,_,rfl,b,rfl,fun m σ H'=>H'=H∧∃(x y:Nat),σ=[some (.int a),some (.int b),some (.int (x:Int)),some (.int (y:Int))]∧m=y∧Nat.gcd x y=Int.gcd a b,⟨b.natAbs,rfl,a.natAbs,b.natAbs,?_,rfl,rfl⟩,?_⟩
 ·show [some (V.int a),some (V.int b),some (V.int (if a<0 then -a else a)),some (V.int (if b<0 then -b else b))]=_
  rw [y_,y_]
 ·rintro m σ H' ⟨rfl,x,y,rfl,em,hg⟩
  refine ⟨_,rfl,rfl,_,rfl,bS (fun hy=>?_) (fun hy=>?_)⟩
  ·have hy:y≠0:=fun z=>by subst z;revert hy;decide
   refine ⟨fun σ' H2=>H2=H'∧σ'=[some (.int a),some (.int b),some (.int (y:Int)),some (.int (((x % y:Nat)):Int))],?_,?_⟩
   ·rintro σ' H2 ⟨rfl,rfl⟩
    exact ⟨x % y,by rw [em];exact Nat.mod_lt _ (by lia),rfl,y,x % y,rfl,rfl,by rw [Il];exact hg⟩
   ·exact ⟨_,rfl,_,rfl,_,rfl,_,_,rfl,rfl,(show (0:Int)<y by lia),_,_,rfl,rfl,rfl⟩
  ·have y0:y=0:=by
    by_cases z:y=0;·exact z
    ·refine absurd ?_ hy
     rw [o9,fM (by lia)]
     rfl
   subst y0;rw [Nat.gcd_zero_right] at hg;have LN:∀(g:Int),g=lowG a b→∀(p:Addr),H' p=none→Q (.ref p) (upd H' p (.tup [.int (a.fdiv g),.int (b.fdiv g)])):=fun g e p hp=>by rw [e];exact k p _ (aB hp) av
   refine ⟨_,rfl,_,_,rfl,rfl,_,rfl,bS (fun hn=>?_) (fun hn=>?_)⟩
   ·have hn:b<0:=di hn
    have eg:-(x:Int)=lowG a b:=by unfold lowG;rw [ar hn,hg,rF]
    have gI:y6 0 (-(x:Int)):=by rw [eg];exact ok
    exact ⟨_,rfl,_,rfl,_,rfl,_,rfl,_,_,rfl,rfl,gI,_,rfl,_,rfl,_,_,rfl,rfl,gI,by show 2≤sizeLine;decide,LN _ eg⟩
   ·have hn:¬b<0:=fun z=>hn (dE z)
    have eg:(x:Int)=lowG a b:=by unfold lowG;rw [ao hn,hg]
    have gI:y6 0 (x:Int):=by rw [eg];exact ok
    exact ⟨_,rfl,_,rfl,_,_,rfl,rfl,gI,_,rfl,_,rfl,_,_,rfl,rfl,gI,by show 2≤sizeLine;decide,LN _ eg⟩
theorem UH:bo ["told","number"] ["told","number"] (aL AK):=bI
theorem vg(T:Txt K mg t){B:Nat}:aW P w K mg base bQ 1 t.qp t.ue ["told","number"] (Jd B):=by
 have S:=UH;refine T.gK.cq S (fun _ _ _ _ H _ _ _ hr h=>?_);obtain ⟨td,q,i,rfl,ht,hq,bi,b1,k⟩:=h
 refine ⟨_,(ak (bG (bw dO (aA a8 (pv 0) ah) eF) (aw (aR (au eJ (pv 1) (aA a8 (pv 0) ah)))) b6)
  (aw (aR (fA (aa (pv 1) (aa ah af)))))),?_⟩
 unfold dB at ht;by_cases z:q=0
 ·subst z
  rw [pA] at ht;refine ⟨_,rfl,td,_,_,_,rfl,rfl,.of ht,rfl,rfl,false,by decide +kernel,cO ?_⟩
  refine ⟨_,rfl,by show 2≤sizeLine;decide,fun r nr=>k _ _ (aB nr) ?_⟩
  unfold cf;rw [ar rfl];exact .bR av ⟨show (1:Int)≤1 by decide,yr ..⟩ bi (by show Int.natAbs 1≤B;lia)
 ·rw [ni z] at ht
  obtain ⟨q2,q3,q4⟩:=hq.resolve_left z;refine ⟨_,rfl,td,_,_,_,rfl,rfl,.of ht,rfl,rfl,true,by decide +kernel,dG ?_⟩
  refine ⟨_,rfl,_,rfl,td,_,_,_,rfl,rfl,.of ht,rfl,_,_,rfl,rfl,(show 0<q by lia),k _ H (ai.refl H) ?_⟩
  unfold cf;rw [ao z];exact .rem (du _ z) (dJ _ (by lia)) q3
theorem UI:bo ["told","a","b"] ["told","a","b"] (aL AL):=bI
theorem LO(T:Txt K mg t):aW P w K mg base bQ 2 t.qr t.uf ["told","a","b"] (Jh nj):=by
 have S:=UI;refine T.qV.cq S (fun _ _ _ _ H _ _ _ hr h=>?_);obtain ⟨td,q,v,u,⟨x,m⟩,⟨y,n⟩,B,rfl,ht,hq,hv,hu,b1,xJ,k⟩:=h
 refine ⟨_,(ak (bG (bw dO (aA a8 (pv 0) ah) eF) (aw (aR (au eJ (au d5 (pv 1) (pv 2)) (aA a8 (pv 0) ah)))) b6)
  (aw (aR (aC (xI T) hr T.uT T.kC.kp T.uS ay (aa (au d5 (au fF (aA a8 (pv 1) ah) (aA a8 (pv 2) ah)) (au fF (aA a8 (pv 2) ah) (aA a8 (pv 1) ah))) (aa (au fF (aA a8 (pv 1) ah) (aA a8 (pv 2) ah)) af)))))),?_⟩
 unfold dB at ht;have bB:B≤2*B*B:=ae (fR B (by lia)) (fQ _ (by lia))
 have big:∀{x:Int},x.natAbs≤B→aP x:=fun h=>aP.zA xJ (ae h bB);by_cases z:q=0
 ·subst z
  rw [pA] at ht;refine ⟨_,rfl,td,_,_,_,rfl,rfl,.of ht,rfl,rfl,false,by decide +kernel,cO ?_⟩
  dsimp only at hv hu;cases hv with
  | bR e l bx bm=>
   rename_i p
   cases hu with
   | bR e' l' xK mQ=>
    rename_i p'
    have m0:=l.pos;have n0:=l'.pos;have mn:0<m*n:=Int.mul_pos (by lia) (by lia)
    have xM:(m*n).natAbs≤2*B*B:=by rw [a7];exact ae (bE bm mQ) (fW _ (by lia))
    have bt:(x*n+y*m).natAbs≤2*B*B:=by refine ae (vL ..) ?_;rw [a7,a7];refine ae (oA (bE bx mQ) (bE xK bm)) (iP ?_);rw [mi,oB]
    refine ⟨_,rfl,p,_,_,_,rfl,rfl,.of e,rfl,_,rfl,p',_,_,_,rfl,rfl,.of e',rfl,_,_,rfl,rfl,⟨big bx,big mQ⟩,_,rfl,p',_,_,_,rfl,rfl,.of e',rfl,_,rfl,p,_,_,_,rfl,rfl,.of e,rfl,_,_,rfl,rfl,⟨big xK,big bm⟩,_,_,rfl,rfl,_,rfl,p,_,_,_,rfl,rfl,.of e,rfl,_,rfl,p',_,_,_,rfl,rfl,.of e',rfl,_,_,rfl,rfl,⟨big bm,big mQ⟩,_,_,rfl,Int.ne_of_gt mn,aP.zA xJ xM,fun r H' s' kJ=>k _ H' s' ?_⟩;unfold nj;rw [ar rfl];exact zu kJ (show 1≤m*n by lia) bt xM
   | rem h0 h1 h2=>lia
  | rem h0 h1 h2=>lia
 ·rw [ni z] at ht
  obtain ⟨q2,q3,q4⟩:=hq.resolve_left z;refine ⟨_,rfl,td,_,_,_,rfl,rfl,.of ht,rfl,rfl,true,by decide +kernel,dG ?_⟩
  dsimp only at hv hu;cases hv with
  | bR=>lia
  | rem h0 h1 h2=>
   cases hu with
   | bR=>lia
   | rem m7 zg Jc=>
    refine ⟨_,rfl,_,rfl,_,_,rfl,rfl,_,rfl,td,_,_,_,rfl,rfl,.of ht,rfl,_,_,rfl,rfl,(show 0<q by lia),k _ H (ai.refl H) ?_⟩
    unfold nj;rw [ao z];exact .rem (du _ z) (dJ _ (by lia)) q3
theorem UJ:bo ["told","a","b"] ["told","a","b"] (aL AM):=bI
theorem UK(T:Txt K mg t):aW P w K mg base bQ 2 t.qs t.ug ["told","a","b"] (Jh mulQ):=by
 have S:=UJ;refine T.uU.cq S (fun _ _ _ _ H _ _ _ hr h=>?_);obtain ⟨td,q,v,u,⟨x,m⟩,⟨y,n⟩,B,rfl,ht,hq,hv,hu,b1,xJ,k⟩:=h
 refine ⟨_,(ak (bG (bw dO (aA a8 (pv 0) ah) eF) (aw (aR (au eJ (au fS (pv 1) (pv 2)) (aA a8 (pv 0) ah)))) b6)
  (aw (aR (aC (xI T) hr T.uT T.kC.kp T.uS ay (aa (au fF (aA a8 (pv 1) ah) (aA a8 (pv 2) ah)) (aa (au fF (aA a8 (pv 1) ah) (aA a8 (pv 2) ah)) af)))))),?_⟩
 unfold dB at ht;have bB:B≤2*B*B:=ae (fR B (by lia)) (fQ _ (by lia))
 have big:∀{x:Int},x.natAbs≤B→aP x:=fun h=>aP.zA xJ (ae h bB);by_cases z:q=0
 ·subst z
  rw [pA] at ht;refine ⟨_,rfl,td,_,_,_,rfl,rfl,.of ht,rfl,rfl,false,by decide +kernel,cO ?_⟩
  dsimp only at hv hu;cases hv with
  | bR e l bx bm=>
   rename_i p
   cases hu with
   | bR e' l' xK mQ=>
    rename_i p'
    have m0:=l.pos;have n0:=l'.pos;have mn:0<m*n:=Int.mul_pos (by lia) (by lia)
    have xM:(m*n).natAbs≤2*B*B:=by rw [a7];exact ae (bE bm mQ) (fW _ (by lia))
    have bt:(x*y).natAbs≤2*B*B:=by rw [a7];exact ae (bE bx xK) (fW _ (by lia))
    refine ⟨_,rfl,p,_,_,_,rfl,rfl,.of e,rfl,_,rfl,p',_,_,_,rfl,rfl,.of e',rfl,_,_,rfl,rfl,⟨big bx,big xK⟩,_,rfl,p,_,_,_,rfl,rfl,.of e,rfl,_,rfl,p',_,_,_,rfl,rfl,.of e',rfl,_,_,rfl,rfl,⟨big bm,big mQ⟩,_,_,rfl,Int.ne_of_gt mn,aP.zA xJ xM,fun r H' s' kJ=>k _ H' s' ?_⟩;unfold mulQ;rw [ar rfl];exact zu kJ (show 1≤m*n by lia) bt xM
   | rem h0 h1 h2=>lia
  | rem h0 h1 h2=>lia
 ·rw [ni z] at ht
  obtain ⟨q2,q3,q4⟩:=hq.resolve_left z;refine ⟨_,rfl,td,_,_,_,rfl,rfl,.of ht,rfl,rfl,true,by decide +kernel,dG ?_⟩
  dsimp only at hv hu;cases hv with
  | bR=>lia
  | rem h0 h1 h2=>
   cases hu with
   | bR=>lia
   | rem m7 zg Jc=>
    refine ⟨_,rfl,_,rfl,_,_,rfl,rfl,.inl ⟨by lia,by lia⟩,_,rfl,td,_,_,_,rfl,rfl,.of ht,rfl,_,_,rfl,rfl,(show 0<q by lia),k _ H (ai.refl H) ?_⟩
    unfold mulQ;rw [ao z];exact .rem (du _ z) (dJ _ (by lia)) q3
theorem UL:bo ["told","a","part"] ["told","a"] (aL AN):=bI
theorem UM(T:Txt K mg t):aW P w K mg base bQ 2 t.qt t.uh ["told","a"] Q5:=by
 have S:=UL;refine T.uV.cq S (fun _ _ _ _ H _ Q _ hr h=>?_);obtain ⟨td,q,v,x,m,B,rfl,ht,hq,hv,hB,k⟩:=h;have hu:=hr.wc
 refine ⟨_,(ak (bG (bw dO (aA a8 (pv 0) ah) eF) (aw (aR (k6 (bp (ki (K:=K)) rfl T.jR boot_isinstance (aa (pv 1) (aa (j7 (v:=.ty "int") rfl T.xC boot_int rfl) af))) (k6 (GO (bp (ki (K:=K)) rfl T.jR boot_isinstance (aa (pv 1) (aa (j7 (v:=.ty "bool") rfl T.Bc boot_bool rfl) af)))) (rR (Hn r6 ke ah (pv 1) (aA a8 (pv 0) ah))))))) b6)
  (ak (bG (PW.pt (pw_or (rQ (mC (bp (ki (K:=K)) rfl T.jR boot_isinstance (aa (pv 1) (aa (j7 (v:=.ty "tuple") rfl T.Bd boot_tuple rfl) af))))) (pw_or1 (bw oS (bp cn rfl T.ck cm (aa (pv 1) af)) ah)))) (aw (aR iX)) b6)
  (ak (iY eo rfl (N6 (pv 1)) (e_ (i:=2) S.nd rfl (Or.inl rfl))
   (aw (bG (PW.pt (pw_or (rQ (mC (bp (ki (K:=K)) rfl T.jR boot_isinstance (aa (pv 2) (aa (j7 (v:=.ty "int") rfl T.xC boot_int rfl) af))))) (pw_or1 (mC (bp (ki (K:=K)) rfl T.jR boot_isinstance (aa (pv 2) (aa (j7 (v:=.ty "bool") rfl T.Bc boot_bool rfl) af))))))) (aw (aR iX)) b6)))
  (aw (aR (k6 (mK jv (aA a8 (pv 1) ah) ah) (rR (mK (Ih hu) (pv 1) (aC (xI T) hr T.uT T.kC.kp T.uS ay (aa (aA a8 (pv 1) ah) (aa (aA a8 (pv 1) ah) af))))))))))),?_⟩
 unfold dB at ht;cases hv with
 | bR e l bx bm=>
  rename_i p
  rw [pA] at ht;refine ⟨_,rfl,td,_,_,_,rfl,rfl,.of ht,rfl,rfl,false,by decide +kernel,cO ?_⟩
  refine ⟨_,rfl,_,_,_,true,rfl,rfl,.of (.tup e),y8,true,rfl,cO ?_⟩;refine ⟨_,rfl,p,_,rfl,.inr (.of e),rfl,false,by rw [o9];rfl,cO ?_⟩
  refine ⟨_,rfl,p,rfl,⟨_,.of e⟩,?_⟩;refine Oa (K:=K) (a:=p) (xs:=[.int x,.int m]) (fun i σ Hc=>Hc=H∧∃v2:Option V,σ=[some (.ref td),some (.ref p),v2]) ⟨rfl,_,rfl⟩ (fun i σ Hc _ ⟨z,_⟩=>by rw [z];exact .of e) ?_ ?_
  ·rintro i v σ Hc hi ⟨rfl,v2,rfl⟩
   obtain ⟨c,rfl⟩:∃c:Int,v=.int c:=by
    match i,hi with
    | 0,h=>cases h;exact ⟨_,rfl⟩
    | 1,h=>cases h;exact ⟨_,rfl⟩
    | i+2,h=>cases h
   refine ⟨_,rfl,_,_,_,true,rfl,rfl,.of (.int c),rfl,true,rfl,cO ?_⟩;refine ⟨_,rfl,_,_,_,false,rfl,rfl,.of (.int c),rfl,false,rfl,cO ?_⟩;exact ⟨rfl,_,rfl⟩
  ·rintro σ Hc ⟨rfl,v2,rfl⟩
   have m0:=l.pos;refine ⟨_,rfl,p,_,_,_,rfl,rfl,.of e,rfl,_,_,rfl,rfl,true,by show V.bl (decide ((0:Int)<m))=_;rw [dE (show (0:Int)<m by lia)],dG ?_⟩
   refine ⟨_,rfl,_,rfl,p,_,_,_,rfl,rfl,.of e,rfl,_,rfl,p,_,_,_,rfl,rfl,.of e,rfl,x,m,rfl,by lia,fV (ae bm hB) Qi,fun r H' s' kJ=>?_⟩
   have e1:lowG x m=1:=by unfold lowG;rw [ao (by lia),l.zb];rfl
   rw [e1,Int.fdiv_one,Int.fdiv_one] at kJ;refine ⟨p,r,_,_,rfl,rfl,.of (s' _ _ e),.of kJ,rfl,rfl,?_⟩;show Q (.bl (gX [V.int x,V.int m] [V.int x,V.int m])) H';rw [Qu];exact k H' s'
 | rem h0 h1 h2=>
  have z:q≠0:=by lia
  rw [ni z] at ht;refine ⟨_,rfl,td,_,_,_,rfl,rfl,.of ht,rfl,rfl,true,by decide +kernel,dG ?_⟩
  refine ⟨_,rfl,_,_,_,true,rfl,rfl,.of (.int x),rfl,true,rfl,dG ?_⟩;refine ⟨_,rfl,_,_,_,false,rfl,rfl,.of (.int x),rfl,false,rfl,_,rfl,dG ?_⟩;refine ⟨_,rfl,_,_,rfl,rfl,true,by show V.bl (decide ((0:Int)≤x))=_;rw [dE h0],dG ?_⟩
  refine ⟨_,rfl,td,_,_,_,rfl,rfl,.of ht,rfl,_,_,rfl,rfl,?_⟩;show Q (.bl (decide (x<q))) H;rw [dE h1];exact k H (ai.refl H)
theorem UN:bo ["told","found"] ["told","found"] (aL AO):=bI
theorem UO(T:Txt K mg t):aW P w K mg base bQ 3 t.qu t.ui ["told","found"] Q6:=by
 have S:=UN;refine T.uW.cq S (fun _ _ _ _ H vs _ _ hr h=>?_);obtain ⟨td,a,q,ps,B,rfl,ht,hq,⟨vs,ea,hl,hn⟩,ET,hB,k⟩:=h;refine ⟨_,(aw (aR (k6 (bp (ki (K:=K)) rfl T.jR boot_isinstance (aa (pv 1) (aa (j7 (v:=.ty "list") rfl T.nU boot_list rfl) af))) (rR (bp (P2 (K:=K) rfl) rfl T.Lj boot_all (aa (kj (N:=["a","told"]) (ρ:=(fun σ=>[σ[0]?.join])) (gD [0] rfl) rfl (j9 (pv 1)) (fun _ _ _=>.nil) (fun _ _ _=>(aC (UM T) hr T.K3 T.uV.kp T.K2 ay (aa (pv 1) (aa (pv 0) af))))) af)))))),?_⟩;refine ⟨_,rfl,_,_,_,true,rfl,rfl,.of (.lst ea),y8,true,rfl,dG ?_⟩;refine QH (Qv (xs:=vs) (fun R h=>⟨_,rfl,a,rfl,⟨_,.of ea⟩,h _ _ (ai.refl _) (m8 (.of ea))⟩) (by rw [hl];exact jA (by lia)) (fun _ i y _=>y=.bl true) (fun _ _ _ _ _ _ h _ _=>h) ?_ ?_)
 ·intro D i v hi Hc R sc _ kc
  have cD:i<ps.length:=by rw [←hl];exact (cU.mp hi).1
  exact ⟨_,rfl,_,rfl,td,q,v,_,_,B,rfl,ht.mono sc,hq,(hn i v ps[i] hi (by simp [cD])).mono sc,hB,fun H' s'=>kc _ H' s' rfl⟩
 ·intro D ys Hc sc Bg hP eD
  refine ⟨D,List.replicate ys.length true,rfl,.of (by rw [eD];exact fN _ (fN _ (QK hP))),?_⟩
  rw [QL];exact k Hc sc
theorem UP:bo ["pen","way"] ["pen"] (aL AQ):=bI
theorem UQ(T:Txt K mg t):aW P w K mg base bQ 3 t.qv t.uj ["pen"] (Q7 K):=by
 have S:=UP;have hJ:=rg (P:=P) (w:=w) (base:=base) T;refine T.uX.cq S (fun _ _ _ _ H _ _ _ hr h=>?_);obtain ⟨P0,a,ns,rfl,pc,hS,k⟩:=h
 refine ⟨_,(@ak _ _ _ _ _ (@i6 _ _ 1 _ _ _ _ (by rfl) (by first | exact .inl rfl | exact .inr rfl | assumption) S.nd rfl (Or.inl rfl) (f9 hJ (hr.mono (by decide)) rfl T.fU T.d_.kp T.fT .nil ay (@aO _ _ _ _ _ (by rfl) (pv 0) (@aO _ _ _ _ _ (by rfl) ah af))))
   (@ak _ _ _ _ _ (@bG _ _ _ _ _ _ _ _ (@kf _ _ _ _ _ _ _ _ ke (pv 1) ah (jw _)) (@aw _ _ _ (@aR _ _ _ _ (@fA _ _ _ _ _ (@aO _ _ _ _ _ (by rfl) eF af)))) b6)
   (@ak _ _ _ _ _ (@bG _ _ _ _ _ _ _ _ (@kf _ _ _ _ _ _ _ _ ke (pv 1) ah (jw _)) (@aw _ _ _ (@aR _ _ _ _ (@fA _ _ _ _ _ (@aO _ _ _ _ _ (by rfl) eF (@aO _ _ _ _ _ (by rfl) (@jz _ _ _ _ _ _ _ bP (@cw _ _ _ _ (@aO _ _ _ _ _ (by rfl) ah (@aO _ _ _ _ _ (by rfl) ah (@aO _ _ _ _ _ (by rfl) ah (@aO _ _ _ _ _ (by rfl) ah af))))) (f9 hJ (hr.mono (by decide)) rfl T.fU T.d_.kp T.fT .nil ay (@aO _ _ _ _ _ (by rfl) (pv 0) (@aO _ _ _ _ _ (by rfl) ah af))) (fun _ _=>rfl)) af))))) b6)
   (@aw _ _ _ (@aR _ _ _ _ (@fA _ _ _ _ _ (@aO _ _ _ _ _ (by rfl) eF (@aO _ _ _ _ _ (by rfl) (@jz _ _ _ _ _ _ _ bP (@cw _ _ _ _ (@aO _ _ _ _ _ (by rfl) ah (@aO _ _ _ _ _ (by rfl) ah (@aO _ _ _ _ _ (by rfl) ah (@aO _ _ _ _ _ (by rfl) ah (@aO _ _ _ _ _ (by rfl) ah (@aO _ _ _ _ _ (by rfl) ah (@aO _ _ _ _ _ (by rfl) ah (@aO _ _ _ _ _ (by rfl) ah (@aO _ _ _ _ _ (by rfl) ah (@aO _ _ _ _ _ (by rfl) ah af))))))))))) (f9 hJ (hr.mono (by decide)) rfl T.fU T.d_.kp T.fT .nil ay (@aO _ _ _ _ _ (by rfl) (pv 0) (@aO _ _ _ _ _ (by rfl) ah af))) (fun _ _=>rfl)) af)))))))),?_⟩
 refine ⟨_,rfl,P0,a,ns,5,rfl,pc,hS,by decide,aP.of_lt (by decide) (by decide),fun r H1 r0 r1 sA p1=>?_⟩
 have fh:a_ K (er P0 H1) a (ns.map V.int):=ai.seq sA hS;refine ⟨_,rfl,_,_,rfl,rfl,_,rfl,bS (fun _=>?_) (fun _=>?_)⟩
 ·refine ⟨by show 1≤sizeLine;decide,fun td jS=>?_⟩
  have np:=p1.ne jS;refine k td 0 _ (.inl rfl) (sA.trans (aK.of (aB jS))) (p1.mono (aB jS)) ?_;unfold dB;rw [pA,pz np];exact av
 refine ⟨_,rfl,_,_,rfl,rfl,_,rfl,bS (fun _=>?_) (fun _=>?_)⟩
 ·refine ⟨by show 4≤sizeLine;decide,fun l nl=>?_⟩
  have nP:=p1.ne nl;have sl:ai H1 (upd H1 l (.lst [.int 2,.int 3,.int 5,.int 7])):=aB nl;have el:upd H1 l (.lst [.int 2,.int 3,.int 5,.int 7]) l=some (.lst [.int 2,.int 3,.int 5,.int 7]):=av;have pl:=p1.mono sl;have n_:a_ K (er P0 (upd H1 l (.lst [.int 2,.int 3,.int 5,.int 7]))) a (ns.map V.int):=ai.seq (wQ sl) fh;generalize upd H1 l (.lst [.int 2,.int 3,.int 5,.int 7])=H2 at sl el pl n_ ⊢;refine ⟨_,rfl,P0,a,ns,4,rfl,pl,n_,by decide,aP.of_lt (by decide) (by decide),fun r H3 r0 r1 s3 p3=>?_⟩
  obtain ⟨q,xN,hq,nX⟩:∃q:Int,dA ([.int 2,.int 3,.int 5,.int 7]:List V) r=some (.int q)∧ax q∧q≠0:=by
   rcases (show r=0∨r=1∨r=2∨r=3 by lia) with rfl | rfl | rfl | rfl
   ·exact ⟨2,rfl,.inr ⟨by decide,by decide,by decide⟩,by decide⟩
   ·exact ⟨3,rfl,.inr ⟨by decide,by decide,by decide⟩,by decide⟩
   ·exact ⟨5,rfl,.inr ⟨by decide,by decide,by decide⟩,by decide⟩
   ·exact ⟨7,rfl,.inr ⟨by decide,by decide,by decide⟩,by decide⟩
  refine ⟨l,_,_,_,rfl,rfl,.of (s3.at nP el),xN,by show 2≤sizeLine;decide,fun td jS=>?_⟩
  have np:=p3.ne jS;refine k td q _ hq ((sA.trans (aK.of sl)).trans (s3.trans (aK.of (aB jS)))) (p3.mono (aB jS)) ?_;unfold dB;rw [ni nX,pz np];exact av
 ·refine ⟨by show 10≤sizeLine;decide,fun l nl=>?_⟩
  have nP:=p1.ne nl;have sl:ai H1 (upd H1 l (.lst [.int 11,.int 13,.int 29,.int 97,.int 101,.int 257,.int 499,.int 743,.int 991,.int 997])):=aB nl;have el:upd H1 l (.lst [.int 11,.int 13,.int 29,.int 97,.int 101,.int 257,.int 499,.int 743,.int 991,.int 997]) l=some (.lst [.int 11,.int 13,.int 29,.int 97,.int 101,.int 257,.int 499,.int 743,.int 991,.int 997]):=av;have pl:=p1.mono sl;have n_:a_ K (er P0 (upd H1 l (.lst [.int 11,.int 13,.int 29,.int 97,.int 101,.int 257,.int 499,.int 743,.int 991,.int 997]))) a (ns.map V.int):=ai.seq (wQ sl) fh;generalize upd H1 l (.lst [.int 11,.int 13,.int 29,.int 97,.int 101,.int 257,.int 499,.int 743,.int 991,.int 997])=H2 at sl el pl n_ ⊢;refine ⟨_,rfl,P0,a,ns,10,rfl,pl,n_,by decide,aP.of_lt (by decide) (by decide),fun r H3 r0 r1 s3 p3=>?_⟩
  obtain ⟨q,xN,hq,nX⟩:∃q:Int,dA ([.int 11,.int 13,.int 29,.int 97,.int 101,.int 257,.int 499,.int 743,.int 991,.int 997]:List V) r=some (.int q)∧ax q∧q≠0:=by
   rcases (show r=0∨r=1∨r=2∨r=3∨r=4∨r=5∨r=6∨r=7∨r=8∨r=9 by lia) with rfl | rfl | rfl | rfl | rfl | rfl | rfl | rfl | rfl | rfl
   ·exact ⟨11,rfl,.inr ⟨by decide,by decide,by decide⟩,by decide⟩
   ·exact ⟨13,rfl,.inr ⟨by decide,by decide,by decide⟩,by decide⟩
   ·exact ⟨29,rfl,.inr ⟨by decide,by decide,by decide⟩,by decide⟩
   ·exact ⟨97,rfl,.inr ⟨by decide,by decide,by decide⟩,by decide⟩
   ·exact ⟨101,rfl,.inr ⟨by decide,by decide,by decide⟩,by decide⟩
   ·exact ⟨257,rfl,.inr ⟨by decide,by decide,by decide⟩,by decide⟩
   ·exact ⟨499,rfl,.inr ⟨by decide,by decide,by decide⟩,by decide⟩
   ·exact ⟨743,rfl,.inr ⟨by decide,by decide,by decide⟩,by decide⟩
   ·exact ⟨991,rfl,.inr ⟨by decide,by decide,by decide⟩,by decide⟩
   ·exact ⟨997,rfl,.inr ⟨by decide,by decide,by decide⟩,by decide⟩
  refine ⟨l,_,_,_,rfl,rfl,.of (s3.at nP el),xN,by show 2≤sizeLine;decide,fun td jS=>?_⟩
  have np:=p3.ne jS;refine k td q _ hq ((sA.trans (aK.of sl)).trans (s3.trans (aK.of (aB jS)))) (p3.mono (aB jS)) ?_;unfold dB;rw [ni nX,pz np];exact av
theorem UR:bo ["pen","told","far","kind","top"] ["pen","told","far"] (aL AR):=bI
theorem LP(T:Txt K mg t):aW P w K mg base bQ 3 t.qw t.uk ["pen","told","far"] (Ru K):=by
 have S:=UR;have hJ:=rg (P:=P) (w:=w) (base:=base) T;refine T.qW.cq S (fun _ _ _ _ H _ _ _ hr h=>?_);obtain ⟨P0,a,td,ns,q,cQ,F,rfl,pc,hS,ht,hq,f1,f2,f3,f4,k⟩:=h
 refine ⟨_,(ak (putL 3 S.nd (aC hJ hr T.fU T.d_.kp T.fT ay (aa (pv 0) (aa ah af))))
  (ak (bG (bw dO (aA a8 (pv 1) ah) eF) (ak (bG (bw ke (pv 3) ah) (aw (aR ah)) b6)
  (aw (aR (aC hJ hr T.fU T.d_.kp T.fT ay (aa (pv 0) (aa (aA a8 (pv 1) ah) af)))))) b6)
  (ak (bG (bw ke (pv 3) ah) (aw (aR (fA (aa ah (aa ah af))))) b6)
  (ak (bG (bw dO (pv 3) ah) (ak (putL 4 S.nd (au fS (au d8 ah (au fS ah (aC hJ hr T.fU T.d_.kp T.fT ay (aa (pv 0) (aa ah af))))) (aC hJ hr T.fU T.d_.kp T.fT ay (aa (pv 0) (aa (pv 2) af)))))
  (aw (aR (aC (xI T) hr T.uT T.kC.kp T.uS ay (aa (pv 4) (aa (au d5 ah (aC hJ hr T.fU T.d_.kp T.fT ay (aa (pv 0) (aa (pv 2) af)))) af)))))) b6)
  (aw (aR (aC (xI T) hr T.uT T.kC.kp T.uS ay (aa (au d8 (aC hJ hr T.fU T.d_.kp T.fT ay (aa (pv 0) (aa ah af))) ah) (aa (aA bP (cw (aa ah (aa ah (aa ah (aa ah af))))) (aC hJ hr T.fU T.d_.kp T.fT ay (aa (pv 0) (aa ah af)))) af))))))))),?_⟩
 have mf:aP cQ:=aP.of_lt (by lia) (by lia)
 refine ⟨_,rfl,P0,a,ns,16,rfl,pc,hS,by decide,aP.of_lt (by decide) (by decide),fun kd H1 kd0 kd1 s1 p1=>?_⟩
 have fh:a_ K (er P0 H1) a (ns.map V.int):=ai.seq s1 hS;have iI:=ht.mono s1;unfold dB at iI;by_cases z:q=0
 ·subst z
  rw [pA] at iI;refine ⟨_,rfl,td,_,_,_,rfl,rfl,.of (dS _ _ iI),rfl,rfl,false,by decide +kernel,cO ?_⟩
  refine ⟨_,rfl,_,_,rfl,rfl,_,rfl,bS (fun _=>?_) (fun _=>?_)⟩
  ·refine ⟨by show 2≤sizeLine;decide,fun r nr=>?_⟩
   have np:=p1.ne nr;exact k _ 0 1 _ (s1.trans (aK.of (aB nr))) (p1.mono (aB nr)) (.bR (lB np av) ⟨by decide,by decide⟩ (by show Int.natAbs 0≤F;lia) (by show Int.natAbs 1≤F;lia))
  refine ⟨_,rfl,rfl,_,rfl,bS (fun _=>?_) (fun _=>?_)⟩
  ·refine ⟨_,rfl,P0,a,ns,2,rfl,p1,fh,by decide,aP.of_lt (by decide) (by decide),fun sg H2 sg0 sg1 s2 p2=>?_⟩
   refine ⟨_,_,rfl,rfl,.inl ⟨by decide,by decide⟩,_,_,rfl,rfl,_,rfl,_,rfl,P0,a,ns,cQ,rfl,p2,ai.seq s2 fh,f1,mf,fun tp H3 US UT s3 p3=>?_⟩
   refine ⟨_,_,rfl,rfl,.inl ⟨by lia,by lia⟩,?_⟩
   refine ⟨_,rfl,_,rfl,_,rfl,P0,a,ns,cQ,rfl,p3,ai.seq s3 (ai.seq s2 fh),f1,mf,fun bt H4 bt0 bt1 s4 p4=>?_⟩;refine ⟨_,_,rfl,rfl,_,_,rfl,(show 1+bt≠0 by lia),aP.of_lt (by lia) (by lia),fun r H5 s5 kJ=>?_⟩
   have b1:((1-2*sg)*tp).natAbs≤F:=by
    rcases (show sg=0∨sg=1 by lia) with rfl | rfl
    ·rw [show (1-2*(0:Int))*tp=tp by lia];lia
    ·rw [show (1-2*(1:Int))*tp=-tp by lia];lia
   refine k _ _ _ H5 (s1.trans (s2.trans (s3.trans (s4.trans (aK.of s5))))) (p4.mono s5) ((zu (B:=F) kJ (show 1≤1+bt by lia) b1 (by lia)).er (H':=H5) (p4.mono s5))
  ·refine ⟨_,rfl,P0,a,ns,9,rfl,p1,fh,by decide,aP.of_lt (by decide) (by decide),fun tp H2 US UT s2 p2=>?_⟩
   refine ⟨_,_,rfl,rfl,by show 4≤sizeLine;decide,fun l nl=>?_⟩
   have nP:=p2.ne nl;have sl:ai H2 (upd H2 l (.lst [.int 1,.int 1,.int 2,.int 3])):=aB nl;have el:upd H2 l (.lst [.int 1,.int 1,.int 2,.int 3]) l=some (.lst [.int 1,.int 1,.int 2,.int 3]):=av;have pl:=p2.mono sl;have n_:a_ K (er P0 (upd H2 l (.lst [.int 1,.int 1,.int 2,.int 3]))) a (ns.map V.int):=ai.seq (wQ sl) (ai.seq s2 fh);generalize upd H2 l (.lst [.int 1,.int 1,.int 2,.int 3])=H3 at sl el pl n_ ⊢;refine ⟨_,rfl,P0,a,ns,4,rfl,pl,n_,by decide,aP.of_lt (by decide) (by decide),fun r H4 r0 r1 s4 p4=>?_⟩
   obtain ⟨b,xN,b1,b3⟩:∃b:Int,dA ([.int 1,.int 1,.int 2,.int 3]:List V) r=some (.int b)∧1≤b∧b≤3:=by
    rcases (show r=0∨r=1∨r=2∨r=3 by lia) with rfl | rfl | rfl | rfl
    ·exact ⟨1,rfl,by decide,by decide⟩
    ·exact ⟨1,rfl,by decide,by decide⟩
    ·exact ⟨2,rfl,by decide,by decide⟩
    ·exact ⟨3,rfl,by decide,by decide⟩
   refine ⟨l,_,_,_,rfl,rfl,.of (s4.at nP el),xN,_,_,rfl,by lia,aP.of_lt (by lia) (by lia),fun r' H5 s5 kJ=>?_⟩
   exact k _ _ _ H5 (s1.trans (s2.trans ((aK.of sl).trans (s4.trans (aK.of s5))))) (p4.mono s5) ((zu (B:=F) kJ b1 (show (tp-4).natAbs≤_ by lia) (by lia)).er (H':=H5) (p4.mono s5))
 ·rw [ni z] at iI
  obtain ⟨q2,q3,q4⟩:=hq.resolve_left z;refine ⟨_,rfl,td,_,_,_,rfl,rfl,.of (dS _ _ iI),rfl,rfl,true,by decide +kernel,dG ?_⟩
  refine ⟨_,rfl,_,_,rfl,rfl,_,rfl,bS (fun _=>?_) (fun _=>?_)⟩;·exact k _ 0 1 H1 s1 p1 (.rem (by decide) (by lia) q3)
  ·refine ⟨_,rfl,_,rfl,td,_,_,_,rfl,rfl,.of (dS _ _ iI),rfl,P0,a,ns,q,rfl,p1,fh,by lia,aP.of_lt (by lia) (by lia),fun r H2 r0 r1 s2 p2=>?_⟩
   exact k _ r 1 H2 (s1.trans s2) p2 (.rem r0 r1 q3)
theorem UU:bo ["told","row","many"] ["told","row"] (aL AS):=bI
theorem UW(T:Txt K mg t):aW P w K mg base bQ 4 t.qx t.um ["told","row"] Q9:=by
 have S:=UU;have gM:=vg (P:=P) (w:=w) (base:=base) (B:=1000) T;refine T.uY.cq S (fun _ _ _ _ H vs _ _ hr h=>?_);obtain ⟨z,a,q,ps,B,rfl,hz,hq,hR,ET,k⟩:=h;have hu:=hr.wc
 refine ⟨_,(ak (putL 2 S.nd (bp cn rfl T.ck cm (aa (pv 1) af)))
  (ak (mG eo (PW.pt (pw_and (bw jv (pv 2) ah) (pw_and1 (bw (Iu hu) (aA bP (pv 1) (au d8 (pv 2) ah)) (aC gM hr T.jQ T.gK.kp T.jP ay (aa (pv 0) (aa ah af))))))) (aw (putL 2 S.nd (au d8 (pv 2) ah))))
  (aw (aR (su sC (pv 1) so (sq (pv 2))))))),?_⟩
 obtain ⟨vs,ea,hl,hn⟩:=id hR;refine ⟨_,rfl,a,vs,rfl,.inl (.of ea),?_⟩;refine ⟨fun c σ Hc=>ai H Hc∧c≤ps.length∧dh ps c=dh ps ps.length∧σ=[some (.ref z),some (.ref a),some (.int (c:Int))],⟨ps.length,ai.refl H,aN _,rfl,by rw [←hl];rfl⟩,?_⟩
 rintro c σ Hc ⟨sc,hc,q_,rfl⟩;refine ⟨_,rfl,_,_,rfl,rfl,_,rfl,bS (fun h0=>?_) (fun h0=>?_)⟩
 ·have h0:(0:Int)<(c:Int):=di h0
  obtain ⟨d,rfl⟩:∃d,c=d+1:=⟨c-1,by lia⟩
  have hd:d<vs.length:=by lia
  have k4:d<ps.length:=by lia
  refine ⟨_,rfl,_,rfl,_,_,rfl,rfl,a,vs,_,vs[d],rfl,rfl,.of (sc _ _ ea),(by show dA vs (((d+1:Nat):Int)-1)=_;rw [show ((d+1:Nat):Int)-1=(d:Int) by lia];exact i3 (by simp [hd])),?_⟩
  have hv:=hn d vs[d] ps[d] (by simp [hd]) (by simp [k4])
  refine ⟨_,rfl,z,q,0,rfl,hz.mono sc,hq,by decide,by decide,fun v0 H1 s1 ho=>?_⟩
  have m7:aZ 1000 H1 q v0 0 1:=by
   have e:cf q 0=(0,1):=by unfold cf;split <;> simp
   rw [e] at ho;exact ho
  have gd:ps.getD d o1=ps[d]:=getD_at k4;refine Jb (hv.mono (sc.trans s1)) m7 ⟨_,rfl,bS (fun fL=>?_) (fun fL=>?_)⟩
  ·have fL:ps[d].1=0:=di fL
   refine ⟨fun σ' H2=>ai H H2∧σ'=[some (.ref z),some (.ref a),some (.int (d:Int))],?_,?_⟩
   ·rintro σ' H2 ⟨s2,rfl⟩
    refine ⟨d,by lia,s2,by lia,?_,rfl⟩
    rw [←q_];show _=if (ps.getD d o1).1=0 then dh ps d else d+1
    rw [gd,ar fL]
   ·refine ⟨_,rfl,_,_,rfl,rfl,sc.trans s1,by show List.set _ 2 (some (V.int (((d+1:Nat):Int)-1)))=_;rw [show ((d+1:Nat):Int)-1=(d:Int) by lia];rfl⟩
  ·have fL:¬ps[d].1=0:=fun e=>fL (dE e)
   have e:dh ps ps.length=d+1:=by
    rw [←q_];show (if (ps.getD d o1).1=0 then dh ps d else d+1)=_
    rw [gd,ao fL]
   refine ⟨_,rfl,_,rfl,_,rfl,a,vs,rfl,.of ((sc.trans s1) _ _ ea),fun r nr=>?_⟩;rw [sU vs (d+1) (by lia)]
   have sr:=(sc.trans s1).trans (aB (o:=.lst (vs.take (d+1))) nr);refine k r _ sr (none_of (sc.trans s1) nr) ?_;unfold aM;rw [e];exact aD.take av hl fun i v p h1 h2=>(hn i v p h1 h2).mono sr
 ·have h0:¬(0:Int)<(c:Int):=fun z=>h0 (dE z)
  have c0:c=0:=by lia
  subst c0;refine ⟨_,rfl,_,rfl,_,rfl,a,vs,rfl,.of (sc _ _ ea),fun r nr=>?_⟩;rw [sU vs 0 (by lia)]
  have sr:=sc.trans (aB (o:=.lst (vs.take 0)) nr);refine k r _ sr (none_of sc nr) ?_;unfold aM;rw [←q_];exact aD.take av hl fun i v p h1 h2=>(hn i v p h1 h2).mono sr
def Fe:Sp:=fun vs H Q _=>∃(td a b:Addr) (q:Int) (ps rs:aJ) (D:Int) (f g:Nat→Int),vs=[.ref td,.ref a,.ref b]∧dB H td q∧ax q∧aD B2 H q a ps∧aD B2 H q b rs∧ps.length≤60∧rs.length≤60∧aX q D∧D.natAbs≤B2∧(∀i j,(f i*g j).natAbs≤10 ^ 270)∧(∀i j,i<ps.length→j<rs.length→aS q ((ps.getD i o1).1*(rs.getD j o1).1,(ps.getD i o1).2*(rs.getD j o1).2) (f i*g j,D)) ∧
 ∀(c:Addr) (H':Hp),ai H H'→H c=none→aD B2 H' q c (aM (cY q ps.length rs.length f g D (ps.length+rs.length-1)))→Q (.ref c) H'
theorem UX:bo ["told","one","other","found","i","j"] ["told","one","other"] (aL AU):=bI
theorem Ff(T:Txt K mg t):aW P w K mg base bQ 5 t.qy t.uo ["told","one","other"] Fe:=by
 have S:=UX;have gM:=vg (P:=P) (w:=w) (base:=base) (B:=B2) T;refine T.nS.cq S (fun _ _ _ _ H vs _ _ hr h=>?_);obtain ⟨td,a,b,q,ps,rs,D,f,g,rfl,ht,hq,hA,hB,UY,UZ,cZ,bD,hs,U0,k⟩:=h
 refine ⟨_,(ak (sQ (i0:=3) (N:=["k","told"]) (ρ:=(fun σ=>[σ[0]?.join])) (gD [0] rfl) rfl S.nd rfl (Or.inl rfl) (gS rfl T.gg (aa (au d5 (bp cn rfl T.ck cm (aa (pv 1) af)) (bp cn rfl T.ck cm (aa (pv 2) af))) af)) (fun _ _ _=>.nil) (fun _ _ _=>(aC gM hr T.jQ T.gK.kp T.jP ay (aa (pv 1) (aa ah af)))))
  (ak (iY eo rfl (gS rfl T.gg (aa (bp cn rfl T.ck cm (aa (pv 1) af)) af)) (e_ (i:=4) S.nd rfl (Or.inl rfl))
   (aw (iY eo rfl (gS rfl T.gg (aa (bp cn rfl T.ck cm (aa (pv 2) af)) af)) (e_ (i:=5) S.nd rfl (Or.inl rfl))
   (aw (@vZ _ _ _ _ _ _ (aC (LO T) hr T.EF T.qV.kp T.EE ay (aa (pv 0) (aa (aA bP (pv 3) (au d5 (pv 4) (pv 5))) (aa (aC (UK T) hr T.K1 T.uU.kp T.K0 ay (aa (pv 0) (aa (aA bP (pv 1) (pv 4)) (aa (aA bP (pv 2) (pv 5)) af)))) af)))) (vY (pv 3) (au d5 (pv 4) (pv 5)) set_list) (by rfl) (by rfl) (by rfl))))))
  (aw (aR (aC (UW T) hr T.K9 T.uY.kp T.K8 ay (aa (pv 0) (aa (pv 3) af))))))),?_⟩
 obtain ⟨vs,ea,lv,fv⟩:=id hA;obtain ⟨us,eb,lu,fu⟩:=id hB;have iJ:1000≤B2:=by decide +kernel
 obtain ⟨N,eN⟩:∃N,N=ps.length+rs.length:=⟨_,rfl⟩;have e0:cy q 0 D=cf q 0:=by
  refine ku hq (gG hq cZ) ?_ ((gc (T:=0) cZ).trans ?_ cZ)
  ·unfold cf
   refine ⟨fun z=>?_,fun z=>?_⟩;·rw [ar z];exact ⟨by decide,by decide⟩
   ·rw [ao z]
    have q2:0<q:=by rcases hq with h | h <;> lia
    exact ⟨rfl,by simp,by simpa using q2⟩
  ·have:cf q 0=(0,1):=by unfold cf;split <;> simp
   rw [this];exact ⟨0,by simp⟩
 have U1:((vs.length:Int)+(us.length:Int))=(N:Int):=by lia
 refine iC (dq (pk (xs:=(List.range N).map fun i:Nat=>V.int (0+(i:Int))) (fun R h=>⟨_,rfl,a,vs,rfl,.inl (.of ea),_,rfl,b,us,rfl,.inl (.of eb),_,_,rfl,rfl,(N:Int),fN (fun x=>[V.int x]) U1,by lia,by lia,h _ _ (ai.refl _) (by rw [dI];exact zh)⟩) (by rw [aT,gw];exact jA (by lia)) (fun _ j y Hx=>aZ B2 Hx q y (cy q 0 D).1 (cy q 0 D).2) (fun _ _ _ _ _ _ h1 e f=>h1.cQ e f) ?_ ?_))
 ·intro Dx i v hi Hc R sc _ kc
  refine ⟨_,rfl,td,q,0,rfl,ht.mono sc,hq,b9 _,iJ,fun u H' s' hu=>kc u H' s' ?_⟩;rw [e0];exact hu
 intro fd ys H1 Bm s1 eV hP Fg;rw [aT,gw] at eV;dsimp only [bH];refine ⟨_,rfl,a,vs,rfl,.inl (.of (s1 _ _ ea)),(vs.length:Int),rfl,by lia,by lia,?_⟩
 rw [dI]
 refine rZ (fun i σ Hc=>ai H Hc∧∃(v4 v5:Option V) (ws:List V),σ=[some (.ref td),some (.ref a),some (.ref b),some (.ref fd),v4,v5]∧Hc fd=some (.lst ws)∧ws.length=N∧∀(x:Nat) (w:V),ws[x]?=some w→aZ B2 Hc q w (cy q (bJ i rs.length f g x) D).1 (cy q (bJ i rs.length f g x) D).2)
  ⟨s1,_,_,ys,rfl,Fg,eV,fun x w hw=>hP x w hw⟩ ?_ ?_
 ·rintro i σ Hc hi ⟨sc,v4,v5,ws,rfl,ef,hV,iK⟩
  refine ⟨_,rfl,b,us,rfl,.inl (.of (sc _ _ eb)),(us.length:Int),rfl,by lia,by lia,?_⟩
  rw [dI]
  refine rZ (fun j σ Hd=>ai H Hd∧∃(v5:Option V) (ws:List V),σ=[some (.ref td),some (.ref a),some (.ref b),some (.ref fd),some (.int (0+(i:Int))),v5]∧Hd fd=some (.lst ws)∧ws.length=N∧∀(x:Nat) (w:V),ws[x]?=some w→aZ B2 Hd q w (cy q (bJ i rs.length f g x+cH j (f i) g i x) D).1 (cy q (bJ i rs.length f g x+cH j (f i) g i x) D).2)
   ⟨sc,_,ws,rfl,ef,hV,fun x w hw=>by
    have z:=iK x w hw;have e:bJ i rs.length f g x+cH 0 (f i) g i x=bJ i rs.length f g x:=by show _+0=_;lia
    rw [e];exact z⟩ ?_ ?_
  ·rintro j σ Hd hj ⟨sd,v5,ws,rfl,ed,hV,iK⟩
   have i1:i<ps.length:=by lia
   have j1:j<rs.length:=by lia
   have ij:i+j<ws.length:=by lia
   have LQ:(0+(i:Int))+(0+(j:Int))=((i+j:Nat):Int):=by lia
   have nA:=(fv i vs[i] ps[i] (by simp [hi]) (by simp [i1])).mono sd
   have nB:=(fu j us[j] rs[j] (by simp [hj]) (by simp [j1])).mono sd
   have nW:=iK (i+j) ws[i+j] (by simp [ij])
   have cA:=nA.canon;have cB:=nB.canon;have rW:=U0 i j i1 j1;rw [getD_at i1,getD_at j1] at rW;have LR:=hs i j;refine ⟨_,rfl,_,rfl,_,rfl,_,rfl,_,_,rfl,rfl,fd,ws,_,ws[i+j],rfl,rfl,.of ed,(by show dA ws ((0+(i:Int))+(0+(j:Int)))=_;rw [LQ];exact i3 (by simp [ij])),_,rfl,_,rfl,_,rfl,a,vs,_,vs[i],rfl,rfl,.of (sd _ _ ea),(by show dA vs (0+(i:Int))=_;rw [vM];exact i3 (by simp [hi])),_,rfl,_,rfl,b,us,_,us[j],rfl,rfl,.of (sd _ _ eb),(by show dA us (0+(j:Int))=_;rw [vM];exact i3 (by simp [hj])),td,q,_,_,ps[i],rs[j],B2,rfl,ht.mono sd,hq,nA,nB,by decide +kernel,by decide +kernel,fun v' H' s' hv=>?_⟩
   have mW:aS q (mulQ q ps[i] rs[j]) (f i*g j,D):=((Ro hq cA cB).2).trans rW (cA.bot.mul cB.bot);have cM:=hv.canon;have eM:mulQ q ps[i] rs[j]=cy q (f i*g j) D:=ku hq cM (gG hq cZ) (mW.trans (gc cZ).symm cZ);have bM:=Dw (T:=f i*g j) hq cZ iJ (ae LR (by decide +kernel)) bD
   have oa:=hv.Dy (B':=B2) (by rw [eM];exact bM.1) (by rw [eM];exact bM.2)
   refine ⟨td,q,_,_,cy q (bJ i rs.length f g (i+j)+cH j (f i) g i (i+j)) D,mulQ q ps[i] rs[j],B2,rfl,ht.mono (sd.trans s'),hq,nW.mono s',oa,iJ,by decide +kernel,fun v2 H2 s2 xO=>?_⟩
   have kH:=s2 _ _ (s' _ _ ed);have eA:=Ji hq cZ (gG (T:=bJ i rs.length f g (i+j)+cH j (f i) g i (i+j)) hq cZ) cM (gc cZ) mW;rw [eA] at xO;refine ⟨_,rfl,_,rfl,_,rfl,_,_,rfl,rfl,fd,ws,_,i+j,rfl,rfl,kH,(by show gU ws.length ((0+(i:Int))+(0+(j:Int)))=_;rw [LQ];unfold gU;rw [ar (by lia),ar (by lia),dI]),?_⟩
   have cQ:∀b o,b≠fd→H2 b=some o→upd H2 fd (.lst (ws.set (i+j) v2)) b=some o:=fun b o nb e=>by rw [b7 nb];exact e
   refine ⟨kn (sd.trans (s'.trans s2)) Bm,_,_,rfl,av,by rw [List.length_set];exact hV,fun x w hw=>?_⟩
   have eR:cH (j+1) (f i) g i x=cH j (f i) g i x+if i+j=x then f i*g j else 0:=by unfold cH;rw [f_]
   by_cases zx:i+j=x
   ·subst zx
    rw [vx ij] at hw;cases hw;rw [eR,ar rfl,←Int.add_assoc];have Bn:(bJ i rs.length f g (i+j)).natAbs≤60*(60*10 ^ 270):=ae (DA (M:=10 ^ 270) fun x y _ _=>hs x y) (bE (by lia) (fW _ (by lia)))
    have Bo:(cH j (f i) g i (i+j)).natAbs≤60*10 ^ 270:=by
     unfold cH;refine ae (sV (M:=10 ^ 270) j _ fun y hy=>?_) (fW _ (by lia))
     by_cases zz:i+y=i+j;·rw [ar zz];exact hs i y
     ·rw [ao zz];exact b9 _
    have bT:(bJ i rs.length f g (i+j)+cH j (f i) g i (i+j)+f i*g j).natAbs≤B2:=by refine ae (ae (vL ..) (oA (ae (vL ..) (oA Bn Bo)) LR)) (by decide +kernel)
    have bb:=Dw hq cZ iJ bT bD;exact (xO.Dy bb.1 bb.2).cQ kH cQ
   ·rw [vy zx] at hw
    rw [eR,ao zx,oz];exact ((iK x w hw).mono (s'.trans s2)).cQ kH cQ
  ·rintro σ Hd ⟨sd,v5,ws,rfl,ed,hV,iK⟩
   refine ⟨sd,_,_,ws,rfl,ed,hV,fun x w hw=>?_⟩;have e:bJ (i+1) rs.length f g x=bJ i rs.length f g x+cH us.length (f i) g i x:=by unfold bJ;rw [f_,lu]
   rw [e];exact iK x w hw
 ·rintro σ Hc ⟨sc,v4,v5,ws,rfl,ef,hV,iK⟩
  have hG:aD B2 Hc q fd (cY q ps.length rs.length f g D (ps.length+rs.length)):=⟨ws,ef,by unfold cY;rw [aT,gw];lia,fun x w p x1 x2=>by
   have hx:x<ps.length+rs.length:=by rw [←eN,←hV];exact (cU.mp x1).1
   unfold cY at x2;rw [fP] at x2;simp [hx] at x2;subst x2;have z:=iK x w x1;rw [lv] at z;exact z⟩
  refine ⟨_,rfl,_,rfl,td,fd,q,_,B2,rfl,ht.mono sc,hq,hG,by unfold cY;rw [aT,gw];lia,fun c H' s' nc hc=>k c H' (sc.trans s') (none_of sc nc) ?_⟩
  rw [Rt] at hc;exact hc
theorem U2:bo ["world","one","other","last","now","lead","height","gap","told","least","following"] ["world","one","other"] (aL Ak):=bI
theorem U3(T:Txt K mg t):aW P w K mg base bQ 6 t.pQ t.tH ["world","one","other"] (Sb t.a9):=by
 have S:=U2;have nY:=EU (P:=P) (w:=w) (base:=base) T;refine T.uC.cq S (fun _ _ _ _ H vs _ _ hr h=>?_);obtain ⟨z,a,b,q,ts,us,W,rfl,hz,hq,ea,eb,lt,lu,L,tt,tu,k⟩:=h
 refine ⟨_,(ak (putL 3 S.nd (cw (aa (pv 1) (aa (cw (aa ah af)) (aa (cw af) af)))))
  (ak (putL 4 S.nd (cw (aa (pv 2) (aa (cw af) (aa (cw (aa ah af)) af)))))
  (ak (bG (bw ke (bp cn rfl T.ck cm (aa (pv 1) af)) (bp cn rfl T.ck cm (aa (pv 2) af))) (ak (putL 3 S.nd (cw (aa (pv 2) (aa (cw af) (aa (cw (aa ah af)) af)))))
  (aw (putL 4 S.nd (cw (aa (pv 1) (aa (cw (aa ah af)) (aa (cw af) af))))))) b6)
  (ak (putL 5 S.nd ah)
  (ak (putL 6 S.nd ah)
  (ak (mG eo (bw jv (bp cn rfl T.ck cm (aa (aA bP (pv 4) ah) af)) ah) (ak (putL 7 S.nd (au d8 (bp cn rfl T.ck cm (aa (aA bP (pv 3) ah) af)) (bp cn rfl T.ck cm (aa (aA bP (pv 4) ah) af))))
  (ak (mX 8 S.nd (aC (Lx T) hr T.Es T.qL.kp T.Er ay (aa (pv 0) (aa (aA bP (pv 3) ah) (aa (aA bP (pv 4) ah) af)))))
  (ak (mX 9 S.nd (au fF (pv 5) (aC (E8 T) hr T.A7 T.nR.kp T.A6 ay (aa (pv 6) (aa (pv 7) af)))))
  (ak (ab3 (i0:=10) (N:=["a","b","world","told","least"]) (ρ:=(fun σ=>[σ[0]?.join,σ[8]?.join,σ[9]?.join])) (Dj [0,8,9] rfl) rfl S.nd rfl (Or.inl rfl) (Di rfl T.Be (aa (su sC (pv 3) (sq ah) so) (aa (su sC (pv 4) (sq ah) so) af))) (fun _ _ _=>.nil) (fun _ _ _=>(aC (Ut T) hr T.Kr T.uB.kp T.Kq ay (aa (pv 2) (aa (pv 0) (aa (pv 1) (aa (aA (zq (K:=K)) (pv 3) ah) (aa (aA (zq (K:=K)) (pv 3) ah) (aa (pv 4) af)))))))))
  (ak (putL 3 S.nd (pv 4))
  (ak (putL 4 S.nd (au k9 (cw (aa (aC (LJ T) hr T.En T.qJ.kp T.Em ay (aa (fB (pv 0) T.dk T.lR nY (hr.mono (by decide)) T.q8 .nil ay (aa (aA a8 (pv 8) ah) (aa (pv 9) af))) af)) af)) (pv 10)))
  (ak (putL 5 S.nd (aA bP (aA bP (pv 3) ah) (jt ju ah)))
  (aw (putL 6 S.nd (aA bP (fB (pv 0) T.dk T.lR nY (hr.mono (by decide)) T.q8 .nil ay (aa (cw (aa (aC (E8 T) hr T.A7 T.nR.kp T.A6 ay (aa (pv 5) (aa (pv 7) af))) af)) (aa (aC (E8 T) hr T.A7 T.nR.kp T.A6 ay (aa (pv 6) (aa (au d8 (pv 7) ah) af))) af))) ah)))))))))))
  (aw (aR (pv 3))))))))),?_⟩
 refine fJ fun _ hR=>dq (JR rfl ea fun la H1 s1 t1=>hR _ _ ?_);refine fJ fun _ hR=>dq (JS rfl (s1 _ _ eb) fun lb H2 s2 t2=>hR _ _ ?_);have bL:=s1.trans s2;simp only [dZ,d0,L2.start];refine fJ fun R iL=>?_;have Bp:∀j,∀x∈[(1:Int)],x.natAbs≤W j:=fun j x hx=>by rw [iQ.mp hx];show 1≤W j;have:=L.w1 j;lia
 have Bq:∀j,∀x∈([]:List Int),x.natAbs≤W j:=fun j x hx=>nomatch hx;have Br:da q [1]:=fun _=>ja hq;have Bs:da q []:=fun h=>absurd rfl h;have next:∀(la lb:Addr) (r u v r' u' v':List Int) (f g:Srs.Row) (n0 m0:Nat) (Hx:Hp),n0=max ts.length us.length→(∀n m,n≤n0→m≤n→1≤m→100*(W n*(2*W (n-1)) ^ (n-m+1))≤10 ^ 580)→ai H Hx→jb Hx la r u v→jb Hx lb r' u' v'→CI q ts us f g n0 m0 W r u v r' u' v' 1 1→CG q f g n0 m0 W→da q u→da q v→da q u'→da q v'→(r=[]→ts=[]∧us=[])→(u.length+r'.length≤n0+1∧v.length+r'.length≤n0+1∧u'.length+r.length≤n0+1∧v'.length+r.length≤n0+1)→((r'.length<r.length∨r.length=n0)∧(r.length<n0→u.length+r.length≤n0∧v.length+r.length≤n0))→R [some (.ref z),some (.ref a),some (.ref b),some (.ref la),some (.ref lb),none,none,none,none,none,none] Hx:=fun la lb r u v r' u' v' f g n0 m0 Hx U4 lim sx tA tB I G Bt Bu Bv Bw em ln bx=>iL _ _ (by
  refine fJ fun _ hR=>dq (hR _ _ ?_);refine fJ fun _ hR=>dq (hR _ _ ?_);simp only [dZ,d0];refine fJ fun R' U5=>?_;refine ⟨fun m σ Hc=>∃(la lb:Addr) (r u v r' u' v':List Int) (ld ht:Int) (v7 v8 v9 v10:Option V),m=r'.length∧σ=[some (.ref z),some (.ref a),some (.ref b),some (.ref la),some (.ref lb),some (.int ld),some (.int ht),v7,v8,v9,v10]∧ai H Hc∧jb Hc la r u v∧jb Hc lb r' u' v'∧CI q ts us f g n0 m0 W r u v r' u' v' ld ht∧da q u∧da q v∧da q u'∧da q v'∧(r=[]→ts=[]∧us=[])∧(u.length+r'.length≤n0+1∧v.length+r'.length≤n0+1∧u'.length+r.length≤n0+1∧v'.length+r.length≤n0+1)∧((r'.length<r.length∨r.length=n0)∧(r.length<n0→u.length+r.length≤n0∧v.length+r.length≤n0)),⟨_,la,lb,r,u,v,r',u',v',1,1,_,_,_,_,rfl,rfl,sx,tA,tB,I,Bt,Bu,Bv,Bw,em,ln,bx⟩,?_⟩;clear I tA tB Bt Bu Bv Bw em sx ln bx;rintro m σ Hc ⟨la,lb,r,u,v,r',u',v',ld,ht,v7,v8,v9,v10,rfl,rfl,sc,tA,tB,I,Bt,Bu,Bv,Bw,em,ln,bx⟩;obtain ⟨a0,a1,a2,eA,Fh,LS,LU⟩:=id tA;obtain ⟨b0,b1,b2,eB,xP,U6,LV⟩:=id tB;have Fi:(r'.map V.int).length=r'.length:=aT _;have lr:(r.map V.int).length=r.length:=aT _;refine ⟨_,rfl,lb,_,_,_,rfl,rfl,.of eB,rfl,b0,_,rfl,.inl (.of xP),_,_,rfl,rfl,_,rfl,bS (fun hb=>?_) (fun hb=>?_)⟩
  ·have hb:=di hb
   rw [Fi] at hb;have ne:r'≠[]:=fun e=>by rw [e] at hb;exact absurd hb (by decide)
   have le:=I.le;refine ⟨fun σ' H2=>∃m',m'<r'.length∧∃(la lb:Addr) (r u v r' u' v':List Int) (ld ht:Int) (v7 v8 v9 v10:Option V),m'=r'.length∧σ'=[some (.ref z),some (.ref a),some (.ref b),some (.ref la),some (.ref lb),some (.int ld),some (.int ht),v7,v8,v9,v10]∧ai H H2∧jb H2 la r u v∧jb H2 lb r' u' v'∧CI q ts us f g n0 m0 W r u v r' u' v' ld ht∧da q u∧da q v∧da q u'∧da q v'∧(r=[]→ts=[]∧us=[])∧(u.length+r'.length≤n0+1∧v.length+r'.length≤n0+1∧u'.length+r.length≤n0+1∧v'.length+r.length≤n0+1)∧((r'.length<r.length∨r.length=n0)∧(r.length<n0→u.length+r.length≤n0∧v.length+r.length≤n0)),fun σ' H2 h=>h,?_⟩;refine fJ fun _ hR=>dq ⟨_,rfl,la,_,_,_,rfl,rfl,.of eA,rfl,a0,_,rfl,.inl (.of Fh),_,rfl,lb,_,_,_,rfl,rfl,.of eB,rfl,b0,_,rfl,.inl (.of xP),_,_,rfl,rfl,hR _ _ ?_⟩;rw [lr,Fi,show (fun i j:Int=>V.int (i-j)) ((r.length:Nat):Int) ((r'.length:Nat):Int)=V.int ((r.length-r'.length:Nat):Int) by
    show V.int _=V.int _
    congr 1
    lia]
   simp only [dZ,d0];have S:=I.Se G lim ne;have hU:hE ht (W (r.length-1)):=I.hU G;obtain ⟨LW,LX,LY⟩:=DT I.bA;obtain ⟨LZ,L0,L3⟩:=DT I.JO;have r5:=ae I.rn G.n5;have l1:1≤r'.length:=iT.mpr ne;have nr:r≠[]:=fun e=>by rw [e] at le;exact absurd le (by show ¬r'.length≤0;lia)
   have ek:r.length+1-r'.length=r.length-r'.length+1:=by lia
   have S1:=S.a;rw [←ek] at S1;refine fJ fun _ hR=>dq ⟨_,rfl,_,rfl,la,_,_,_,rfl,rfl,.of eA,rfl,_,rfl,lb,_,_,_,rfl,rfl,.of eB,rfl,z,a0,b0,q,r,r',_,_,rfl,hz.mono sc,hq,Fh,xP,by lia,by lia,l1,LW,LZ,by have:=S.t;have:=S.tu;lia,S.t,S1,S.u,I.pE ne,fun _=>I.tr nr,fun p8 k1 k2 bs ls az H1 s1 e8 U7 U8 PI Bx=>hR _ _ ?_⟩
   rw [ek] at PI Bx;have xQ:=PI.lb;have By:=PI.ll;have By:ls.length=r'.length-1:=by lia
   have ab4:=G.n5;have l5:bs.length≤41:=by lia
   have pf:=PI.fin;obtain ⟨C,hC,bC⟩:=I.left hq G ne xQ By pf Bx;have ky:¬q∣ld*ht ^ (r.length-r'.length):=dR hq I.nl (pB hq I.nh _);have gb:(-5:Int)≤((r.length-r'.length:Nat):Int)∧((r.length-r'.length:Nat):Int)≤100∧((r.length-r'.length:Nat):Int).toNat=r.length-r'.length∧(((r.length-r'.length:Nat):Int)-1).toNat=r.length-r'.length-1∧(-5:Int)≤((r.length-r'.length:Nat):Int)-1∧((r.length-r'.length:Nat):Int)-1≤100:=⟨by lia,by lia,by lia,by lia,by lia,by lia⟩
   have mL:hE (ld*ht ^ (r.length-r'.length)) (10 ^ 580):=S.lead I.bl hU;simp only [dZ,d0];have hS:∀i,i≤r.length-r'.length→hE (ht ^ i) (10 ^ 600):=fun i hi=>ae (S.pow hU (Nat.le_succ_of_le hi)) kz;have xR:hE ht (10 ^ 600):=ae (ae hU S.u) kz;refine fJ fun _ hR=>dq ⟨_,rfl,_,rfl,_,rfl,ht,_,rfl,gb.1,gb.2.1,fun i hi=>hS i (ae hi (iP gb.2.2.1)),xR,_,_,rfl,rfl,⟨eW (ae (ae I.bl S.to) kz),eW (hS _ (iP gb.2.2.1))⟩,hR _ _ ?_⟩;rw [gb.2.2.1];simp only [dZ,d0];generalize hL:ld*ht ^ (r.length-r'.length)=least at ky mL hC ⊢;obtain ⟨U9,U_,Va,Fj,L4,L5⟩:H1 la=some (.lst [.ref a0,.ref a1,.ref a2])∧H1 a1=some (.lst (u.map V.int))∧H1 a2=some (.lst (v.map V.int))∧H1 lb=some (.lst [.ref b0,.ref b1,.ref b2])∧H1 b1=some (.lst (u'.map V.int))∧H1 b2=some (.lst (v'.map V.int)):=⟨s1 _ _ eA,s1 _ _ LS,s1 _ _ LU,s1 _ _ eB,s1 _ _ U6,s1 _ _ LV⟩;have Bz:=(hz.mono sc).mono s1;have turn:∀(c:Nat) (xs ys:List Int),(∀t,Lf az (aI r u v) (ag bs) (aI r' u' v') (3*t+c)=az*ag xs t-cv (ag bs) (ag ys) t)→(∀x∈xs,x.natAbs≤W r.length)→(∀y∈ys,y.natAbs≤W (r.length-1))→xs.length≤42→ys.length≤42→∀(aj bj:Addr) (Hc:Hp) (R:VK),ai H1 Hc→Hc aj=some (.lst (xs.map V.int))→Hc bj=some (.lst (ys.map V.int))→(∀(v:Addr) (H3:Hp) (rs:List Int),ai Hc H3→Hc v=none→H3 v=some (.lst (rs.map V.int))→rs.length≤max xs.length (bs.length+ys.length-1)→(∀t,Cg q (ag rs t) (C (3*t+c)))→Rm q rs→da q rs→R (.ref v) H3)→JQ t.a9 [.ref z,.ref aj,.ref bj,.ref k1,.int az,.int least] Hc R E0:=fun c xs ys hl hx hy lx ly aj bj Hc R rk Vb Vc kk=>⟨z,aj,bj,k1,q,xs,ys,bs,az,least,fun t=>C (3*t+c),rfl,Bz.mono rk,hq,Vb,Vc,rk _ _ U7,by lia,by lia,by lia,fun x h=>⟨ae (ae (hx x h) S.to) kz,S.mx PI.bm (hx x h)⟩,fun y h=>ae (ae (hy y h) S.u) kz,fun b h=>S.bs (PI.bb b h),S.cv (by lia) PI.bb hy,S.az PI.bm,ae mL kz,ky,fun t=>by rw [←hl];exact hC _,kk⟩
   refine fJ fun _ hR=>dq (Q_ (Z:=fun zs _=>zs=[(V.ref a1,V.ref b1),(V.ref a2,V.ref b2)]) (fun R h=>⟨_,rfl,_,rfl,la,_,rfl,.of U9,fun r1 n1=>?_⟩) (fun D j y Hx=>∃(x:Addr) (rs:List Int),y=.ref x∧x≠D∧Hx x=some (.lst (rs.map V.int))∧rs.length≤max ([u,v].getD j []).length (bs.length+([u',v'].getD j []).length-1)∧(∀t,Cg q (ag rs t) (C (3*t+(j+1))))∧Rm q rs∧da q rs) (fun D j y Ha Hb ys ⟨x,rs,h1,h2,h3,h4⟩ e f=>⟨x,rs,h1,h2,f _ _ h2 h3,h4⟩) ?_ ?_)
   ·have q1:=aB (o:=.lst [.ref a1,.ref a2]) n1
    refine ⟨_,rfl,_,rfl,lb,_,rfl,.of (q1 _ _ Fj),fun r2 n2=>?_⟩;have q2:=aB (o:=.lst [.ref b1,.ref b2]) n2;exact ⟨r1,r2,rfl,⟨_,.of (q2 _ _ av)⟩,⟨_,.of av⟩,h _ _ _ (q1.trans q2) (Dn (.of (q2 _ _ av)) (.of av)) (jA (show 2≤1000 by decide)) rfl⟩
   ·rintro zs Hx rfl sx D j x y kI Hc R rk ⟨yD,eD⟩ kc
    have bL:=sx.trans rk
    match j,kI with
    | 0,kI=>cases kI;refine ⟨_,rfl,_,rfl,_,rfl,_,rfl,p8,_,_,_,rfl,rfl,.of (bL _ _ e8),rfl,_,rfl,p8,_,_,_,rfl,rfl,.of (bL _ _ e8),rfl,_,rfl,?_⟩;exact turn 1 u u' (fun t=>Sg) LX L0 (by lia) (by lia) a1 b1 Hc R bL (bL _ _ U_) (bL _ _ L4) fun v3 H3 rs s3 n3 e3 l3 c3 m3 t3=>kc _ _ s3 ⟨v3,rs,rfl,(fun z=>by rw [z,eD] at n3;cases n3),e3,l3,c3,m3,t3⟩
    | 1,kI=>cases kI;refine ⟨_,rfl,_,rfl,_,rfl,_,rfl,p8,_,_,_,rfl,rfl,.of (bL _ _ e8),rfl,_,rfl,p8,_,_,_,rfl,rfl,.of (bL _ _ e8),rfl,_,rfl,?_⟩;exact turn 2 v v' (fun t=>Sh) LY L3 (by lia) (by lia) a2 b2 Hc R bL (bL _ _ Va) (bL _ _ L5) fun v3 H3 rs s3 n3 e3 l3 c3 m3 t3=>kc _ _ s3 ⟨v3,rs,rfl,(fun z=>by rw [z,eD] at n3;cases n3),e3,l3,c3,m3,t3⟩
    | n+2,kI=>cases kI
   rintro zs Hx rfl sx D vs H2 nD s2 DH hP eD;refine hR _ _ ?_;simp only [dZ,d0];obtain ⟨x1,x2,rfl⟩:∃x1 x2,vs=[x1,x2]:=by
    match vs,DH with
    | [x1,x2],_=>exact ⟨x1,x2,rfl⟩
   obtain ⟨f1,u2,rfl,_,Vd,Fl,Ve,Vf,Vg⟩:=hP 0 _ rfl;obtain ⟨f2,v2,rfl,_,Vh,Fm,Vi,Vj,Vk⟩:=hP 1 _ rfl;have bL:=sx.trans s2;obtain ⟨dz,hd⟩:=Bz.mono bL;have og:=Bz.mono bL;have ml:∀x∈ls,aP x:=fun x hx=>eW (ae (ae (PI.bl x hx) S.a) kz);have Vl:∀t,Lf az (aI r u v) (ag bs) (aI r' u' v') (3*(t+1))=az*ag r t-cv (ag bs) (ag r') t:=fun t=>by rw [zP];rfl
   have c0:∀t,Cg q (ag ls t) (least*C (3*(t+1))):=fun t=>by refine Cg.trans ?_ (hC (3*(t+1)));rw [Vl];have:=(pf t).sub (Cg.refl (q:=q) (cv (ag bs) (ag r') t));rw [Int.add_comm,Int.add_sub_cancel] at this;exact this.symm
   refine fJ fun _ hR=>dq ⟨_,rfl,hR _ _ ?_⟩;simp only [dZ,d0];refine fJ fun _ hR=>dq ⟨_,rfl,z,dz,_,rfl,hd,fG (by decide +kernel),⟨_,rfl,p8,_,_,_,rfl,rfl,.of (bL _ _ e8),rfl,_,rfl,z,k2,q,ls,least,fun t=>C (3*(t+1)),rfl,og,hq,bL _ _ U8,by lia,ml,eW (ae mL kz),ky,fun i _=>c0 i,fun c5 H3 rs s3 n3 e3 lrs Vm Vn=>?_⟩⟩
   refine ⟨c5,rs,rfl,e3,by lia,fun c6 H4 k5 s4 n4 hk Fd hn e4=>?_⟩
   obtain ⟨L6,L7,Vo⟩:=JP (q:=q) Vn hk hn Fd;have Fn:(rs.take k5).length≤r'.length-1:=by rw [l_];lia
   have L8:∀t,Cg q (ag (rs.take k5) t) (C (3*(t+1))):=fun t=>by
    rw [Vo];by_cases h:t<ls.length;·exact Vm t h
    ·rw [c_ (by lia)]
     have z1:=c0 t;rw [c_ (by lia)] at z1
     exact xa hq ky ((Cg.of_eq (cF _)).trans z1)
   generalize rs.take k5=r2 at e4 L6 L7 Fn L8;have jg:=s3.trans s4;refine ⟨by show 1≤sizeLine;decide,fun l6 n6=>?_⟩
   have s6:=aB (o:=.lst [.ref c6]) n6;refine ⟨_,rfl,l6,D,_,_,rfl,rfl,av,s6 _ _ (jg _ _ eD),by show 3≤sizeLine;decide,fun l7 n7=>hR _ _ ?_⟩
   have s7:=aB (o:=.lst ([.ref c6]++[.ref f1,.ref f2])) n7;have oh:=s6.trans s7;have tN:jb (upd (upd H4 l6 (.lst [.ref c6])) l7 (.lst ([.ref c6]++[.ref f1,.ref f2]))) l7 r2 u2 v2:=⟨c6,f1,f2,av,oh _ _ e4,oh _ _ (jg _ _ Vd),oh _ _ (jg _ _ Vh)⟩;have lU:=bL.trans (jg.trans oh);generalize upd (upd H4 l6 (.lst [.ref c6])) l7 (.lst ([.ref c6]++[.ref f1,.ref f2]))=H5 at tN lU ⊢;have L9:=Bz.mono lU;obtain ⟨Vp,rl⟩:=id L9;simp only [dZ,d0];refine fJ fun _ hR=>dq ⟨_,rfl,lb,_,_,_,rfl,rfl,.of (lU _ _ Fj),rfl,_,rfl,b0,_,_,_,rfl,rfl,.of (lU _ _ (s1 _ _ xP)),zE l1,hR _ _ ?_⟩;simp only [dZ,d0];obtain ⟨x,ex,Vq⟩:∃x:Int,Cg q (ag r' (r'.length-1) ^ (r.length-r'.length)) (ht ^ (r.length-r'.length-1)*x)∧(q=0→hE x (W r'.length)):=I.high hq ne;have L_:hE (ag r' (r'.length-1)) (W (r.length-1)):=by
    have:=I.JO (3*r'.length)
    rwa [lE l1] at this
   have nG:=I.pE ne;have lS:∀i,i≤r.length-r'.length→hE (ag r' (r'.length-1) ^ i) (10 ^ 600):=fun i hi=>ae (S.pow L_ (Nat.le_succ_of_le hi)) kz;have Vr:hE (ag r' (r'.length-1)) (10 ^ 600):=ae (ae L_ S.u) kz;have Vs:=(sc.trans s1).trans lU;have BA:r2.length<r'.length:=fV Fn (Nat.sub_lt l1 (by decide))
   have BB:u2.length+r'.length≤n0+1∧v2.length+r'.length≤n0+1∧u'.length+r2.length≤n0+1∧v'.length+r2.length≤n0+1:=by have Fl:u2.length≤max u.length (bs.length+u'.length-1):=Fl;have Fm:v2.length≤max v.length (bs.length+v'.length-1):=Fm;exact ⟨JT Fl xQ le ln.1 ln.2.2.1,JT Fm xQ le ln.2.1 ln.2.2.2,JU BA le ln.2.2.1,JU BA le ln.2.2.2⟩
   have Vt:=G.w1;have rn0:=I.rn;have ext:(r2.length<r'.length∨r'.length=n0)∧(r'.length<n0→u'.length+r'.length≤n0∧v'.length+r'.length≤n0):=⟨.inl BA,fun h=>by have e1:=ln.2.2.1;have e2:=ln.2.2.2;rcases bx.1 with e | e <;> exact ⟨by lia,by lia⟩⟩
   have Vu:=G.n5;have eC:∀i,Cg q (aI r2 u2 v2 i) (C i):=Sf hq ky (by have:=hC 0;rwa [Si] at this) L8 Ve Vi
   have Ma:q≠0→∀i,(aI r2 u2 v2 i).natAbs≤1000:=fun q0=>xf (zS hq (aN 1000) q0 L6) (zS hq (aN 1000) q0 Vf) (zS hq (aN 1000) q0 Vj);rw [←hL] at hC;have Vv:∀h2,Cg q (ag r' (r'.length-1) ^ (r.length-r'.length)) (ht ^ (r.length-r'.length-1)*h2)→hE h2 (W r'.length)→CI q ts us f g n0 m0 W r' u' v' r2 u2 v2 (ag r' (r'.length-1)) h2:=fun h2 eh Vw=>I.next hq G ne xQ By pf PI.nz Bx hC bC eC Ma Fn L7 eh Vw;clear Ma eC hC bC pf Bx PI S1 turn hP LW LX LY LZ L0 L3 bx;refine dq ⟨_,rfl,z,Vp,_,rfl,rl,fG (by decide +kernel),⟨_,rfl,_,rfl,ag r' (r'.length-1),_,rfl,gb.1,gb.2.1,fun i hi=>lS i (ae hi (iP gb.2.2.1)),Vr,by show 1≤sizeLine;decide,fun l8 n8=>⟨_,rfl,_,rfl,_,_,rfl,rfl,ht,_,rfl,gb.2.2.2.2.1,gb.2.2.2.2.2,fun i hi=>hS i (ae (ae hi (iP gb.2.2.2.1)) (Nat.sub_le _ _)),xR,?_⟩⟩⟩
   rw [gb.2.2.1,gb.2.2.2.1];have s8:=aB (o:=.lst [.int (ag r' (r'.length-1) ^ (r.length-r'.length))]) n8;refine ⟨z,l8,q,[ag r' (r'.length-1) ^ (r.length-r'.length)],ht ^ (r.length-r'.length-1),fun _=>x,rfl,L9.mono s8,hq,av,by show 1≤500;decide,fun y hy=>by rw [iQ.mp hy];exact eW (lS _ (aN _)),eW (hS _ (Nat.sub_le _ _)),pB hq I.nh _,fun i hi=>?_,fun c9 H9 rs9 s9 n9 e9 l9 Vx Vy=>?_⟩
   ·rw [show i=0 from Nat.lt_one_iff.mp hi]
    exact ex
   obtain ⟨h2,rfl⟩:=List.length_eq_one_iff.mp l9;have Mb:Cg q h2 x:=Vx 0 (by show 0<1;decide)
   refine ⟨_,_,_,_,rfl,rfl,.of e9,rfl,?_⟩;have I2:=Vv h2 (ex.trans (Mb.symm.mulL _)) (by
    by_cases q0:q=0
    ·have z1:=Vq q0
     subst q0
     rwa [oC.mp (gr.mp Mb)]
    ·exact ae (zS hq (aN 1000) q0 Vy h2 (iQ.mpr rfl)) (Vt _))
   exact ⟨_,BA,lb,l7,r',u',v',r2,u2,v2,_,_,_,_,_,_,rfl,rfl,Vs.trans (s8.trans s9),⟨b0,b1,b2,(s8.trans s9) _ _ (lU _ _ Fj),(s8.trans s9) _ _ (lU _ _ (s1 _ _ xP)),(s8.trans s9) _ _ (lU _ _ L4),(s8.trans s9) _ _ (lU _ _ L5)⟩,tN.mono (s8.trans s9),I2,Bv,Bw,Vg,Vk,fun e=>absurd e ne,⟨BB.2.2.1,BB.2.2.2,BB.1,BB.2.1⟩,ext⟩
  ·have e0:r'=[]:=mj.mp (by rw [Fi,rD] at hb;lia)
   obtain ⟨d1,d2⟩:=I.dv (ag r) (cC.self hq _) (cC.RX hq fun t=>Cg.of_eq (by rw [e0];exact c_ (by simp)))
   have rn:=I.rn;have Vu:=G.n5;exact U5 _ _ ⟨_,rfl,k la a0 a1 a2 r u v Hc sc eA Fh LS LU I.tr Bt Bu I.bz em d1 d2 (by lia) (by lia) (by lia) (by rw [←U4];exact bx.2) fun nr=>DT I.bA⟩)
 have Mc:(ts.map V.int).length=ts.length:=aT _;have BC:(us.map V.int).length=us.length:=aT _;refine ⟨_,rfl,a,_,rfl,.inl (.of (bL _ _ ea)),_,rfl,b,_,rfl,.inl (.of (bL _ _ eb)),_,_,rfl,rfl,_,rfl,bS (fun hb=>?_) (fun hb=>?_)⟩
 ·have hb:=di hb
  rw [Mc,BC] at hb;refine fJ fun _ hR=>dq (JS rfl (bL _ _ eb) fun lc H3 s3 t3=>hR _ _ ?_);refine dq (JR rfl (s3 _ _ (bL _ _ ea)) fun ld H4 s4 t4=>?_);obtain ⟨I,G⟩:=CI.start (ts:=ts) (us:=us) (u:=[]) (v:=[1]) (u':=[1]) (v':=[]) hq L.w1 L.am (by lia) (show ts.length≤us.length by lia) L.bu L.bt (fun j=>⟨Bq j,Bp j,Bp j,Bq j⟩) tu tt (L.sA (by lia)) (L.eA (by lia)) (fun t=>by rw [zQ,xc];lia) (fun t=>by rw [zQ,xc];lia) fun D d1 d2=>⟨d2,d1⟩
  refine next lc ld us [] [1] ts [1] [] _ _ _ _ H4 (by lia) (fun n m a b c=>L.lim n m (.inr a) b c) (bL.trans (s3.trans s4)) (t3.mono s4) t4 I G Bs Br Br Bs (fun e=>?_) ⟨by simp <;> lia,by simp <;> lia,by simp <;> lia,by simp <;> lia⟩ ⟨.inr rfl,fun h=>absurd h (gN _)⟩
  have:us.length=0:=by rw [e];rfl
  lia
 ·rw [Mc,BC,rD] at hb
  obtain ⟨I,G⟩:=CI.start (ts:=ts) (us:=us) (u:=[1]) (v:=[]) (u':=[]) (v':=[1]) hq L.w1 L.am (by lia) (show us.length≤ts.length by lia) L.bt L.bu (fun j=>⟨Bp j,Bq j,Bq j,Bp j⟩) tt tu (L.sB (by lia)) (L.eB (by lia)) (fun t=>by rw [zQ,xc];lia) (fun t=>by rw [zQ,xc];lia) fun D d1 d2=>⟨d1,d2⟩
  refine next la lb ts [1] [] us [] [1] _ _ _ _ H2 (by lia) (fun n m a b c=>L.lim n m (.inl a) b c) bL (t1.mono s2) t2 I G Br Bs Bs Br (fun e=>⟨e,mj.mp ?_⟩) ⟨by simp <;> lia,by simp <;> lia,by simp <;> lia,by simp <;> lia⟩ ⟨.inr rfl,fun h=>absurd h (gN _)⟩
  have:ts.length=0:=by rw [e];rfl
  lia
theorem Vz:bo ["world","one","other","first","second","told","lead","u","v"] ["world","one","other"] (aL Aq):=bI
theorem Md(T:Txt K mg t):aW P w K mg base bQ 9 t.pY t.tO ["world","one","other"] (Sm t.a9):=by
 have S:=Vz;have oi:=ES (P:=P) (w:=w) (base:=base) T;refine T.qR.cq S (fun _ _ _ _ H _ _ _ hr h=>?_);obtain ⟨z,a,b,q,ps,rs,D1,D2,f,g,W,VB,Z,rfl,hz,hq,hA,hB,I,k⟩:=h
 refine ⟨_,(ak (putL 3 S.nd (fB (pv 0) T.dk T.lQ oi (hr.mono (by decide)) T.qZ .nil ay (aa (aC (va T) hr T.qN T.jN.kp T.qM ay (aa (pv 0) (aa (pv 1) af))) af)))
  (ak (putL 4 S.nd (fB (pv 0) T.dk T.lQ oi (hr.mono (by decide)) T.qZ .nil ay (aa (aC (va T) hr T.qN T.jN.kp T.qM ay (aa (pv 0) (aa (pv 2) af))) af)))
  (ak (putL 5 S.nd (aC (U3 T) hr T.Kt T.uC.kp T.Ks ay (aa (pv 0) (aa (aA a8 (pv 3) ah) (aa (aA a8 (pv 4) ah) af)))))
  (ak (bG (bw dO (bp cn rfl T.ck cm (aa (aA bP (pv 5) ah) af)) ah) (aw (aR (fA (aa (cw af) (aa (cw af) (aa (cw af) af)))))) b6)
  (ak (putL 6 S.nd (aA bP (aA bP (pv 5) ah) (jt ju ah)))
  (ak (putL 7 S.nd (aC (vc T) hr T.qP T.jO.kp T.qO ay (aa (pv 0) (aa (aA bP (pv 5) ah) (aa (aA a8 (pv 3) ah) (aa (pv 6) af))))))
  (ak (putL 8 S.nd (aC (vc T) hr T.qP T.jO.kp T.qO ay (aa (pv 0) (aa (aA bP (pv 5) ah) (aa (aA a8 (pv 4) ah) (aa (pv 6) af))))))
  (aw (aR (fA (aa (aC (vc T) hr T.qP T.jO.kp T.qO ay (aa (pv 0) (aa (aA bP (pv 5) ah) (aa ah (aa (pv 6) af))))) (aa (pv 7) (aa (pv 8) af))))))))))))),?_⟩
 obtain ⟨dz,hd⟩:=id hz;have VA:=i9 ps;have VC:=i9 rs;have lp:=I.lp;have lr:=I.lr;have hW:=I.hW;have big:=I.big;obtain ⟨z1,Fo⟩:1≤Z 1∧W≤10 ^ 290:=I.zw;have BE:10 ^ 290≤10 ^ 300:=dn (by decide) (by decide)
 refine ⟨_,rfl,z,dz,_,rfl,hd,fG (by decide +kernel),_,rfl,_,rfl,z,a,q,ps,10 ^ 290,rfl,hz,hq,hA,by lia,fun ca H1 s1 E9 xS=>?_⟩
 refine ⟨z,ca,q,aM ps,10 ^ 290,D1,rfl,hz.mono s1,hq,xS,by lia,I.nI,fun p hp=>I.zT p (w5 hp),BE,by decide +kernel,ae I.d1 (ae Fo BE),fun v1 H2 ts b1 s2 n1 W1=>?_⟩
 have bL:=s1.trans s2;have hd2:=bL _ _ hd;refine ⟨_,rfl,z,dz,_,rfl,hd2,fG (by decide +kernel),_,rfl,_,rfl,z,b,q,rs,10 ^ 290,rfl,⟨dz,hd2⟩,hq,hB.mono bL,by lia,fun cb H3 s3 Fb xT=>?_⟩
 refine ⟨z,cb,q,aM rs,10 ^ 290,D2,rfl,⟨dz,s3 _ _ hd2⟩,hq,xT,by lia,I.gI,fun p hp=>I.zU p (w5 hp),BE,by decide +kernel,ae I.d2 (ae Fo BE),fun v2 H4 us b2 s4 n2 W2=>?_⟩
 obtain ⟨tp,l,rfl,e1,e2,_⟩:=n1;obtain ⟨lV,l',rfl,gE,vh,_⟩:=n2;have jg:=s3.trans s4;have e1:=jg _ _ e1;have e2:=jg _ _ e2;have oj:=bL.trans jg;have xU:=oj _ _ hd;have lt:=W1.len;have lu:=W2.len;have cA:=xS.dH;have cB:=xT.dH;have bT:∀x∈ts,x.natAbs≤W:=fun x hx=>by
  obtain ⟨i,hi,rfl⟩:=ig hx;have cD:i<(aM ps).length:=by lia
  have e:=(W1.each i cD).1;rw [getD_at hi,iE cD] at e;exact sY hq hW (by rw [←iE cD];exact dM hq cA i) e W1.ok I.nI W1.dvd (I.w1 i) (I.t1 i)
 have bU:∀x∈us,x.natAbs≤W:=fun x hx=>by
  obtain ⟨i,hi,rfl⟩:=ig hx;have cD:i<(aM rs).length:=by lia
  have e:=(W2.each i cD).1;rw [getD_at hi,iE cD] at e;exact sY hq hW (by rw [←iE cD];exact dM hq cB i) e W2.ok I.gI W2.dvd (I.w2 i) (I.u2 i)
 have VD:q=0→∀x∈us,x.natAbs≤VB:=fun q0 x hx=>by
  obtain ⟨i,hi,rfl⟩:=ig hx;have cD:i<(aM rs).length:=by lia
  have e:=(W2.each i cD).1;rw [getD_at hi,iE cD] at e;have c1:=dM hq cB i;have c2:=W2.ok;have c3:=I.gI;have c4:=I.w2 i;have c5:=I.u3 q0 i;rw [iE cD] at c1;subst q0;exact Sl c1 e c2 c3 W2.dvd c4 c5
 have LT:=I.lim ts us lt lu bT bU VD;have tT:da q ts:=fun ne=>by
  have t1:=iT.mpr ne;have cD:ts.length-1<(aM ps).length:=by lia
  have e:=(W1.each _ cD).1;refine zH hq (dM hq cA _) ?_ e W1.ok;rw [lt];exact zF (by lia)
 have tU:da q us:=fun ne=>by
  have t1:=iT.mpr ne;have cD:us.length-1<(aM rs).length:=by lia
  have e:=(W2.each _ cD).1;refine zH hq (dM hq cB _) ?_ e W2.ok;rw [lu];exact zF (by lia)
 have og:D1≠0:=fun e=>I.nI.nz hq (by rw [e];exact dw q)
 have vi:D2≠0:=fun e=>I.gI.nz hq (by rw [e];exact dw q)
 have iH:hE b1 W:=ae (i_ W1.dvd og) I.d1;have rp:hE b2 W:=ae (i_ W2.dvd vi) I.d2;have hP:=Jv (q:=q) (b:=b1) lt fun k hk=>⟨0,by have:=(W1.each k hk).1;dsimp only;lia⟩
 have hR:=Jv (q:=q) (b:=b2) lu fun k hk=>⟨0,by have:=(W2.each k hk).1;dsimp only;lia⟩
 have c1:=I.c1;have c2:=I.c2;dsimp only [bH];refine ⟨_,rfl,_,rfl,tp,_,_,_,rfl,rfl,.of e1,rfl,_,rfl,lV,_,_,_,rfl,rfl,.of gE,rfl,z,l,l',q,ts,us,Z,rfl,⟨dz,xU⟩,hq,e2,vh,by lia,by lia,LT,tT,tU,fun p l0 l1 l2 r u v H5 s5 ep vd Fp Fq tr tu tv bz em d1 d2 lr5 lu5 lv5 ext VE=>?_⟩
 have rl:=s5 _ _ xU;have iM:=oj.trans s5;dsimp only [bH];refine ⟨_,rfl,p,_,_,_,rfl,rfl,.of ep,rfl,l0,r.map V.int,rfl,.inl (.of vd),rfl,_,rfl,bS (fun h0=>?_) (fun h0=>?_)⟩
 ·have r0:r=[]:=mj.mp (by simpa using h0)
  obtain ⟨t0,u0⟩:=em r0;subst r0 t0 u0;have q1:aM ps=[]:=mj.mp (by rw [←lt];rfl)
  have q2:aM rs=[]:=mj.mp (by rw [←lu];rfl)
  have wz:=z1;have VF:([]:List Int).length<max (aM ps).length (aM rs).length→([]:List Int).length+([]:List Int).length≤max (aM ps).length (aM rs).length∧([]:List Int).length+([]:List Int).length≤max (aM ps).length (aM rs).length:=fun _=>⟨b9 _,b9 _⟩;refine ⟨b9 _,fun m0 n0=>⟨b9 _,fun m1 n1=>⟨b9 _,fun m2 n2=>⟨by show 3≤sizeLine;decide,fun pp np=>?_⟩⟩⟩⟩
  have t1:=aB (o:=.lst []) n0;have t2:=aB (o:=.lst []) n1;have t3:=aB (o:=.lst []) n2;have t4:=aB (o:=.tup [.ref m0,.ref m1,.ref m2]) np;have ne1:m0≠m1:=fun e=>by rw [←e,av] at n1;cases n1
  have ne2:m0≠m2:=fun e=>by rw [←e,t2 _ _ av] at n2;cases n2
  have ne3:m1≠m2:=fun e=>by rw [←e,av] at n2;cases n2
  exact k pp m0 m1 m2 [] [] [] [] [] [] [] [] b1 b2 1 _ (iM.trans (t1.trans (t2.trans (t3.trans t4)))) av (none_of iM n0) (none_of (iM.trans t1) n1) (none_of (iM.trans (t1.trans t2)) n2) ne1 ne2 ne3 (DU (t4 _ _ (t3 _ _ (t2 _ _ av)))) (DU (t4 _ _ (t3 _ _ av))) (DU (t4 _ _ av)) rfl rfl rfl (b9 _) (b9 _) (b9 _) VF (fun x h=>nomatch h) (fun x h=>nomatch h) (fun x h=>nomatch h) (fun x h=>nomatch h) (fun x h=>nomatch h) iH rp wz
   ⟨W1.ok,W2.ok,hP,hR,ja hq,fun i h=>absurd h (ou _),fun i h=>absurd h (ou _),fun i h=>absurd h (ou _),rfl,rfl,rfl,fun t=>by rw [xc];exact Cg.of_eq rfl,d1,d2,fun _=>⟨q1,q2,rfl,rfl⟩,fun h=>absurd rfl h,fun h=>absurd rfl h⟩
 ·have rn:r≠[]:=fun e=>h0 (by rw [e];rfl)
  have xV:=iT.mpr rn;obtain ⟨zR,DX,VG⟩:=VE rn;have zL:Z r.length≤Z 1:=LT.am _ _ xV;have br:=fun x hx=>ae (zR x hx) zL;have bu:=fun x hx=>ae (DX x hx) zL;have bv:=fun x hx=>ae (VG x hx) zL;have nG:=tr rn;have zB:Z 1≤10 ^ 290:=ae (fQ _ (by lia)) big
  have lW:∀{x:Int},x.natAbs≤10 ^ 290→aP x:=fun h=>eW (ae h (dn (by decide) (by decide)))
  have wB:W≤10 ^ 290:=Fo;generalize tf:ag r (r.length-1)=ld at nG;have vj:hE ld (Z 1):=by rw [←tf];exact nH br _
  have vk:hE ld (10 ^ 290):=ae vj zB;have mul:∀(x y:Int),x.natAbs≤Z 1→y.natAbs≤W→(x*y).natAbs≤B2:=fun x y hx hy=>by rw [a7];exact ae (bE hx hy) big
  dsimp only [iq];refine ⟨_,rfl,p,_,_,_,rfl,rfl,.of ep,rfl,_,rfl,l0,_,_,_,rfl,rfl,.of vd,zE xV,?_⟩;rw [show r.getD (r.length-1) 0=ld from tf];dsimp only [bH];refine ⟨_,rfl,_,rfl,p,_,_,_,rfl,rfl,.of ep,rfl,_,rfl,tp,_,_,_,rfl,rfl,.of (s5 _ _ e1),rfl,_,rfl,z,l1,q,b1,ld,u,B2,rfl,⟨dz,rl⟩,hq,Fp,by lia,nG,lW vk,lW (ae iH wB),fun x hx=>lW (ae (bu x hx) zB),vk,fun x hx=>mul _ _ (bu x hx) iH,fun r1 VH H6 s6 Me Fs Mf Mg=>?_⟩
  have xW:=s6 _ _ rl;dsimp only [bH];refine ⟨_,rfl,_,rfl,p,_,_,_,rfl,rfl,.of (s6 _ _ ep),rfl,_,rfl,lV,_,_,_,rfl,rfl,.of (s6 _ _ (s5 _ _ gE)),rfl,_,rfl,z,l2,q,b2,ld,v,B2,rfl,⟨dz,xW⟩,hq,s6 _ _ Fq,by lia,nG,lW vk,lW (ae rp wB),fun x hx=>lW (ae (bv x hx) zB),vk,fun x hx=>mul _ _ (bv x hx) rp,fun r2 VI H7 s7 BF Ft Mh Mi=>?_⟩
  have VJ:=s7 _ _ xW;have oh:=s6.trans s7;dsimp only [bH];refine ⟨_,rfl,_,rfl,p,_,_,_,rfl,rfl,.of (oh _ _ ep),rfl,_,rfl,z,l0,q,1,ld,r,B2,rfl,⟨dz,VJ⟩,hq,oh _ _ vd,by lia,nG,lW vk,lW (by decide),fun x hx=>lW (ae (br x hx) zB),vk,fun x hx=>mul _ _ (br x hx) (by show 1≤W;lia),fun r3 gs H8 s8 om Mj BG Ml=>?_⟩
  refine ⟨_,rfl,_,rfl,by show 3≤sizeLine;decide,fun pp rq=>?_⟩
  have sp:=aB (o:=.tup [.ref r3,.ref r1,.ref r2]) rq;have xX:=s7.trans s8;have VL:=s6.trans xX;obtain ⟨_,eu,_⟩:=id Fs;obtain ⟨_,ev,_⟩:=id Ft;have ne1:r3≠r1:=fun e=>by rw [e,s7 _ _ eu] at om;cases om
  have ne2:r3≠r2:=fun e=>by rw [e,ev] at om;cases om
  have ne3:r1≠r2:=fun e=>by rw [←e,eu] at BF;cases BF
  refine k pp r3 r1 r2 gs VH VI ts us r u v b1 b2 ld _ (iM.trans (VL.trans sp)) av (none_of (iM.trans oh) om) (none_of iM Me) (none_of (iM.trans s6) BF) ne1 ne2 ne3 (Mj.mono sp) (Fs.mono (xX.trans sp)) (Ft.mono (s8.trans sp)) (zG fun h=>?_) (zG fun h=>?_) (zG fun h=>?_) (by lia) (by lia) (by lia) (by rw [←lt,←lu];exact ext) zR bu bv bT bU iH rp vj
   ⟨W1.ok,W2.ok,hP,hR,nG,fun i h=>Ml i (by lia),fun i h=>Mg i (by lia),fun i h=>Mi i (by lia),BG,Mf,Mh,bz,d1,d2,fun e=>absurd (by rw [e] at BG;exact BG.symm) (Nat.ne_of_gt xV),fun _=>tf.symm,tr⟩
  ·refine DK hq (dM hq Mj.dH _) ?_ (Ml _ (by lia))
   rw [BG];refine dR hq ?_ (ja hq);rw [show r.getD (r.length-1) 0=ld from tf];exact nG
  ·refine DK hq (dM hq Fs.dH _) ?_ (Mg _ (by lia))
   rw [Mf];exact dR hq (tu (iT.mp (by lia))) (W1.ok.nz hq)
  ·refine DK hq (dM hq Ft.dH _) ?_ (Mi _ (by lia))
   rw [Mh];exact dR hq (tv (iT.mp (by lia))) (W2.ok.nz hq)
theorem VM:bo ["world","one","other","first","second","told","bottom","by"] ["world","one","other"] (aL Ap):=bI
theorem Mm(T:Txt K mg t):aW P w K mg base (dP P w) 7 t.pX t.tM ["world","one","other"] (SD t.a9):=by
 have S:=VM;have oi:=ES (P:=P) (w:=w) (base:=base) T;refine T.qQ.fE S (fun _ _ _ _ H _ _ _ hr h L=>?_);obtain ⟨z,a,b,q,ps,rs,D1,D2,f,g,TT,U,LL,rfl,hz,hq,hA,hB,cE,k⟩:=h
 refine ⟨_,(ak (putL 3 S.nd (fB (pv 0) T.dk T.lQ oi (hr.mono (by decide)) T.qZ .nil ay (aa (aC (va T) hr T.qN T.jN.kp T.qM ay (aa (pv 0) (aa (pv 1) af))) af)))
  (ak (putL 4 S.nd (fB (pv 0) T.dk T.lQ oi (hr.mono (by decide)) T.qZ .nil ay (aa (aC (va T) hr T.qN T.jN.kp T.qM ay (aa (pv 0) (aa (pv 2) af))) af)))
  (ak (bG (bw dO (bp cn rfl T.ck cm (aa (aA a8 (pv 4) ah) af)) ah) (aw (sL L rfl rO T.Bf rfl T.Bb (aa eF af))) b6)
  (ak (putL 5 S.nd (aC (Lx T) hr T.Es T.qL.kp T.Er ay (aa (pv 0) (aa (aA a8 (pv 3) ah) (aa (aA a8 (pv 4) ah) af)))))
  (ak (putL 6 S.nd (au fF (aA a8 (pv 5) ah) (aA a8 (pv 3) ah)))
  (ak (putL 7 S.nd (aC (vc T) hr T.qP T.jO.kp T.qO ay (aa (pv 0) (aa (aA a8 (pv 5) ah) (aa (aA a8 (pv 4) ah) (aa (pv 6) af))))))
  (aw (aR (fA (aa (pv 7) (aa (aC (va T) hr T.qN T.jN.kp T.qM ay (aa (pv 0) (aa (aC (vc T) hr T.qP T.jO.kp T.qO ay (aa (pv 0) (aa (aA a8 (pv 5) ah) (aa ah (aa (pv 6) af))))) af))) af))))))))))),?_⟩
 obtain ⟨dz,hd⟩:=id hz;obtain ⟨lp,lr,nI,gI,zT,zU,w1,w2,t1,u2,hT,hU,d2,d1,zY,hc,len,big,J_⟩:=id cE;have VA:=i9 ps;have VC:=i9 rs;have lI:10 ^ 290≤10 ^ 300:=dn (by decide) (by decide)
 refine ⟨_,rfl,z,dz,_,rfl,hd,fG (by decide +kernel),_,rfl,_,rfl,z,a,q,ps,10 ^ 290,rfl,hz,hq,hA,by lia,fun ca H1 s1 E9 xS=>?_⟩
 refine ⟨z,ca,q,aM ps,10 ^ 290,D1,rfl,hz.mono s1,hq,xS,by lia,nI,fun p hp=>zT p (w5 hp),lI,by decide +kernel,ae d1 lI,fun v1 H2 ts b1 s2 n1 W1=>?_⟩
 have bL:=s1.trans s2;have hd2:=bL _ _ hd;refine ⟨_,rfl,z,dz,_,rfl,hd2,fG (by decide +kernel),_,rfl,_,rfl,z,b,q,rs,10 ^ 290,rfl,⟨dz,hd2⟩,hq,hB.mono bL,by lia,fun cb H3 s3 Fb xT=>?_⟩
 refine ⟨z,cb,q,aM rs,10 ^ 290,D2,rfl,⟨dz,s3 _ _ hd2⟩,hq,xT,by lia,gI,fun p hp=>zU p (w5 hp),lI,by decide +kernel,ae d2 (ae zY lI),fun v2 H4 us b2 s4 n2 W2=>?_⟩
 obtain ⟨tp,l,rfl,e1,e2,_⟩:=n1;obtain ⟨lV,l',rfl,gE,vh,_⟩:=n2;have jg:=s3.trans s4;have e1:=jg _ _ e1;have e2:=jg _ _ e2;have oj:=bL.trans jg;have xU:=oj _ _ hd;have lt:=W1.len;have lu:=W2.len;dsimp only [bH];refine ⟨_,rfl,lV,_,_,_,rfl,rfl,.of gE,rfl,l',us.map V.int,rfl,.inl (.of vh),rfl,_,rfl,bS (fun h0=>?_) (fun h0=>?_)⟩
 ·have z0:us.length=0:=by simpa using h0
  exact absurd (mj.mp (by lia)) hc
 ·have u1:1≤us.length:=by
   have:¬us.length=0:=fun e=>h0 (by simp [e])
   lia
  dsimp only [iq];have cA:=xS.dH;have cB:=xT.dH;have bT:∀x∈ts,x.natAbs≤TT:=fun x hx=>by
   obtain ⟨i,hi,rfl⟩:=ig hx;have cD:i<(aM ps).length:=by lia
   have e:=(W1.each i cD).1;rw [getD_at hi,iE cD] at e;exact sY hq hT (by rw [←iE cD];exact dM hq cA i) e W1.ok nI W1.dvd (w1 i) (t1 i)
  have bU:∀x∈us,x.natAbs≤U:=fun x hx=>by
   obtain ⟨i,hi,rfl⟩:=ig hx;have cD:i<(aM rs).length:=by lia
   have e:=(W2.each i cD).1;rw [getD_at hi,iE cD] at e;exact sY hq hU (by rw [←iE cD];exact dM hq cB i) e W2.ok gI W2.dvd (w2 i) (u2 i)
  have lz:¬q∣us.getD (us.length-1) 0:=by
   have cD:us.length-1<(aM rs).length:=by lia
   have e:=(W2.each _ cD).1;refine zH hq (dM hq cB _) ?_ e W2.ok;rw [lu];exact zF (by lia)
  have tz:1≤ts.length→¬q∣ts.getD (ts.length-1) 0:=fun t1=>by
   have cD:ts.length-1<(aM ps).length:=by lia
   have e:=(W1.each _ cD).1;refine zH hq (dM hq cA _) ?_ e W1.ok;rw [lt];exact zF (by lia)
  generalize hn:ts.length+1-us.length=n;have nL:n≤LL:=by lia
  have pw:(2*U) ^ n≤(2*U) ^ LL:=dn (by lia) nL
  have nZ:TT*(2*U) ^ n≤10 ^ 570:=ae (dY TT pw) big;have og:D1≠0:=fun e=>nI.nz hq (by rw [e];exact dw q)
  have vi:D2≠0:=fun e=>gI.nz hq (by rw [e];exact dw q)
  have iH:b1.natAbs≤D1.natAbs:=i_ W1.dvd og;have rp:b2.natAbs≤U:=ae (i_ W2.dvd vi) d2;have vm:10 ^ 570≤10 ^ 580:=dn (by decide) (by decide)
  have Fu:10 ^ 290≤10 ^ 580:=dn (by decide) (by decide)
  refine ⟨_,rfl,_,rfl,tp,_,_,_,rfl,rfl,.of e1,rfl,_,rfl,lV,_,_,_,rfl,rfl,.of gE,rfl,z,l,l',q,ts,us,TT,U,rfl,⟨dz,xU⟩,hq,e2,vh,by lia,by lia,u1,bT,bU,by lia,hT,by rw [hn];exact ae nZ vm,ae zY Fu,lz,fun h=>tz (by lia),fun p l1 l2 bs ls az H5 s5 ep Fp Fq I _=>?_⟩
  rw [hn] at I;have rl:=s5 _ _ xU;have EZ:az.natAbs≤10 ^ 580:=ae I.bm (ae (fW _ hT) (ae nZ vm));have bM:(az*b1).natAbs≤10 ^ 580:=by rw [a7];exact ae (ae (bE (ae I.bm (dY 1000 pw)) iH) J_) vm
  have nM:=dR hq I.nz (W1.ok.nz hq);have EY:∀x∈bs,x.natAbs≤10 ^ 580:=fun x hx=>ae (ae (fQ _ (by lia)) (I.bb x hx)) (ae nZ vm)
  have xF:∀x∈ls,x.natAbs≤10 ^ 580:=fun x hx=>ae (I.bl x hx) (ae nZ vm);have xQ:=I.lb;have aca:=I.ll;dsimp only [bH];refine ⟨_,rfl,p,_,_,_,rfl,rfl,.of ep,rfl,_,rfl,tp,_,_,_,rfl,rfl,.of (s5 _ _ e1),rfl,_,_,rfl,rfl,⟨pH EZ,pH (ae iH (ae d1 Fu))⟩,?_⟩;refine ⟨_,rfl,_,rfl,p,_,_,_,rfl,rfl,.of ep,rfl,_,rfl,lV,_,_,_,rfl,rfl,.of (s5 _ _ gE),rfl,_,rfl,z,l1,q,b2,az*b1,bs,10 ^ 580,rfl,⟨dz,rl⟩,hq,Fp,by lia,nM,pH bM,pH (ae rp (ae zY Fu)),fun x hx=>pH (EY x hx),bM,fun x hx=>?_,fun r1 pI H6 s6 Me VN lby wby=>?_⟩
  ·rw [a7]
   exact ae (dY _ (ae rp (show U≤2*U by lia))) (ae (I.bb x hx) (ae nZ vm))
  have xW:=s6 _ _ rl;dsimp only [bH];refine ⟨_,rfl,_,rfl,_,rfl,_,rfl,p,_,_,_,rfl,rfl,.of (s6 _ _ ep),rfl,_,rfl,z,l2,q,1,az*b1,ls,10 ^ 580,rfl,⟨dz,xW⟩,hq,s6 _ _ Fq,by lia,nM,pH bM,aP.of_lt (by decide) (by decide),fun x hx=>pH (xF x hx),bM,fun x hx=>?_,fun r2 Fv H7 s7 BF VO By wls=>?_⟩
  ·rw [fO]
   exact xF x hx
  refine ⟨z,r2,q,Fv,10 ^ 580,rfl,⟨dz,s7 _ _ xW⟩,hq,VO,by lia,fun r3 H8 s8 om VP=>?_⟩
  refine ⟨by show 2≤sizeLine;decide,fun pp rq=>?_⟩
  have sp:ai H8 (upd H8 pp (.tup [.ref r1,.ref r3])):=aB rq;have iM:=oj.trans s5;have xX:=s7.trans s8;have acf:=i9 Fv;exact k pp r1 r3 pI (aM Fv) _ (iM.trans (s6.trans (xX.trans sp))) av (VN.mono (xX.trans sp)) (VP.mono sp) (by lia) (by lia)
theorem VQ:bo ["world","one","other","first","second"] ["world","one","other"] (aL Ao):=bI
theorem VR(T:Txt K mg t):aW P w K mg base bQ 6 t.pW t.tL ["world","one","other"] (SA t.a9):=by
 have S:=VQ;have oi:=ES (P:=P) (w:=w) (base:=base) T;refine T.uD.cq S (fun _ _ _ _ H _ _ _ hr h=>?_);obtain ⟨z,a,b,q,ps,rs,D1,D2,f,g,X1,X2,Y1,Y2,L1,L2,rfl,hz,hq,hA,hB,UY,UZ,h1,h2,x1,x2,bX,y1,y2,bY,k⟩:=h
 refine ⟨_,(ak (putL 3 S.nd (fB (pv 0) T.dk T.lQ oi (hr.mono (by decide)) T.qZ .nil ay (aa (pv 1) af)))
  (ak (putL 4 S.nd (fB (pv 0) T.dk T.lQ oi (hr.mono (by decide)) T.qZ .nil ay (aa (pv 2) af)))
  (aw (aR (aC (va T) hr T.qN T.jN.kp T.qM ay (aa (pv 0) (aa (aC (vc T) hr T.qP T.jO.kp T.qO ay (aa (pv 0) (aa (aC (Lu T) hr T.Ep T.qK.kp T.Eo ay (aa (aA a8 (pv 3) ah) (aa (aA a8 (pv 4) ah) af))) (aa ah (aa (au fF (aA a8 (pv 3) ah) (aA a8 (pv 4) ah)) af))))) af))))))),?_⟩
 obtain ⟨dz,hd⟩:=id hz;have og:D1≠0:=fun e=>h1.ok.nz hq (by rw [e];exact dw q)
 have vi:D2≠0:=fun e=>h2.ok.nz hq (by rw [e];exact dw q)
 have VS:X1≤10 ^ 270:=ae (fQ _ (by lia)) bX
 have Fw:X2≤10 ^ 270:=ae (fR _ (by lia)) bX
 have Bn:D1.natAbs≤10 ^ 270:=ae h1.bD (ae (fQ _ (by lia)) bY)
 have Bo:D2.natAbs≤10 ^ 270:=ae h2.bD (ae (fR _ (by lia)) bY)
 have Mn:10 ^ 270≤10 ^ 300:=dn (by decide) (by decide)
 have Mp:B2≤10 ^ 300:=by unfold B2;exact dn (by decide) (by decide)
 have iJ:1000≤B2:=by decide +kernel
 refine ⟨_,rfl,z,dz,_,rfl,hd,fG (by decide +kernel),_,rfl,z,a,q,ps,B2,D1,rfl,⟨dz,hd⟩,hq,hA,by lia,h1.ok,h1.dvd,Mp,iJ,ae Bn Mn,fun v1 H1 ts b1 s1 n1 w1=>?_⟩
 have lT:=s1 _ _ hd;refine ⟨_,rfl,z,dz,_,rfl,lT,fG (by decide +kernel),_,rfl,z,b,q,rs,B2,D2,rfl,⟨dz,lT⟩,hq,hB.mono s1,by lia,h2.ok,h2.dvd,Mp,iJ,ae Bo Mn,fun v2 H2 us b2 s2 n2 w2=>?_⟩
 obtain ⟨tp,l,rfl,e1,e2,_⟩:=n1;obtain ⟨lV,l',rfl,gE,vh,_⟩:=n2;have e1:=s2 _ _ e1;have e2:=s2 _ _ e2;have lt:=w1.len;have lu:=w2.len;have cA:=hA.dH;have cB:=hB.dH;have xY:∀{x:Int},x.natAbs≤10 ^ 270→aP x:=fun h=>J9 (ae h (dn (by decide) (by decide)))
 have bT:∀x∈ts,x.natAbs≤X1:=fun x hx=>by
  obtain ⟨i,hi,rfl⟩:=ig hx;have e:=(w1.each i (by lia)).1
  rw [getD_at hi] at e;exact sY hq x1 (dM hq cA i) e w1.ok h1.ok w1.dvd (h1.w i) (h1.bf i)
 have bU:∀x∈us,x.natAbs≤X2:=fun x hx=>by
  obtain ⟨i,hi,rfl⟩:=ig hx;have e:=(w2.each i (by lia)).1
  rw [getD_at hi] at e;exact sY hq x2 (dM hq cB i) e w2.ok h2.ok w2.dvd (h2.w i) (h2.bf i)
 have mt:∀t∈ts,aP t:=fun x hx=>xY (ae (bT x hx) VS);have mu:∀t∈us,aP t:=fun x hx=>xY (ae (bU x hx) Fw);have rep1:∀i,i<ps.length→aS q (ts.getD i 0,b1) (f i,D1):=fun i hi=>by
  have a:=(w1.each i hi).1;have w:aS q (ps.getD i o1) (ts.getD i 0,b1):=⟨0,by dsimp only;rw [a];lia⟩
  exact w.symm.trans (h1.w i) (dM hq cA i).bot
 have rep2:∀i,i<rs.length→aS q (us.getD i 0,b2) (g i,D2):=fun i hi=>by
  have a:=(w2.each i hi).1;have w:aS q (rs.getD i o1) (us.getD i 0,b2):=⟨0,by dsimp only;rw [a];lia⟩
  exact w.symm.trans (h2.w i) (dM hq cB i).bot
 have VT:b1.natAbs≤10 ^ 270:=ae (i_ w1.dvd og) Bn;have VU:b2.natAbs≤10 ^ 270:=ae (i_ w2.dvd vi) Bo;have bb:(b1*b2).natAbs≤10 ^ 270:=by rw [a7];exact ae (bE (ae (i_ w1.dvd og) h1.bD) (ae (i_ w2.dvd vi) h2.bD)) bY
 have VV:10 ^ 270≤B2:=by unfold B2;exact dn (by decide) (by decide)
 have bL:=s1.trans s2;have hd2:=bL _ _ hd;refine ⟨_,rfl,_,rfl,_,rfl,tp,_,_,_,rfl,rfl,.of e1,rfl,_,rfl,lV,_,_,_,rfl,rfl,.of gE,rfl,l,l',ts,us,rfl,e2,vh,mt,mu,by lia,by lia,fun c3 H3 s3 LG E6=>?_⟩
 have Mq:∀x∈gF ts us,x.natAbs≤B2:=fun x hx=>by
  unfold gF at hx;obtain ⟨k,_,rfl⟩:=fm.mp hx;refine ae (DA (M:=10 ^ 270) fun i j hi hj=>?_) (ae (bE (show ts.length≤50 by lia) (fW (10 ^ 270) (show us.length≤50 by lia))) (by decide +kernel))
  rw [a7];exact ae (bE (nq bT i) (nq bU j)) bX
 have lcv:(gF ts us).length=ts.length+us.length-1:=by unfold gF;rw [aT,gw]
 refine ⟨_,rfl,tp,_,_,_,rfl,rfl,.of (s3 _ _ e1),rfl,_,rfl,lV,_,_,_,rfl,rfl,.of (s3 _ _ gE),rfl,_,_,rfl,rfl,⟨xY VT,xY VU⟩,z,c3,q,1,b1*b2,gF ts us,B2,rfl,⟨dz,s3 _ _ hd2⟩,hq,E6,by lia,(w1.ok.mul w2.ok).nz hq,xY bb,aP.of_lt (by decide) (by decide),fun x hx=>J9 (Mq x hx),ae bb VV,fun x hx=>by rw [fO];exact Mq x hx,fun c4 xs H4 s4 E7 hG lG wG=>?_⟩
 have eG:xs=cY q ps.length rs.length f g (D1*D2) (ps.length+rs.length-1):=by
  have cG:=hG.dH;refine List.ext_getElem (by unfold cY;rw [aT,gw];lia) fun i i1 i2=>?_
  have e3:(cY q ps.length rs.length f g (D1*D2) (ps.length+rs.length-1))[i]=cy q (bJ ps.length rs.length f g i) (D1*D2):=by rw [←getD_at (d:=o1) i2];exact zJ (by lia)
  rw [e3];have w:=wG i (by lia)
  rw [getD_at i1,getD_at (show i<(gF ts us).length by lia),fO] at w
  have e4:(gF ts us)[i]'(by lia)=bJ ts.length us.length (fun i=>ts.getD i 0) (fun j=>us.getD j 0) i:=by
   rw [←getD_at (d:=(0:Int)) (show i<(gF ts us).length by lia)]
   exact zJ (by lia)
  rw [e4,lt,lu] at w;refine ku hq (cG _ (gj _)) (gG hq (h1.ok.mul h2.ok)) ?_;exact (w.trans (Rp rep1 rep2 i) (w1.ok.mul w2.ok)).trans (gc (h1.ok.mul h2.ok)).symm (h1.ok.mul h2.ok)
 rw [eG] at hG;have Mr:=bL.trans (s3.trans s4);refine ⟨z,c4,q,_,B2,rfl,⟨dz,s4 _ _ (s3 _ _ hd2)⟩,hq,hG,by unfold cY;rw [aT,gw];lia,fun c5 H5 s5 Ms hC=>k c5 H5 (Mr.trans s5) (none_of Mr Ms) hC⟩
theorem VW:bo ["world","n"] ["world","n"] (aL Au):=bI
theorem Mt(T:Txt K mg t):aW P w K mg base bQ 5 t.p_ t.tR ["world","n"] (SE t.a9):=by
 have S:=VW;have kG:=xD (P:=P) (w:=w) (base:=base) T;obtain ⟨dv,lT,vb⟩:=T.Ba;refine T.qT.cq S (fun _ _ _ _ H vs _ _ hr h=>?_);obtain ⟨z,q,n,rfl,⟨dz,hd⟩,hq,n1,ach,k⟩:=h;refine ⟨_,(aw (aR (au k9 (aC (Bj T) hr T.xr T.lM.kp T.xq ay (aa (pv 0) (aa (cw (aa (fB (pv 0) T.dk T.qY kG (hr.mono (by decide)) vb lT i4 (aa (jt ju ah) af)) af)) (aa (pv 1) af)))) (cw (aa (fB (pv 0) T.dk T.qY kG (hr.mono (by decide)) vb lT i4 (aa ah af)) af))))),?_⟩
 have nv:=Dt hq;have Mu:∀{Hx:Hp} {v:V} {x:Int},x.natAbs≤1000→pd Hx q v x 1→aZ 1000 Hx q v (cf q x).1 (cf q x).2:=fun{Hx v x} bx ho=>by
  obtain ⟨p,np,wp⟩:=Jr (B:=1000) ho hq (ja hq) bx (by decide)
  obtain ⟨c,w⟩:=nJ q x hq;rw [←ku hq np.canon c (wp.trans w.symm aX.one)];exact np
 refine ⟨_,rfl,_,rfl,z,dz,_,rfl,hd,fG (by decide +kernel),_,rfl,z,q,-1,1,rfl,⟨dz,hd⟩,hq,aP.of_lt (by decide) (by decide),fun h=>absurd h nv,fun _ v0 H1 s1 ho=>?_⟩
 refine ⟨by show 1≤sizeLine;decide,fun l nl=>?_⟩
 have sl:ai H1 (upd H1 l (.lst [v0])):=aB nl;have hR:aD 1000 (upd H1 l (.lst [v0])) q l [cf q (-1)]:=⟨[v0],av,rfl,fun i v p h1 h2=>by
  match i,h1,h2 with
  | 0,h1,h2=>cases h1;cases h2;exact (Mu (by decide) ho).mono sl
  | i+1,h1,h2=>simp at h1⟩
 generalize upd H1 l (.lst [v0])=H2 at sl hR ⊢;have s2:=s1.trans sl;refine ⟨_,rfl,z,l,q,[cf q (-1)],1000,n,rfl,⟨dz,s2 _ _ hd⟩,hq,hR,by decide,by show 1≤n;exact n1,by lia,fun b H3 s3 nb hB=>?_⟩
 have Fx:=s2.trans s3;refine ⟨_,rfl,z,dz,_,rfl,Fx _ _ hd,fG (by decide +kernel),z,q,1,1,rfl,⟨dz,Fx _ _ hd⟩,hq,aP.of_lt (by decide) (by decide),fun h=>absurd h nv,fun _ v1 H4 s4 VX=>?_⟩
 refine ⟨by show 1≤sizeLine;decide,fun l4 VY=>?_⟩
 have Fy:ai H4 (upd H4 l4 (.lst [v1])):=aB VY;have Mv:upd H4 l4 (.lst [v1]) l4=some (.lst [v1]):=av;have h1:=(Mu (by decide) VX).mono Fy
 generalize upd H4 l4 (.lst [v1])=H5 at Fy Mv h1 ⊢;have iN:=s4.trans Fy;obtain ⟨vs,eb,lv,fv⟩:=hB.mono iN;refine ⟨b,l4,vs,[v1],rfl,rfl,eb,Mv,?_,fun c nc=>?_⟩
 ·rw [lv]
  unfold i8;exact ae (show _≤200 by simp;lia) (by decide)
 have sc:ai H5 (upd H5 c (.lst (vs++[v1]))):=aB nc;have iM:=Fx.trans iN;refine k c _ (iM.trans sc) (none_of iM nc) (aD.cat av lv rfl (fun i v p h1 h2=>(fv i v p h1 h2).mono sc) (fun i v p e1 e2=>?_))
 match i,e1,e2 with
 | 0,e1,e2=>cases e1;cases e2;exact h1.mono sc
 | i+1,e1,e2=>simp at e1
theorem VZ:bo ["row"] ["row"] (aL As):=bI
theorem Mw(T:Txt K mg t):aW P w K mg base (dP P w) 1 t.p9 t.tQ ["row"] (RP t.nQ):=by
 have S:=VZ;obtain ⟨uM,hM,rM⟩:=T.Ln;refine T.qS.fE S (fun _ _ _ _ H _ _ _ hr h L=>?_);obtain ⟨a,xs,rfl,ea,aci,kE,k⟩:=h
 refine ⟨_,(ak (bG (rQ (Oi r6 r6 ah (bp cn rfl T.ck cm (aa (pv 0) af)) (Cn (v:=.int 40) rfl hM rM))) (aw (sL L rfl rO T.EO rfl T.EL (aa eF af))) b6)
  (aw (aR (bp cn rfl T.ck cm (aa (pv 0) af))))),?_⟩
 refine ⟨_,rfl,a,xs,rfl,.inl (.of ea),_,_,rfl,rfl,_,rfl,bS (fun h1=>?_) (fun h1=>?_)⟩
 ·have e1:(1:Int)≤(xs.length:Int):=di h1
  refine ⟨_,_,rfl,rfl,_,rfl,bS (fun h2=>?_) (fun h2=>?_)⟩
  ·have e2:¬(xs.length:Int)≤40:=by simpa using h2
   exact ⟨by show 1≤sizeLine;decide,kE (.inr (by lia))⟩
  ·have e2:(xs.length:Int)≤40:=by simpa using h2
   exact ⟨_,rfl,a,xs,rfl,.inl (.of ea),k fun h=>by rcases h with h | h <;> lia⟩
 ·have e1:¬(1:Int)≤(xs.length:Int):=fun z=>h1 (dE z)
  exact ⟨false,rfl,dG ⟨by show 1≤sizeLine;decide,kE (.inl (by lia))⟩⟩
theorem V0:bo ["n","aim"] ["n","aim"] (aL Ar):=bI
theorem V1(T:Txt K mg t):aW P w K mg base (dP P w) 1 t.pZ t.tP ["n","aim"] (RQ t.nQ):=by
 have S:=V0;refine T.uE.fE S (fun _ _ _ _ H _ _ _ hr h L=>?_);obtain ⟨n,a,xs,rfl,ea,kE,k⟩:=h;refine ⟨_,(aw (bG (bw oS (bp cn rfl T.ck cm (aa (pv 1) af)) (pv 0)) (aw (sL L rfl rO T.EO rfl T.EL (aa eF af))) b6)),?_⟩;refine ⟨_,rfl,a,xs,rfl,.inl (.of ea),_,rfl,rfl,_,rfl,bS (fun mV=>?_) (fun mV=>?_)⟩
 ·have mV:xs.length≠n:=fun z=>by
   have:(xs.length:Int)=(n:Int):=by lia
   rw [o9,dE this] at mV;cases mV
  exact ⟨by show 1≤sizeLine;decide,kE mV⟩
 ·have heq:xs.length=n:=by
   by_cases z:(xs.length:Int)=(n:Int);·lia
   ·exact absurd (by rw [o9,fM z];rfl) mV
  exact k heq
theorem V2:bo ["world","row","n","told"] ["world","row"] (aL Aw):=bI
theorem Mx(T:Txt K mg t):aW P w K mg base (dP P w) 10 t.qb t.tV ["world","row"] (Ka t.a9):=by
 have S:=V2;refine T.lN.fE S (fun _ _ _ _ H vs _ _ hr h L=>?_);obtain ⟨z,a,q,n,W,ps,rfl,hz,hq,hA,cE,kN,k⟩:=h
 refine ⟨_,(ak (putL 2 S.nd (aC (Mw T) hr T.Ez T.qS.kp T.Ey (mP L) (aa (pv 1) af)))
  (ak (putL 3 S.nd (aC (Md T) hr T.Ex T.qR.kp T.Ew ay (aa (pv 0) (aa (pv 1) (aa (aC (Mt T) hr T.EB T.qT.kp T.EA ay (aa (pv 0) (aa (pv 2) af))) af)))))
  (ak (bG (bw jv (bp cn rfl T.ck cm (aa (aA a8 (pv 3) ah) af)) ah) (aw (aR jq)) b6)
  (aw (aR (aC (Bj T) hr T.xr T.lM.kp T.xq ay (aa (pv 0) (aa (aA a8 (pv 3) ah) (aa (pv 2) af))))))))),?_⟩
 obtain ⟨dz,hd⟩:=id hz;obtain ⟨D,f,R⟩:=cE.row;have n1:=cE.sz.t.n1;have dt:=cE.sz.t.dt;have len:=cE.len;have lt:=nK (q:=q) n1;obtain ⟨xs,ea,lv,fv⟩:=id hA;have ln:(xs.length:Int)=(n:Int):=by lia
 refine ⟨_,rfl,a,xs,rfl,ea,by lia,fun h=>?_,fun _=>?_⟩
 ·unfold zK at h
  lia
 rw [ln];dsimp only [bH]
 try simp only [dZ,d0,L2.start]
 refine ⟨_,rfl,_,rfl,_,rfl,_,rfl,z,q,n,rfl,hz,hq,n1,by lia,fun c1 H1 s1 V3 hT=>?_⟩
 refine ⟨z,a,c1,q,ps,de q n,D,1,f,tp n,W,1,Zt q n W,rfl,hz.mono s1,hq,hA.mono s1,hT.weak (by decide +kernel),cE.Kb hq R,fun p l0 xE l2 gs us vs ts ws r u v b1 b2 ld H2 s2 ep _ _ V4 _ _ _ hG hU _ _ _ _ Mz _ _ ext _ bu _ bt _ iH _ vj C=>?_⟩
 have bL:=s1.trans s2;have cp:=hA.dH;have cu:=hU.dH;have xV:=C.nn hq n1;have V5:=C.lg;obtain ⟨gv,eg,V6,_⟩:=id hG;dsimp only [bH]
 try simp only [dZ,d0]
 refine ⟨_,rfl,p,_,_,_,rfl,rfl,.of ep,rfl,l0,gv,rfl,.inl (.of eg),_,_,rfl,rfl,_,rfl,bS (fun h0=>?_) (fun h0=>?_)⟩
 ·have h0:(1:Int)<(gv.length:Int):=di h0
  exact kN _ bL fun D' f' w h=>C.no hq n1 (by lia) (z8 hq cp w.ok w.w C.k1 C.p1 h)
 ·have h0:¬(1:Int)<(gv.length:Int):=fun z=>h0 (dE z)
  have l1:r.length=1:=by lia
  have cl:=i9 ps;have hl:=ext (by rw [jc hq n1,lt];lia)
  rw [jc hq n1,lt] at hl;have Fz:u.length≤n:=by lia
  have BC:=C.lu;obtain ⟨F,M,RW,m⟩:=C.row hq n1 l1 cu Fz (jK cE.sz.t 1) cE.sz.t.w bu vj iH;dsimp only [iq];refine ⟨_,rfl,_,rfl,p,_,_,_,rfl,rfl,.of ep,rfl,_,rfl,z,xE,q,us,B2,n,rfl,(hz.mono bL),hq,hU,by decide +kernel,by lia,by lia,fun c H3 s3 nc hC=>?_⟩
  exact k c _ F M H3 (bL.trans s3) (none_of bL nc) hC (C.SM hq n1 l1 cp (by lia) RW m)
theorem V7:bo ["world","row","aim","n","turn","told","answer"] ["world","row","aim"] (aL Av):=bI
theorem V8(T:Txt K mg t):aW P w K mg base (dP P w) 10 t.qa t.tS ["world","row","aim"] (SF t.a9):=by
 have S:=V7;refine T.uF.fE S (fun _ _ _ s H vs _ _ hr h L=>?_);obtain ⟨z,a,b,q,SS,n,W,X,ps,ss,s,rfl,hz,hq,hA,hB,cE,ls,RS,x1,bX,k⟩:=h
 refine ⟨_,(ak (putL 3 S.nd (aC (Mw T) hr T.Ez T.qS.kp T.Ey (mP L) (aa (pv 1) af)))
  (ak (GP (aC (V1 T) hr T.Kx T.uE.kp T.Kw (mP L) (aa (pv 3) (aa (pv 2) af))))
  (ak (putL 4 S.nd (aC (Mt T) hr T.EB T.qT.kp T.EA ay (aa (pv 0) (aa (pv 3) af))))
  (ak (putL 5 S.nd (aC (Md T) hr T.Ex T.qR.kp T.Ew ay (aa (pv 0) (aa (pv 1) (aa (pv 4) af)))))
  (ak (bG (bw jv (bp cn rfl T.ck cm (aa (aA a8 (pv 5) ah) af)) ah) (aw (aR (fA (aa eF (aa (aA a8 (pv 5) ah) (aa (aC (Bj T) hr T.xr T.lM.kp T.xq ay (aa (pv 0) (aa (aA a8 (aC (Mm T) hr T.Eu T.qQ.kp T.Et (mP L) (aa (pv 0) (aa (pv 4) (aa (aA a8 (pv 5) ah) af)))) ah) (aa (pv 3) af)))) af)))))) b6)
  (ak (putL 6 S.nd (aA a8 (aC (Mm T) hr T.Eu T.qQ.kp T.Et (mP L) (aa (pv 0) (aa (aC (VR T) hr T.Kv T.uD.kp T.Ku ay (aa (pv 0) (aa (aA a8 (pv 5) ah) (aa (pv 2) af)))) (aa (pv 4) af)))) ah))
  (aw (aR (fA (aa eF (aa (aC (Bj T) hr T.xr T.lM.kp T.xq ay (aa (pv 0) (aa (pv 6) (aa (pv 3) af)))) af))))))))))),?_⟩
 obtain ⟨dz,hd⟩:=id hz;obtain ⟨D,f,R⟩:=cE.row;have n1:=cE.sz.t.n1;have dt:=cE.sz.t.dt;have len:=cE.len;have lt:=nK (q:=q) n1;obtain ⟨xs,ea,lv,fv⟩:=id hA;obtain ⟨ys,eb,lw,fw⟩:=id hB;have ln:(xs.length:Int)=(n:Int):=by lia
 refine ⟨_,rfl,a,xs,rfl,ea,by lia,fun h=>?_,fun _=>?_⟩
 ·unfold zK at h
  lia
 rw [ln];dsimp only [bH];refine ⟨_,rfl,_,rfl,n,b,ys,rfl,eb,fun h=>absurd (by lia) h,fun _=>?_⟩
 try dsimp only [iq]
 refine ⟨_,rfl,_,rfl,z,q,n,rfl,hz,hq,n1,by lia,fun c1 H1 s1 V3 hT=>?_⟩
 have hT:=hT.weak (B':=10 ^ 290) (by decide +kernel)
 dsimp only [bH];refine ⟨_,rfl,_,rfl,_,rfl,z,a,c1,q,ps,de q n,D,1,f,tp n,W,1,Zt q n W,rfl,hz.mono s1,hq,hA.mono s1,hT,cE.Kb hq R,fun p l0 xE l2 gs us vs ts ws r u v b1 b2 ld H2 s2 ep _ _ V4 _ _ _ hG hU _ MA _ _ Mz _ _ ext br bu _ bt _ iH _ vj C=>?_⟩;have bL:=s1.trans s2;have cp:=hA.dH;have cu:=hU.dH;have xV:=C.nn hq n1;have V5:=C.lg;have MB:=hT.mono s2;obtain ⟨gv,eg,V6,_⟩:=id hG;dsimp only [bH];refine ⟨_,rfl,p,_,_,_,rfl,rfl,.of ep,rfl,l0,gv,rfl,.inl (.of eg),_,_,rfl,rfl,_,rfl,bS (fun h0=>?_) (fun h0=>?_)⟩
 ·have h0:(1:Int)<(gv.length:Int):=di h0
  obtain ⟨M,G,PI⟩:=C.SO hq cE.sz hG.dH MA (by lia) Mz br
  have neg:∀D f,fe q n ps D f→¬Inv q n f:=fun D' f' w h=>C.no hq n1 (by lia) (z8 hq cp w.ok w.w C.k1 C.p1 h)
  refine ⟨_,rfl,p,_,_,_,rfl,rfl,.of ep,rfl,_,rfl,_,rfl,_,rfl,_,rfl,p,_,_,_,rfl,rfl,.of ep,rfl,z,c1,l0,q,de q n,gs,1,M,tp n,G,1000,Zt q n W 2,n,rfl,hz.mono bL,hq,MB,hG,PI,fun p2 m1 m2 pI s_ H3 s3 nV V9 _ _ V_=>?_⟩;rw [MA,jc hq n1,lt] at V_;have gh:=bL.trans s3;refine ⟨p2,_,_,_,rfl,rfl,.of nV,rfl,_,rfl,z,m1,q,pI,10 ^ 580,n,rfl,hz.mono gh,hq,V9,jZ (by decide),by lia,by lia,fun c4 H4 s4 E7 FA=>?_⟩
  refine ⟨by show 3≤sizeLine;decide,fun pp rq=>?_⟩
  exact k pp _ _ _ (gh.trans (s4.trans (aB rq))) av (.inl ⟨rfl,neg⟩)
 ·have h0:¬(1:Int)<(gv.length:Int):=fun z=>h0 (dE z)
  have l1:r.length=1:=by lia
  have cl:=i9 ps;have hl:=ext (by rw [jc hq n1,lt];lia)
  rw [jc hq n1,lt] at hl;have Fz:u.length≤n:=by lia
  have BC:=C.lu;obtain ⟨F,M,RW,m⟩:=C.row hq n1 l1 cu Fz (jK cE.sz.t 1) cE.sz.t.w bu vj iH;have pos:∀D f,fe q n ps D f→Inv q n f:=fun D' f' w=>z8 hq cp C.k1 C.p1 w.ok w.w (C.inv hq n1 l1);dsimp only [iq];have z1:=jK cE.sz.t 1;have hW:=cE.sz.t.w;have ZW:1000≤Zt q n W 1*W:=ae z1 (fQ _ (by lia))
  have ZX:Zt q n W 1*W*X≤10 ^ 270:=ae (bE cE.sz.big bX) (by decide +kernel)
  have PI:=SU hq n1 dt RW RS (by lia) (by lia) (ae (by decide) ZW) cE.sz.big bX
  refine ⟨_,rfl,_,rfl,_,rfl,p,_,_,_,rfl,rfl,.of ep,rfl,_,rfl,z,xE,b,q,us,ss,M,SS,F,s,Zt q n W 1*W,X,Zt q n W 1*W,X,n,n,rfl,hz.mono bL,hq,hU,hB.mono bL,by lia,by lia,RW,RS,ZW,x1,ZX,ae (by decide) ZW,by lia,ZX,fun c3 H3 s3 LG Wa=>?_⟩
  have gh:=bL.trans s3;refine ⟨_,rfl,z,c3,c1,q,_,de q n,M*SS,1,bJ us.length ss.length F s,tp n,10 ^ 280,1000,2*n,rfl,hz.mono gh,hq,Wa,MB.mono s3,PI,fun p2 m1 m2 pI s_ H4 s4 nV _ Wb Wc _=>?_⟩;rw [jc hq n1,lt] at Wc;have oj:=gh.trans s4;refine ⟨p2,_,_,_,rfl,rfl,.of nV,rfl,?_⟩;dsimp only [bH];refine ⟨_,rfl,_,rfl,_,rfl,z,m2,q,s_,10 ^ 580,n,rfl,hz.mono oj,hq,Wb,jZ (by decide),by lia,by lia,fun c5 H5 s5 Ms FC=>?_⟩
  refine ⟨by show 2≤sizeLine;decide,fun pp rq=>?_⟩
  exact k pp _ _ _ (oj.trans (s5.trans (aB rq))) av (.inr ⟨rfl,pos⟩)
theorem Wd:bo ["told","many"] ["told","many"] (aL AV):=bI
theorem We(T:Txt K mg t):aW P w K mg base bQ 2 t.qz t.uq ["told","many"] Kh:=by
 have S:=Wd;have gM:=vg (P:=P) (w:=w) (base:=base) (B:=1000) T;refine T.uZ.cq S (fun _ _ _ _ H _ _ _ hr h=>?_);obtain ⟨td,q,n,rfl,ht,hq,n1,dt,k⟩:=h;refine ⟨_,(aw (aR (au k9 (au k9 (cw (aa (aC gM hr T.jQ T.gK.kp T.jP ay (aa (pv 0) (aa (jt ju ah) af))) af)) (kj (N:=["k","told"]) (ρ:=(fun σ=>[σ[0]?.join])) (gD [0] rfl) rfl (gS rfl T.gg (aa (au d8 (pv 1) ah) af)) (fun _ _ _=>.nil) (fun _ _ _=>(aC gM hr T.jQ T.gK.kp T.jP ay (aa (pv 1) (aa ah af)))))) (cw (aa (aC gM hr T.jQ T.gK.kp T.jP ay (aa (pv 0) (aa ah af))) af))))),?_⟩;refine ⟨_,rfl,_,rfl,td,q,-1,rfl,ht,hq,by decide,by decide,fun v0 H1 s1 h0=>?_⟩
 refine ⟨by show 1≤sizeLine;decide,fun l nl=>?_⟩
 have sl:ai H1 (upd H1 l (.lst [v0])):=aB nl;have el:upd H1 l (.lst [v0]) l=some (.lst [v0]):=av;have h0:=h0.mono sl;generalize upd H1 l (.lst [v0])=H2 at sl el h0 ⊢;have s2:=s1.trans sl;refine pk (xs:=(List.range (n-1)).map fun i:Nat=>V.int (0+(i:Int))) (fun R h=>?_) (by rw [aT,gw];exact jA (by lia)) (fun _ j y Hx=>aZ 1000 Hx q y (cf q 0).1 (cf q 0).2) (fun _ _ _ _ _ _ h1 e f=>h1.cQ e f) ?_ ?_
 ·exact ⟨_,rfl,_,_,rfl,rfl,((n-1:Nat):Int),fN (fun x=>[V.int x]) (show (n:Int)-1=((n-1:Nat):Int) by lia),by lia,by lia,h _ _ (ai.refl _) (by rw [dI];exact zh)⟩
 ·intro Dx i v hi Hc R sc _ kc
  exact ⟨_,rfl,td,q,0,rfl,ht.mono (s2.trans sc),hq,b9 _,by decide,fun u H' s' hu=>kc u H' s' hu⟩
 intro D ys H3 nD s3 eV hP eD;rw [aT,gw] at eV;have Wf:=s2.trans s3;refine ⟨l,D,[v0],ys,rfl,rfl,s3 _ _ el,eD,ae (show _≤200 by simp;lia) (by decide),fun c nc=>?_⟩
 have sc:ai H3 (upd H3 c (.lst ([v0]++ys))):=aB nc;have ec:upd H3 c (.lst ([v0]++ys)) c=some (.lst ([v0]++ys)):=av;have hP:=fun i v e=>(hP i v e).mono sc;have h0:=(h0.mono s3).mono sc;generalize upd H3 c (.lst ([v0]++ys))=H4 at sc ec hP h0 ⊢;have s4:=Wf.trans sc;dsimp only;refine ⟨_,rfl,td,q,1,rfl,ht.mono s4,hq,by decide,by decide,fun v1 H5 s5 h1=>?_⟩
 refine ⟨by show 1≤sizeLine;decide,fun l5 Wg=>?_⟩
 have FD:ai H5 (upd H5 l5 (.lst [v1])):=aB Wg;have MC:upd H5 l5 (.lst [v1]) l5=some (.lst [v1]):=av;have h1:=h1.mono FD;generalize upd H5 l5 (.lst [v1])=H6 at FD MC h1 ⊢;have xZ:=s5.trans FD;refine ⟨c,l5,[v0]++ys,[v1],rfl,rfl,xZ _ _ ec,MC,ae (show _≤200 by simp;lia) (by decide),fun r nr=>?_⟩
 have sr:ai H6 (upd H6 r (.lst ([v0]++ys++[v1]))):=aB nr;refine k r _ (s4.trans (xZ.trans sr)) (none_of (s4.trans xZ) nr) ?_;have e0:cf q 0=o1:=by unfold cf;split <;> simp [o1]
 have one:∀{Hx:Hp} {v:V} {p:Int×Int},aZ 1000 Hx q v p.1 p.2→∀(i:Nat) (w:V) (x:Int×Int),[v][i]?=some w→[p][i]?=some x→aZ 1000 Hx q w x.1 x.2:=fun{Hx v p} hv i w x a b=>by
  match i,a,b with
  | 0,a,b=>cases a;cases b;exact hv
  | i+1,a,b=>simp at a
 unfold de i8;refine aD.cat av (by simp;lia) rfl (fun i v p a b=>?_) (one (h1.mono sr))
 by_cases hi:i<1
 ·rw [ib (by simpa using hi)] at a b
  exact one ((h0.mono xZ).mono sr) i v p a b
 ·rw [gQ (by simp;lia)] at a b
  rw [kP] at b
  split at b
  ·cases b
   have z:=(hP _ v a).mono (xZ.trans sr);rw [e0] at z;exact z
  ·cases b
theorem Wh:bo ["told","many","row","found","k"] ["told","many","row"] (aL AW):=bI
theorem BH(T:Txt K mg t):aW P w K mg base bQ 4 t.qA t.ur ["told","many","row"] Ee:=by
 have S:=Wh;have gM:=vg (P:=P) (w:=w) (base:=base) (B:=B2) T;refine T.lO.cq S (fun _ _ _ _ H vs _ _ hr h=>?_);obtain ⟨td,a,q,D,n,ps,h,rfl,ht,hq,hA,n1,dt,lp,cZ,bD,wh,bh,k⟩:=h
 refine ⟨_,(ak (sQ (i0:=3) (N:=["k","told"]) (ρ:=(fun σ=>[σ[0]?.join])) (gD [0] rfl) rfl S.nd rfl (Or.inl rfl) (gS rfl T.gg (aa (pv 1) af)) (fun _ _ _=>.nil) (fun _ _ _=>(aC gM hr T.jQ T.gK.kp T.jP ay (aa (pv 1) (aa ah af)))))
  (ak (iY eo rfl (gS rfl T.gg (aa (bp cn rfl T.ck cm (aa (pv 2) af)) af)) (e_ (i:=4) S.nd rfl (Or.inl rfl))
   (aw (@vZ _ _ _ _ _ _ (aC (LO T) hr T.EF T.qV.kp T.EE ay (aa (pv 0) (aa (aA bP (pv 3) (au eJ (pv 4) (pv 1))) (aa (aA bP (pv 2) (pv 4)) af)))) (vY (pv 3) (au eJ (pv 4) (pv 1)) set_list) (by rfl) (by rfl) (by rfl))))
  (aw (aR (pv 3))))),?_⟩
 obtain ⟨vs,ea,lv,fv⟩:=id hA;have iJ:1000≤B2:=by decide +kernel
 have e0:cy q 0 D=cf q 0:=by obtain ⟨c,w⟩:=nJ q 0 hq;refine ku hq (gG hq cZ) c ((gc (T:=0) cZ).trans (aS.symm (w.trans ?_ aX.one)) cZ);exact ⟨0,by simp⟩
 refine iC (dq (pk (xs:=(List.range n).map fun i:Nat=>V.int (0+(i:Int))) (fun R h=>⟨_,rfl,(n:Int),rfl,by lia,by lia,h _ _ (ai.refl _) (by rw [dI];exact zh)⟩) (by rw [aT,gw];exact jA (by lia)) (fun _ j y Hx=>aZ B2 Hx q y (cy q 0 D).1 (cy q 0 D).2) (fun _ _ _ _ _ _ h1 e f=>h1.cQ e f) ?_ ?_))
 ·intro Dx i v hi Hc R sc _ kc
  refine ⟨_,rfl,td,q,0,rfl,ht.mono sc,hq,b9 _,iJ,fun u H' s' hu=>kc u H' s' ?_⟩;rw [e0];exact hu
 intro fd ys H1 Bm s1 eV hP Fg;rw [aT,gw] at eV;dsimp only [bH];refine ⟨_,rfl,a,vs,rfl,.inl (.of (s1 _ _ ea)),(vs.length:Int),rfl,by lia,by lia,?_⟩
 rw [dI]
 refine rZ (fun i σ Hc=>ai H Hc∧∃(v4:Option V) (ws:List V),σ=[some (.ref td),some (.int (n:Int)),some (.ref a),some (.ref fd),v4]∧Hc fd=some (.lst ws)∧ws.length=n∧∀(x:Nat) (w:V),ws[x]?=some w→aZ B2 Hc q w (cy q (fK n i h x) D).1 (cy q (fK n i h x) D).2)
  ⟨s1,_,ys,rfl,Fg,eV,fun x w hw=>by rw [SV];exact hP x w hw⟩ ?_ ?_
 ·rintro i σ Hc hi ⟨sc,v4,ws,rfl,ef,hV,iK⟩
  have hn:i % n<n:=Nat.mod_lt _ (by lia)
  have cE:i % n<ws.length:=by lia
  have cD:i<ps.length:=by lia
  have MD:(0+(i:Int)) % (n:Int)=((i % n:Nat):Int):=by rw [vM];exact (Int.natCast_emod i n).symm
  have nA:=(fv i vs[i] ps[i] (by simp [hi]) (by simp [cD])).mono sc
  have nW:=iK (i % n) ws[i % n] (by simp [cE])
  have wA:=wh i;rw [getD_at cD] at wA;dsimp only [bH];refine ⟨_,rfl,_,rfl,_,rfl,_,rfl,_,_,rfl,rfl,(by show (0:Int)<(n:Int);lia),fd,ws,_,ws[i % n],rfl,rfl,.of ef,(by show dA ws ((0+(i:Int)) % (n:Int))=_;rw [MD];exact i3 (by simp [cE])),_,rfl,_,rfl,a,vs,_,vs[i],rfl,rfl,.of (sc _ _ ea),(by show dA vs (0+(i:Int))=_;rw [vM];exact i3 (by simp [hi])),td,q,_,_,cy q (fK n i h (i % n)) D,ps[i],B2,rfl,ht.mono sc,hq,nW,nA,iJ,by decide +kernel,fun v2 H2 s2 xO=>?_⟩
  have kH:=s2 _ _ ef;have eA:=Ji hq cZ (gG (T:=fK n i h (i % n)) hq cZ) nA.canon (gc cZ) wA;rw [eA] at xO;refine ⟨_,rfl,_,rfl,_,rfl,_,_,rfl,rfl,(by show (0:Int)<(n:Int);lia),fd,ws,_,i % n,rfl,rfl,kH,(by show gU ws.length ((0+(i:Int)) % (n:Int))=_;rw [MD];unfold gU;rw [ar (by lia),ar (by lia),dI]),?_⟩
  have cQ:∀b o,b≠fd→H2 b=some o→upd H2 fd (.lst (ws.set (i % n) v2)) b=some o:=fun b o nb e=>by rw [b7 nb];exact e
  refine ⟨kn (sc.trans s2) Bm,_,_,rfl,av,by rw [List.length_set];exact hV,fun x w hw=>?_⟩
  by_cases zx:i % n=x
  ·subst zx
   rw [vx cE] at hw;cases hw;rw [SW (by lia) hn rfl]
   have bT:(fK n i h (i % n)+h i).natAbs≤B2:=by have b1:=SY (n:=n) (k:=i) (x:=i % n) bh;exact ae (vL ..) (ae (oA b1 (bh i)) (by decide +kernel))
   have bb:=Dw hq cZ iJ bT bD;exact (xO.Dy bb.1 bb.2).cQ kH cQ
  ·rw [vy zx] at hw
   have hx:x<n:=by rw [←hV];exact (cU.mp hw).1
   rw [SX (by lia) hx zx]
   exact ((iK x w hw).mono s2).cQ kH cQ
 ·rintro σ Hc ⟨sc,v4,ws,rfl,ef,hV,iK⟩
  refine ⟨_,rfl,k fd Hc sc Bm ⟨ws,ef,by rw [hV,tj],fun x w p x1 x2=>?_⟩⟩
  have hx:x<n:=by rw [←hV];exact (cU.mp x1).1
  have z:=iK x w x1;have e:(eX q n h D)[x]?=some (cy q (wr n h x) D):=by unfold eX;simp [hx]
  rw [e] at x2;cases x2;rw [Jk hq cZ cZ (T:=fK n vs.length h x) (U:=wr n h x)] at z;·exact z
  ·obtain ⟨c,y⟩:=S2 (q:=q) (k:=vs.length) (h:=h) hx fun i hi=>by
    have w0:=wh i;rw [dr (by lia)] at w0
    exact Ei w0
   exact ⟨c*D,by dsimp only;rw [←Int.sub_mul,y,ie]⟩
theorem Wi:bo ["told","row","numbers"] ["told","row","numbers"] (aL AY):=bI
theorem BI(T:Txt K mg t):aW P w K mg base bQ 6 t.qC t.uv ["told","row","numbers"] S5:=by
 have S:=Wi;refine T.kD.cq S (fun _ _ _ _ H vs _ _ hr h=>?_);obtain ⟨td,a,b,q,D1,D2,n,ps,rs,f,g,X1,X2,Y1,Y2,rfl,ht,hq,hA,hB,n1,dt,lp,lr,R1,R2,bX,bY,k⟩:=h;refine ⟨_,(aw (aR (aC (BH T) hr T.xw T.lO.kp T.xv ay (aa (pv 0) (aa (bp cn rfl T.ck cm (aa (pv 1) af)) (aa (aC (Ff T) hr T.A9 T.nS.kp T.A8 ay (aa (pv 0) (aa (pv 1) (aa (pv 2) af)))) af)))))),?_⟩;obtain ⟨vs,ea,lv,fv⟩:=id hA;have ok:=R1.ok.mul R2.ok;have bD:(D1*D2).natAbs≤B2:=by rw [a7];exact ae (bE R1.bD R2.bD) (ae bY (by decide +kernel))
 have ME:∀i j,(f i*g j).natAbs≤10 ^ 260:=fun i j=>by rw [a7];exact ae (bE (R1.bf i) (R2.bf j)) bX
 have Wj:∀i j,(f i*g j).natAbs≤10 ^ 270:=fun i j=>ae (ME i j) (by decide +kernel)
 refine ⟨_,rfl,_,rfl,a,vs,rfl,.inl (.of ea),_,rfl,_,rfl,_,rfl,td,a,b,q,ps,rs,D1*D2,f,g,rfl,ht,hq,hA,hB,by lia,by lia,ok,bD,Wj,fun i j _ _=>Jy (R1.w i) (R2.w j),fun c H1 s1 nc hC=>?_⟩
 have cP:=DM (n:=ps.length) (m:=rs.length) (N:=ps.length+rs.length-1) (f:=f) (g:=g) hq ok;have lP:(cY q ps.length rs.length f g (D1*D2) (ps.length+rs.length-1)).length=ps.length+rs.length-1:=by simp [cY]
 have cl:=i9 (cY q ps.length rs.length f g (D1*D2) (ps.length+rs.length-1));refine ⟨td,c,q,D1*D2,n,_,cv f g,by rw [lv,lp];rfl,ht.mono s1,hq,hC,n1,dt,by lia,ok,bD,fun i=>?_,fun i=>?_,fun c2 H2 s2 Bk BJ=>k c2 H2 (s1.trans s2) (none_of s1 Bk) BJ⟩
 ·rw [DL hq cP]
  refine (DN ok i).trans ?_ ok;refine Kk (Kj (fun i hi=>R1.out i (by lia)) (fun j hj=>?_) i)
  have w:=R2.w j;rw [dr hj] at w;exact Ei w
 ·exact ae (z_ R1.out ME i) (ae (fW _ dt) (by decide +kernel))
theorem Wk:bo ["pen","told","many","row","way","by"] ["pen","told","many"] (aL AX):=bI
theorem Wl(T:Txt K mg t):aW P w K mg base bQ 7 t.qB t.uu ["pen","told","many"] (S_ K):=by
 have S:=Wk;refine T.qX.cq S (fun _ _ _ _ H _ Q _ hr h=>?_);obtain ⟨P0,a,td,ns,q,n,F,W1,W2,rfl,pc,hS,ht,hq,sz,k⟩:=h;have gM:=vg (P:=P) (w:=w) (base:=base) (B:=F+1000) T
 refine ⟨_,(ak (sQ (i0:=3) (N:=["k","pen","told","many"]) (ρ:=(fun σ=>[σ[0]?.join,σ[1]?.join,σ[2]?.join])) (gD [0,1,2] rfl) rfl S.nd rfl (Or.inl rfl) (gS rfl T.gg (aa (pv 2) af)) (fun _ _ _=>.nil) (fun _ _ _=>(aC (LP T) hr T.EH T.qW.kp T.EG ay (aa (pv 1) (aa (pv 2) (aa (aA (QG (K:=K)) (cw (aa (au Cz ah ah) (aa (au Cz ah ah) (aa ah (aa ah (aa ah (aa ah af))))))) (au d8 (bp (Oj rfl) rfl T.Lk boot_min (aa (pv 3) (aa ah af))) ah)) af))))))
  (ak (putL 4 S.nd (aC (rg T) hr T.fU T.d_.kp T.fT ay (aa (pv 0) (aa ah af))))
  (ak (mX 5 S.nd (au d5 ah (aC (rg T) hr T.fU T.d_.kp T.fT ay (aa (pv 0) (aa (pv 2) af)))))
  (ak (bG (PW.pt (pw_or (bw dO (pv 4) ah) (pw_or1 (bw dO (pv 4) ah)))) (aw (putL 3 S.nd (aC (BH T) hr T.xw T.lO.kp T.xv ay (aa (pv 1) (aa (pv 2) (aa (aC (Ff T) hr T.A9 T.nS.kp T.A8 ay (aa (pv 1) (aa (pv 3) (aa (aC (We T) hr T.La T.uZ.kp T.K_ ay (aa (pv 1) (aa (pv 5) af))) af)))) af)))))) b6)
  (ak (bG (bw dO (pv 4) ah) (aw (putL 3 S.nd (aC (BH T) hr T.xw T.lO.kp T.xv ay (aa (pv 1) (aa (pv 2) (aa (aC (Ff T) hr T.A9 T.nS.kp T.A8 ay (aa (pv 1) (aa (pv 3) (aa (kj (N:=["k","told"]) (ρ:=(fun σ=>[σ[1]?.join])) (gD [1] rfl) rfl (gS rfl T.gg (aa (pv 5) af)) (fun _ _ _=>.nil) (fun _ _ _=>(aC gM hr T.jQ T.gK.kp T.jP ay (aa (pv 1) (aa ah af))))) af)))) af)))))) b6)
  (ak (bG (bw dO (pv 4) ah) (aw (sQ (i0:=3) (N:=["k","told","by","pen"]) (ρ:=(fun σ=>[σ[1]?.join,σ[5]?.join,σ[0]?.join])) (gD [1,5,0] rfl) rfl S.nd rfl (Or.inl rfl) (gS rfl T.gg (aa (pv 2) af)) (fun _ _ _=>.nil) (fun _ _ _=>(aC gM hr T.jQ T.gK.kp T.jP ay (aa (pv 1) (aa (au fS (o5 Ol rfl T.xC boot_int (aa (mK dO (pv 0) (au d8 (pv 2) ah)) af)) (au d5 ah (aC (rg T) hr T.fU T.d_.kp T.fT ay (aa (pv 3) (aa ah af))))) af)))))) b6)
  (ak (bG (bw dO (pv 4) ah) (aw (sQ (i0:=3) (N:=["k","told","pen"]) (ρ:=(fun σ=>[σ[1]?.join,σ[0]?.join])) (gD [1,0] rfl) rfl S.nd rfl (Or.inl rfl) (gS rfl T.gg (aa (pv 2) af)) (fun _ _ _=>.nil) (fun _ _ _=>(aC gM hr T.jQ T.gK.kp T.jP ay (aa (pv 1) (aa (au d8 (aC (rg T) hr T.fU T.d_.kp T.fT ay (aa (pv 2) (aa ah af))) ah) af)))))) b6)
  (aw (aR (pv 3)))))))))),?_⟩
 obtain ⟨n1,n8,s1,s2,Eg,f4,pJ,b1,xo,b2,n6⟩:=id sz;have bF:F≤B2:=ae pJ (by decide +kernel)
 refine iC (dq (zD (P:=P0) (a:=a) (n:=n) (fV n8 (by decide)) (fun R h=>⟨_,rfl,(n:Int),rfl,by lia,by lia,by rw [dI];exact h H (aK.refl _) pc⟩) (fun D _ y Hx=>∃xm:Int×Int,aZ F (er P0 Hx) q y xm.1 xm.2) (fun _ _ _ _ _ _ ⟨xm,h1⟩ e _ f=>⟨xm,h1.zy e f⟩) ?_ ?_))
 ·intro D i hi Hc R sc rz _ nD kc
  refine ⟨_,rfl,_,rfl,_,_,rfl,rfl,⟨by decide,by decide,by decide⟩,_,_,rfl,rfl,⟨by decide,by decide,by decide⟩,by show 6≤sizeLine;decide,fun l nl=>?_⟩
  have t1:=aB (o:=.lst [.int (10 ^ Int.toNat 12),.int (10 ^ Int.toNat 12),.int 100,.int 9,.int 9,.int 9]) nl;have el:upd Hc l (.lst [.int (10 ^ Int.toNat 12),.int (10 ^ Int.toNat 12),.int 100,.int 9,.int 9,.int 9]) l=some (.lst [.int (10 ^ Int.toNat 12),.int (10 ^ Int.toNat 12),.int 100,.int 9,.int 9,.int 9]):=av;refine ⟨_,rfl,_,_,rfl,_,_,rfl,rfl,l,_,_,_,rfl,rfl,.of el,Eg,?_⟩;have p2:=rz.mono t1;have rk:=sc.trans (aK.of t1);exact ⟨P0,a,td,ns,q,(F:Int),F,rfl,p2,ai.seq rk hS,ht.mono rk,hq,by lia,Int.le_refl _,by lia,pJ,fun v x m H' s' p' hv=>kc v H' ((aK.of t1).trans s') p' ⟨(x,m),hv⟩⟩
 intro D0 ys H1 Wm FE p1 eV hP eD;obtain ⟨ps,iO,s_⟩:=Dv (lB Wm eD) hP;have lp:ps.length=n:=by lia
 have x1:1000≤F ^ n+1000:=Nat.le_add_left ..;obtain ⟨D,f,R⟩:=Eh (X:=F ^ n+1000) hq iO lp (by lia) n1 (fun _=>oy ..) x1
 have X8:q=0→F ^ n+1000≤W1:=fun z=>ae (fR _ (by decide)) (b1 z).1
 have iL:aD B2 (er P0 H1) q D0 ps:=iO.weak bF;have MF:iG P0 H1 q n W1 D0:=⟨ps,iL,Aa hq s1 lp iO.dH fun z=>⟨D,f,R.weak (X8 z) (X8 z) (aN _)⟩⟩;dsimp only [bH]
 try simp only [dZ,d0]
 have fh:=ai.seq FE hS;have iI:=ht.mono FE;clear hP eV;refine ⟨_,rfl,P0,a,ns,7,rfl,p1,fh,by decide,aP.of_lt (by decide) (by decide),fun way H2 Wn Wo FF p2=>?_⟩
 dsimp only [bH];refine ⟨_,rfl,_,rfl,P0,a,ns,(n:Int),rfl,p2,ai.seq FF fh,by lia,aP.of_lt (by lia) (by lia),fun MG H3 Wq Wr MH p3=>?_⟩
 refine ⟨_,_,rfl,rfl,?_⟩;obtain ⟨m,em,m1,mn⟩:∃m:Nat,(1:Int)+MG=(m:Int)∧1≤m∧m≤n:=⟨(1+MG).toNat,by lia,by lia,by lia⟩
 dsimp only [bH];rw [em];have gh:=FF.trans MH;have Ws:=MF.mono gh;have oo:aD B2 (er P0 H3) q D0 ps:=aD.mono iL gh;have gi:=iI.mono gh;have eQ:=ai.seq gh fh;have cp:=iO.dH;clear fh iI MF iO iL Wn Wo Wq Wr FF MH p1 p2 eD Eg;have Fw:F ^ n+1000≤B2:=ae xo (by decide +kernel)
 have prod:∀(g:Nat→Int) (M:Nat) (rs:aJ) (b:Addr) (Hx:Hp) (QQ:VK),aK P0 H3 Hx→cR Hx P0 a→aD B2 Hx q b rs→rs.length≤n+1→(∀i,aS q (rs.getD i o1) (g i,1))→(∀j,(g j).natAbs≤2)→(∀k,(cv f g k).natAbs≤M)→(q=0→2*M≤W1)→M≤10 ^ 280→(∀(r:Addr) (H':Hp),aK P0 H3 H'→cR H' P0 a→iG P0 H' q n W1 r→QQ (.ref r) H')→Fe [.ref td,.ref D0,.ref b] Hx (fun v H'=>Ee [.ref td,.int (n:Int),v] H' QQ E0) E0:=by
  intro g M rs b Hx QQ sx px hb lr wg bg bM bW Wt kk;have fg:∀i j,(f i*g j).natAbs≤10 ^ 270:=fun i j=>by rw [a7];exact ae (bE (ae (R.bf i) xo) (bg j)) (by decide +kernel)
  have ok:=R.ok;have bD:D.natAbs≤B2:=ae R.bD Fw;refine ⟨td,D0,b,q,ps,rs,D,f,g,rfl,(gi.mono sx).mono dS,hq,(aD.mono oo sx).mono dS,hb,by lia,by lia,ok,bD,fg,fun i j _ _=>by have:=Jy (R.w i) (wg j);rwa [fO] at this,fun c H4 s4 nc hC=>?_⟩
  have cP:=DM (n:=ps.length) (m:=rs.length) (N:=ps.length+rs.length-1) (f:=f) (g:=g) hq ok;have lP:(cY q ps.length rs.length f g D (ps.length+rs.length-1)).length=ps.length+rs.length-1:=by simp [cY]
  have cl:=i9 (cY q ps.length rs.length f g D (ps.length+rs.length-1));refine ⟨td,c,q,D,n,_,cv f g,rfl,((gi.mono sx).mono (aK.of s4)).mono dS,hq,hC,n1,by lia,by lia,ok,bD,fun i=>?_,fun i=>ae (bM i) Wt,fun c2 H5 s5 Bk BJ=>?_⟩
  ·rw [DL hq cP]
   refine (DN ok i).trans (Kk (Kj (fun i hi=>R.out i (by lia)) (fun j hj=>?_) i)) ok
   have w:=wg j;rw [dr hj] at w;exact Ei w
  ·have iN:=s4.trans s5
   have p5:=(px.mono s4).mono s5;refine kk c2 H5 (sx.trans (aK.of iN)) p5 ⟨_,BJ.er p5 ((px.mono s4).ne Bk),Aa hq s1 (tj ..) BJ.dH fun z=>⟨D,_,(Ef ok bM R.bD).weak (bW z) (X8 z) (aN _)⟩⟩
 refine iC (w6 fun Ra ra=>?_);have MI:∀(r:Addr) (Hx:Hp),aK P0 H3 Hx→cR Hx P0 a→iG P0 Hx q n W1 r→(way=3→r=D0)→Ra [some (.ref P0),some (.ref td),some (.int (n:Int)),some (.ref r),some (.int way),some (.int (m:Int))] Hx:=by
  intro r Hx sx px hx w3;apply ra;dsimp only;refine iC (w6 fun Rb rb=>?_);have MJ:∀(r:Addr) (Hx:Hp),aK P0 H3 Hx→cR Hx P0 a→iG P0 Hx q n W1 r→Rb [some (.ref P0),some (.ref td),some (.int (n:Int)),some (.ref r),some (.int way),some (.int (m:Int))] Hx:=by
   intro r Hx sx px hx;apply rb;dsimp only;refine iC (w6 fun Rc rc=>?_);have MK:∀(r:Addr) (Hx:Hp),aK P0 H3 Hx→cR Hx P0 a→iG P0 Hx q n W1 r→Rc [some (.ref P0),some (.ref td),some (.int (n:Int)),some (.ref r),some (.int way),some (.int (m:Int))] Hx:=by
    intro r Hx sx px hx;apply rc;dsimp only;refine iC (w6 fun Rd rd=>?_);have ML:∀(r:Addr) (Hx:Hp),aK P0 H3 Hx→cR Hx P0 a→iG P0 Hx q n W1 r→Rd [some (.ref P0),some (.ref td),some (.int (n:Int)),some (.ref r),some (.int way),some (.int (m:Int))] Hx:=by intro r Hx sx px hx;apply rd;dsimp only;obtain ⟨xs,h1,h2⟩:=hx;exact ⟨_,rfl,k r xs Hx (FE.trans (gh.trans sx)) px h1 h2⟩
    refine ⟨_,rfl,rfl,_,rfl,bS (fun _=>?_) (fun _=>?_)⟩
    ·refine dq (zD (P:=P0) (a:=a) (n:=n) (fV n8 (by decide)) (fun R h=>⟨_,rfl,(n:Int),rfl,by lia,by lia,by rw [dI];exact h Hx (aK.refl _) px⟩) (fun D _ y Hx=>∃xm:Int×Int,aZ F (er P0 Hx) q y xm.1 xm.2) (fun _ _ _ _ _ _ ⟨xm,h1⟩ e _ f=>⟨xm,h1.zy e f⟩) (fun D i hi Hc R sc rz _ nD kc=>?_) fun D5 ys Hy BK sy py eV hP x6=>ML D5 Hy (sx.trans sy) py (iG.drawn hq sz BK x6 eV hP))
     refine ⟨_,rfl,_,rfl,P0,a,ns,3,rfl,rz,ai.seq (sx.trans sc) eQ,by decide,aP.of_lt (by decide) (by decide),fun v H' v0 v1 s' p'=>?_⟩
     exact ⟨_,_,rfl,rfl,td,q,v-1,rfl,(gi.mono ((sx.trans sc).trans s')).mono dS,hq,by lia,by lia,fun u x8 fC hu=>kc u x8 (s'.trans (aK.of fC)) (p'.mono fC) ⟨_,(Kl (F:=F) hu (by lia) (by lia)).er (H':=x8) (p'.mono fC)⟩⟩
    ·exact ML r Hx sx px hx
   refine ⟨_,rfl,rfl,_,rfl,bS (fun _=>?_) (fun _=>?_)⟩
   ·refine dq (zD (P:=P0) (a:=a) (n:=n) (fV n8 (by decide)) (fun R h=>⟨_,rfl,(n:Int),rfl,by lia,by lia,by rw [dI];exact h Hx (aK.refl _) px⟩) (fun D _ y Hx=>∃xm:Int×Int,aZ F (er P0 Hx) q y xm.1 xm.2) (fun _ _ _ _ _ _ ⟨xm,h1⟩ e _ f=>⟨xm,h1.zy e f⟩) (fun D i hi Hc R sc rz _ nD kc=>?_) fun D5 ys Hy BK sy py eV hP x6=>MK D5 Hy (sx.trans sy) py (iG.drawn hq sz BK x6 eV hP))
    refine ⟨_,rfl,_,rfl,_,rfl,_,_,rfl,rfl,rfl,.inr ⟨_,rfl,?_⟩⟩;refine ⟨_,rfl,P0,a,ns,9,rfl,rz,ai.seq (sx.trans sc) eQ,by decide,aP.of_lt (by decide) (by decide),fun v H' v0 v1 s' p'=>?_⟩
    have hb:∃b:Int,(if decide (V.int (0+(i:Int))=V.int ((m:Int)-1))=true then (1:Int) else 0)=b∧0≤b∧b≤1:=⟨_,rfl,by split <;> lia,by split <;> lia⟩
    obtain ⟨b,eb,b0,b1'⟩:=hb;dsimp only;rw [eb];have hx:∃x:Int,b*(1+v)=x∧0≤x∧x≤9:=by
     rcases (show b=0∨b=1 by lia) with rfl | rfl
     ·exact ⟨_,rfl,by lia,by lia⟩
     ·exact ⟨_,rfl,by lia,by lia⟩
    obtain ⟨x,ex,x0,x9⟩:=hx;refine ⟨_,_,rfl,rfl,_,_,rfl,rfl,.inl ⟨by lia,by lia⟩,?_⟩
    show Jd (F+1000) [.ref td,.int (b*(1+v))] H' R E0;rw [ex];exact ⟨td,q,x,rfl,(gi.mono ((sx.trans sc).trans s')).mono dS,hq,by lia,by lia,fun u x8 fC hu=>kc u x8 (s'.trans (aK.of fC)) (p'.mono fC) ⟨_,(Kl (F:=F) hu (by lia) (by lia)).er (H':=x8) (p'.mono fC)⟩⟩
   ·exact MK r Hx sx px hx
  refine ⟨_,rfl,rfl,_,rfl,bS (fun h3=>?_) (fun _=>?_)⟩
  ·have h3:=w3 (V.int.inj (di h3))
   subst h3;refine dq ⟨_,rfl,_,rfl,_,rfl,_,rfl,?_⟩;refine pk (xs:=(List.range m).map fun i:Nat=>V.int (0+(i:Int))) (fun R h=>⟨_,rfl,(m:Int),rfl,by lia,by lia,h _ _ (ai.refl _) (by rw [dI];exact zh)⟩) (by rw [aT,gw];exact jA (by lia)) (fun _ j y Hx=>aZ (F+1000) Hx q y (cf q 1).1 (cf q 1).2) (fun _ _ _ _ _ _ h1 e f=>h1.cQ e f) ?_ ?_
   ·intro Dx i v hi Hc R sc _ kc
    exact ⟨_,rfl,td,q,1,rfl,((gi.mono sx).mono dS).mono sc,hq,by lia,by lia,fun u H' s' hu=>kc u H' s' hu⟩
   intro D5 ys Hy BK sy eV hP x6;rw [aT,gw] at eV;have hO:aD B2 Hy q D5 (List.replicate m (cf q 1)):=⟨ys,x6,by rw [gR,eV],fun i v p e1 e2=>by
    rw [kP] at e2
    split at e2
    ·cases e2
     exact (hP i v e1).weak (ae (Nat.add_le_add_right pJ 1000) (by decide +kernel))
    ·cases e2⟩
   refine prod (fun j=>if j<m then 1 else 0) (n*(F ^ n+1000)) (List.replicate m (cf q 1)) D5 Hy (fun v H'=>Rb [some (.ref P0),some (.ref td),some (.int (n:Int)),some v,some (.int way),some (.int (m:Int))] H') (sx.trans (aK.of sy)) (px.mono sy) hO (by rw [gR];lia) (fun i=>?_) (fun j=>by split <;> decide) (fun k=>?_) (fun z=>(b1 z).2) (ae (bE n8 xo) (by decide +kernel)) fun r H' sr pr hr=>MJ r H' sr pr hr
   ·by_cases hi:i<m
    ·rw [ar hi,getD_at (by rw [gR];exact hi),List.getElem_replicate]
     exact (nJ q 1 hq).2
    ·rw [ao hi,dr (by rw [gR];lia)]
     exact zI
   ·refine z_ R.out (fun i j=>?_) k
    split
    ·rw [fO];exact R.bf i
    ·rw [cF];exact b9 _
  ·exact MJ r Hx sx px hx
 have turn:way≠3→mF (oZ Ee [] E0 (cW (gA 1) (cW (gA 2) (cW (oZ Fe [] E0 (cW (gA 1) (cW (gA 3) (cW (oZ Kh [] E0 (cW (gA 1) (cW (gA 5) ft))) ft)))) ft)))) (bH 3) {nx:=Ra,rt:=Q} [some (.ref P0),some (.ref td),some (.int (n:Int)),some (.ref D0),some (.int way),some (.int (m:Int))] H3:=by
  intro w3;refine dq ⟨_,rfl,_,rfl,_,rfl,_,rfl,_,rfl,_,rfl,td,q,m,rfl,gi.mono dS,hq,m1,by lia,fun c H4 s4 nc hC=>?_⟩
  refine prod (tp m) (2*(F ^ n+1000)) (de q m) c H4 (fun v H'=>Ra [some (.ref P0),some (.ref td),some (.int (n:Int)),some v,some (.int way),some (.int (m:Int))] H') (aK.of s4) (p3.mono s4) (hC.weak (by decide +kernel)) (by rw [nK m1];lia) (xl hq m1) (zZ m) (fun k=>?_) (fun z=>by have:=(b1 z).1;lia) (ae (dY 2 xo) (by decide +kernel)) fun r H' sr pr hr=>MI r H' sr pr hr fun h=>absurd h w3
  have e1:=R.bf k;have e2:=R.bf (k-m);rw [xg]
  split <;> lia
 refine ⟨_,rfl,rfl,_,rfl,bS (fun h1=>dG ?_) (fun _=>⟨_,rfl,rfl,_,rfl,bS (fun h2=>?_) (fun _=>?_)⟩)⟩;·exact turn (by have:=V.int.inj (di h1);lia)
 ·exact turn (by have:=V.int.inj (di h2);lia)
 ·exact MI D0 H3 (aK.refl _) p3 Ws fun _=>rfl
theorem Wu:bo ["told","world","row","some","turns","handed","unit","turn","back","loose"] ["told","world","row","some","turns"] (aL AZ):=bI
theorem Wv(T:Txt K mg t):aW P w K mg base bQ 12 t.qD t.uw ["told","world","row","some","turns"] (Kn t.a9):=by
 have S:=Wu;have gM:=vg (P:=P) (w:=w) (base:=base) (B:=B2) T;refine T.u7.cq S (fun _ _ _ s H _ _ _ hr h=>?_);obtain ⟨td,z,a,b,q,SS,m,n,W,X,ps,ss,s,rfl,ht,hz,hq,hA,hB,cE,bZ,ls,RS,x1,bX,m5,k⟩:=h;have rh:=hr.units;have hu:=hr.wc
 refine ⟨_,(ak (putL 5 S.nd (o5 sE rfl T.nU boot_list (aa (pv 2) af)))
  (ak (putL 6 S.nd (aC (BH T) hr T.xw T.lO.kp T.xv ay (aa (pv 0) (aa (bp cn rfl T.ck cm (aa (pv 2) af)) (aa (cw (aa (aC gM hr T.jQ T.gK.kp T.jP ay (aa (pv 0) (aa ah af))) af)) af)))))
  (ak (iY eo rfl (gS rfl T.gg (aa (pv 4) af)) (e_ (i:=7) S.nd rfl (Or.inl rfl))
   (ak (putL 8 S.nd (aC (Mx T) hr T.xu T.lN.kp T.xt i4 (aa (pv 1) (aa (pv 5) af))))
  (ak (putL 9 S.nd (aC (V8 T) hr T.Kz T.uF.kp T.Ky i4 (aa (pv 1) (aa (pv 5) (aa (o5 sE rfl T.nU boot_list (aa (pv 3) af)) af)))))
  (ak (bG (PW.pt (pw_or (bw (zo (n:=1) rh) (pv 5) (pv 2)) (pw_or1 (bw oS (mK dO (aA a8 (pv 9) ah) eF) (mK r9 (pv 8) jq))))) (aw (aR iX)) b6)
  (aw (bG (bw G9 (pv 8) jq) (ak (bG (PW.pt (pw_or (rQ (mC (aC (UO T) hr T.K5 T.uW.kp T.K4 ay (aa (pv 0) (aa (pv 8) af))))) (pw_or (bw oS (bp cn rfl T.ck cm (aa (pv 8) af)) (bp cn rfl T.ck cm (aa (pv 2) af))) (pw_or1 (bw (zo (n:=1) rh) (aC (BI T) hr T.u6 T.kD.kp T.u5 ay (aa (pv 0) (aa (pv 2) (aa (pv 8) af)))) (pv 6)))))) (aw (aR iX)) b6)
  (ak (bG (bw (zo (n:=1) rh) (aC (BI T) hr T.u6 T.kD.kp T.u5 ay (aa (pv 0) (aa (pv 8) (aa (aC (BI T) hr T.u6 T.kD.kp T.u5 ay (aa (pv 0) (aa (pv 2) (aa (pv 3) af)))) af)))) (pv 3)) (aw (aR iX)) b6)
  (aw (GP (O6 PySem.F.plainAttrs_list PySem.F.slot_list_append PySem.F.type_list_append yR (pv 8) (aa jq af)))))) b6))))))
  (aw (aR iX))))),?_⟩
 obtain ⟨D,f,R⟩:=cE.row;have n1:=cE.sz.t.n1;have dt:=cE.sz.t.dt;have lp:=cE.len;have cp:=hA.dH;have cs:=hB.dH;have iJ:1000≤B2:=by decide +kernel
 have LV:B2=10 ^ 290:=rfl;obtain ⟨xs,ea,lv,fv⟩:=id hA;refine ⟨_,rfl,a,xs,rfl,.inl (.of ea),fun h0 Ww=>?_⟩;have s0:ai H (upd H h0 (.lst xs)):=aB Ww;have hD:aD B2 (upd H h0 (.lst xs)) q h0 ps:=⟨xs,av,lv,fun i v p h1 h2=>(fv i v p h1 h2).mono s0⟩;generalize upd H h0 (.lst xs)=H0 at s0 hD ⊢;dsimp only [bH];refine ⟨_,rfl,_,rfl,a,xs,rfl,.inl (.of (s0 _ _ ea)),_,rfl,td,q,1,rfl,ht.mono s0,hq,by decide +kernel,iJ,fun v0 H1 s1 MM=>?_⟩
 refine ⟨by show 1≤sizeLine;decide,fun l nl=>?_⟩
 have sl:ai H1 (upd H1 l (.lst [v0])):=aB nl;have hL:aD B2 (upd H1 l (.lst [v0])) q l [cf q 1]:=⟨[v0],av,rfl,fun i v p h1 h2=>by
  match i,h1,h2 with
  | 0,h1,h2=>cases h1;cases h2;exact MM.mono sl
  | i+1,h1,h2=>simp at h1⟩
 generalize upd H1 l (.lst [v0])=H2 at sl hL ⊢;have bL:=s1.trans sl;have MN:=s0.trans bL;refine ⟨td,l,q,1,n,[cf q 1],dl 1,by rw [lv,lp];rfl,ht.mono MN,hq,hL,n1,dt,by show 1≤2*n;lia,aX.one,by decide +kernel,fun i=>?_,fun i=>?_,fun un H3 s3 nun hU=>?_⟩
 ·match i with
  | 0=>exact (nJ q 1 hq).2
  | i+1=>exact zI
 ·unfold dl
  split
  ·exact ae (show (1:Int).natAbs≤1 by decide) (jZ (by decide))
  ·exact b9 _
 have MO:=MN.trans s3;have Wx:=hD.mono (bL.trans s3);clear hL MM s1 sl bL;dsimp only [bH];refine ⟨_,rfl,(m:Int),rfl,by lia,by lia,?_⟩
 rw [dI];refine rZ (fun i σ Hc=>∃(v7 v8 v9:Option V),σ=[some (.ref td),some (.ref z),some (.ref a),some (.ref b),some (.int (m:Int)),some (.ref h0),some (.ref un),v7,v8,v9]∧ai H3 Hc) ⟨_,_,_,rfl,ai.refl _⟩ ?_ ?_
 ·rintro i σ Hc hi ⟨v7,v8,v9,rfl,sc⟩
  have sH:=MO.trans sc;have x_:=Wx.mono sc;have MP:=hA.mono sH;have Wy:=hB.mono sH;obtain ⟨ys,eb,lw,fw⟩:=id Wy;dsimp only [bH];have hl:∀{Hx:Hp} {l:Addr},ai Hc Hx→Hx l=none→aD (10 ^ 290) (upd Hx l (.lst ys)) q l ss:=fun{Hx l} sx nl=>⟨ys,av,lw,fun i v p h1 h2=>((fw i v p h1 h2).mono sx).mono (aB nl)⟩;refine ⟨_,rfl,_,rfl,z,h0,q,n,W,ps,rfl,hz.mono sH,hq,x_,cE,fun H4 s4 neg=>?_,fun c rs F M H4 s4 nc hC BD=>?_⟩
  ·refine ⟨_,rfl,_,rfl,_,rfl,b,ys,rfl,.inl (.of (s4 _ _ eb)),fun l nl=>⟨z,h0,l,q,SS,n,W,X,ps,ss,s,rfl,(hz.mono sH).mono (s4.trans (aB nl)),hq,x_.mono (s4.trans (aB nl)),hl s4 nl,cE,ls,RS,x1,bX,fun p tg us H5 s5 ep FG=>?_⟩⟩
   have iN:=(s4.trans (aB nl)).trans s5;rcases FG with ⟨rfl,_⟩ | ⟨_,h⟩
   ·dsimp only [bH]
    refine ⟨_,rfl,_,rfl,wR hq (x_.mono iN) (MP.mono iN) ⟨false,rfl,cO ?_⟩⟩;refine ⟨_,rfl,p,_,_,V.str (Str.ofString "loose"),rfl,rfl,.of ep,(by show dA _ ((0:Nat):Int)=_;exact i3 rfl),rfl,_,rfl,rfl,rfl,false,by simp,cO ?_⟩
    dsimp only [iq];exact ⟨_,rfl,rfl,false,by simp,cO ⟨_,_,_,rfl,sc.trans iN⟩⟩
   ·exact absurd (h D f R.cj) (neg D f R.cj)
  ·refine ⟨_,rfl,_,rfl,_,rfl,b,ys,rfl,.inl (.of (s4 _ _ eb)),fun l nl=>⟨z,h0,l,q,SS,n,W,X,ps,ss,s,rfl,(hz.mono sH).mono (s4.trans (aB nl)),hq,x_.mono (s4.trans (aB nl)),hl s4 nl,cE,ls,RS,x1,bX,fun p tg us H5 s5 ep FG=>?_⟩⟩
   have iN:=(s4.trans (aB nl)).trans s5;rcases FG with ⟨_,h⟩ | ⟨rfl,_⟩;·exact absurd (BD.inv D f R.cj) (h D f R.cj)
   ·dsimp only [bH]
    refine ⟨_,rfl,_,rfl,wR hq (x_.mono iN) (MP.mono iN) ⟨false,rfl,cO ?_⟩⟩;have e1:decide (V.str (Str.ofString "one")=V.str (Str.ofString "loose"))=false:=by decide +kernel
    have e2:decide (V.ref c=V.aV)=false:=fM fun h=>nomatch h;refine ⟨_,rfl,p,_,_,V.str (Str.ofString "one"),rfl,rfl,.of ep,(by show dA _ ((0:Nat):Int)=_;exact i3 rfl),rfl,_,rfl,rfl,rfl,false,by rw [e1,e2];simp,cO ?_⟩
    dsimp only [iq];refine ⟨_,rfl,rfl,true,by rw [e2];rfl,dG ?_⟩
    have FC:=hC.mono ((aB nl).trans s5);have MQ:=sH.trans iN;have RB:RowW q rs M F (Zt q n W 1*W) (Zt q n W 1*W) n:=⟨BD.cj.ok,BD.dvd,BD.cj.w,BD.bF,BD.bM,BD.cj.low⟩;have lr:=BD.len;have z1:=jK cE.sz.t 1;have hW:=cE.sz.t.w;have bW:W≤10 ^ 220:=ae (ae (fR _ (by lia)) (fR _ (by lia))) bZ
    have MR:W*(Zt q n W 1*W)≤10 ^ 260:=ae bZ (by decide +kernel)
    have MS:W*X≤10 ^ 260:=ae (bE bW bX) (by decide +kernel)
    have bT:(Zt q n W 1*W)*(2*(n*(W*X)))≤10 ^ 260:=by
     rw [show (Zt q n W 1*W)*(2*(n*(W*X)))=2*n*(W*(Zt q n W 1*W)*X) by ac_rfl]
     exact ae (bE (show 2*n≤80 by lia) (bE bZ bX)) (by decide +kernel)
    have bU:(Zt q n W 1*W)*(W*X)≤10 ^ 260:=by
     rw [show (Zt q n W 1*W)*(W*X)=W*(Zt q n W 1*W)*X by ac_rfl]
     exact ae (bE bZ bX) (by decide +kernel)
    refine ⟨_,rfl,_,rfl,td,c,q,rs,B2,rfl,ht.mono MQ,hq,FC,by lia,by decide +kernel,fun H6 s6=>⟨true,rfl,cO ?_⟩⟩
    have BL:=FC.mono s6;have BM:=MQ.trans s6;obtain ⟨ws,ew,hV,_⟩:=id BL;obtain ⟨MT,Wz,lv',_⟩:=id (hA.mono BM);refine ⟨_,rfl,c,ws,rfl,.inl (.of ew),_,rfl,a,MT,rfl,.inl (.of Wz),rfl,false,?_,cO ?_⟩
    ·rw [show (ws.length:Int)=(MT.length:Int) by lia]
     simp
    refine ⟨_,rfl,_,rfl,_,rfl,td,a,c,q,D,M,n,ps,rs,f,F,W,Zt q n W 1*W,W,Zt q n W 1*W,rfl,ht.mono BM,hq,hA.mono BM,BL,n1,dt,lp,by lia,R,RB,MR,MR,fun c7 H7 s7 nc7 h7=>?_⟩
    rw [BD.unit hq n1 R.cj] at h7;have MU:=sc.trans (iN.trans (s6.trans s7));have BN:=BM.trans s7;refine ⟨_,rfl,wR hq h7 (hU.mono MU) ⟨false,rfl,cO ?_⟩⟩;dsimp only [iq];refine ⟨_,rfl,_,rfl,_,rfl,_,rfl,_,rfl,td,a,b,q,D,SS,n,ps,ss,f,s,W,X,W,X,rfl,ht.mono BN,hq,hA.mono BN,hB.mono BN,n1,dt,lp,by lia,R,RS,MS,MS,fun c8 H8 s8 nc8 h8=>?_⟩
    have MV:=BN.trans s8;have RG:=Ef (q:=q) (n:=n) (R.ok.mul RS.ok) (z_ R.out (M:=W*X) (fun i j=>by rw [a7];exact bE (R.bf i) (RS.bf j))) (show (D*SS).natAbs≤W*X by rw [a7];exact bE R.bD RS.bD)
    refine ⟨td,c,c8,q,M,D*SS,n,rs,_,F,wr n (cv f s),Zt q n W 1*W,2*(n*(W*X)),Zt q n W 1*W,W*X,rfl,ht.mono MV,hq,(BL.mono s7).mono s8,h8,n1,dt,BD.len,by rw [tj];exact aN _,RB,RG,bT,bU,fun c9 H9 s9 nc9 h9=>?_⟩
    rw [BD.D8 hq n1 R.cj RS.cj ls cs] at h9;have WA:=MV.trans s9;refine ⟨_,rfl,wR hq h9 (hB.mono WA) ⟨false,rfl,cO ?_⟩⟩;dsimp only [iq];obtain ⟨w9,MW,lw9,_⟩:=id (((BL.mono s7).mono s8).mono s9);refine ⟨_,rfl,.inl ⟨rfl,_,.of MW⟩,c,w9,_,rfl,rfl,MW,jA (by lia),?_⟩
    exact ⟨_,_,_,rfl,kn (MU.trans (s8.trans s9)) (none_of sc nc)⟩
 ·rintro σ Hc ⟨v7,v8,v9,rfl,sc⟩
  exact k _ (MO.trans sc)
theorem WB(q:Int):(jH q).prime=if q=0 then .aV else .int q:=by
 unfold jH
 split <;> rfl
theorem WC:bo ["script","pen","k","told","world","many","one","other","some","both","row","turns","backs"] ["script"] (aL A0):=bI
theorem WD(T:Txt K mg t):aW P w K mg base bQ 13 t.nO t.qE ["script"] (za K):=by
 have S:=WC;have WE:=UQ (P:=P) (w:=w) (base:=base) T;have hJ:=rg (P:=P) (w:=w) (base:=base) T;have WG:=LP (P:=P) (w:=w) (base:=base) T;have MX:=Wl (P:=P) (w:=w) (base:=base) T;have MY:=BI (P:=P) (w:=w) (base:=base) T;have WH:=Wv (P:=P) (w:=w) (base:=base) T;have FH:=Mx (P:=P) (w:=w) (base:=base) T;have WI:=Tv (P:=P) (w:=w) (base:=base) T;refine T.u9.cq S (fun _ _ _ s H _ Q _ hr h=>?_);obtain ⟨a,ns,rfl,hS,hlen,kQ⟩:=h;have rh:=hr.units
 refine ⟨_,(@ak _ _ _ _ _ (@i6 _ _ 1 _ _ _ _ (by rfl) (by first | exact .inl rfl | exact .inr rfl | assumption) S.nd rfl (Or.inr rfl) (@cw _ _ _ _ (@aO _ _ _ _ _ (by rfl) (pv 0) (@aO _ _ _ _ _ (by rfl) ah (@aO _ _ _ _ _ (by rfl) ah af)))))
   (@ak _ _ _ _ _ (iY eo rfl (gS rfl T.gg (@aO _ _ _ _ _ (by rfl) ah af)) (e_ (i:=2) S.nd rfl (Or.inl rfl))
    (@ak _ _ _ _ _ (@bG _ _ _ _ _ _ _ _ (PW.pt (pw_and (@kf _ _ _ _ _ _ _ _ jv (pv 2) ah (jw _)) (pw_and1 (@kf _ _ _ _ _ _ _ _ CB (@jz _ _ _ _ _ _ _ bP (pv 1) ah (fun _ _=>rfl)) (bp cn rfl T.ck cm (@aO _ _ _ _ _ (by rfl) (pv 0) af)) (jw _))))) (@aw _ _ _ NJ) b6)
   (@ak _ _ _ _ _ (@i6 _ _ 3 _ _ _ _ (by rfl) (by first | exact .inl rfl | exact .inr rfl | assumption) S.nd rfl (Or.inr rfl) (f9 WE (hr.mono (by decide)) rfl T.K7 T.uX.kp T.K6 .nil ay (@aO _ _ _ _ _ (by rfl) (pv 1) af)))
   (@ak _ _ _ _ _ (@i6 _ _ 4 _ _ _ _ (by rfl) (by first | exact .inl rfl | exact .inr rfl | assumption) S.nd rfl (Or.inl rfl) (OM T.A_ WI (hr.mono (by decide)) rfl T.Lh T.Le .nil i4 (@aO _ _ _ _ _ (by rfl) (pv 3) af)))
   (@ak _ _ _ _ _ (@i6 _ _ 5 _ _ _ _ (by rfl) (by first | exact .inl rfl | exact .inr rfl | assumption) S.nd rfl (Or.inl rfl) (@au _ _ _ _ _ _ _ _ d5 ah (f9 hJ (hr.mono (by decide)) rfl T.fU T.d_.kp T.fT .nil ay (@aO _ _ _ _ _ (by rfl) (pv 1) (@aO _ _ _ _ _ (by rfl) ah af)))))
   (@ak _ _ _ _ _ (@bG _ _ _ _ _ _ _ _ (@kf _ _ _ _ _ _ _ _ dO (@jz _ _ _ _ _ _ _ a8 (pv 3) ah (fun _ _=>rfl)) eF (jw _)) (@aw _ _ _ (@i6 _ _ 5 _ _ _ _ (by rfl) (by first | exact .inl rfl | exact .inr rfl | assumption) S.nd rfl (Or.inl rfl) (@au _ _ _ _ _ _ _ _ d5 ah (f9 hJ (hr.mono (by decide)) rfl T.fU T.d_.kp T.fT .nil ay (@aO _ _ _ _ _ (by rfl) (pv 1) (@aO _ _ _ _ _ (by rfl) ah af)))))) b6)
   (@ak _ _ _ _ _ (@i6 _ _ 6 _ _ _ _ (by rfl) (by first | exact .inl rfl | exact .inr rfl | assumption) S.nd rfl (Or.inl rfl) (f9 MX (hr.mono (by decide)) rfl T.EJ T.qX.kp T.EI .nil ay (@aO _ _ _ _ _ (by rfl) (pv 1) (@aO _ _ _ _ _ (by rfl) (pv 3) (@aO _ _ _ _ _ (by rfl) (pv 5) af)))))
   (@ak _ _ _ _ _ (@i6 _ _ 7 _ _ _ _ (by rfl) (by first | exact .inl rfl | exact .inr rfl | assumption) S.nd rfl (Or.inl rfl) (f9 MX (hr.mono (by decide)) rfl T.EJ T.qX.kp T.EI .nil ay (@aO _ _ _ _ _ (by rfl) (pv 1) (@aO _ _ _ _ _ (by rfl) (pv 3) (@aO _ _ _ _ _ (by rfl) (pv 5) af)))))
   (@ak _ _ _ _ _ (sQ (i0:=8) (N:=["turn","pen","told"]) (ρ:=(fun σ=>[σ[1]?.join,σ[3]?.join])) ⟨rfl,rfl,by decide +kernel,by decide +kernel,(yp.mpr ⟨rfl,(yp.mpr ⟨rfl,(List.forall_mem_nil _)⟩)⟩),C2 (by rfl),rfl,by decide +kernel,rfl,(fun σ j v h=>match j,h with | 0,h=>⟨1,_,rfl,rfl,join_some h,Or.inr (Or.inl rfl),.inl rfl,.inl rfl⟩ | 1,h=>⟨3,_,rfl,rfl,join_some h,Or.inr (Or.inl rfl),.inl rfl,.inl rfl⟩ | j+2,h=>by cases h),(fun _ _=>rfl)⟩ rfl S.nd rfl (Or.inl rfl) (gS rfl T.gg (@aO _ _ _ _ _ (by rfl) (pv 5) af)) (fun _ _ _=>.nil) (fun _ _ _=>(f9 WG (hr.mono (by decide)) rfl T.EH T.qW.kp T.EG .nil ay (@aO _ _ _ _ _ (by rfl) (pv 1) (@aO _ _ _ _ _ (by rfl) (pv 2) (@aO _ _ _ _ _ (by rfl) ah af))))))
   (@ak _ _ _ _ _ (@i6 _ _ 9 _ _ _ _ (by rfl) (by first | exact .inl rfl | exact .inr rfl | assumption) S.nd rfl (Or.inl rfl) (f9 MY (hr.mono (by decide)) rfl T.u6 T.kD.kp T.u5 .nil ay (@aO _ _ _ _ _ (by rfl) (pv 3) (@aO _ _ _ _ _ (by rfl) (pv 6) (@aO _ _ _ _ _ (by rfl) (pv 7) af)))))
   (@ak _ _ _ _ _ (iY eo rfl (j9 (@cw _ _ _ _ (@aO _ _ _ _ _ (by rfl) (@fA _ _ _ _ _ (@aO _ _ _ _ _ (by rfl) (pv 6) (@aO _ _ _ _ _ (by rfl) ah af))) (@aO _ _ _ _ _ (by rfl) (@fA _ _ _ _ _ (@aO _ _ _ _ _ (by rfl) (pv 7) (@aO _ _ _ _ _ (by rfl) ah af))) (@aO _ _ _ _ _ (by rfl) (@fA _ _ _ _ _ (@aO _ _ _ _ _ (by rfl) (pv 9) (@aO _ _ _ _ _ (by rfl) ah af))) af))))) (yI rfl (mE (e_ (i:=10) S.nd rfl (Or.inl rfl)) (mE (e_ (i:=11) S.nd rfl (Or.inl rfl)) yH)))
    (@aw _ _ _ (@bG _ _ _ _ _ _ _ _ (@rQ _ _ _ _ (mC (f9 WH (hr.mono (by decide)) rfl T.Lc T.u7.kp T.Lb .nil ay (@aO _ _ _ _ _ (by rfl) (pv 3) (@aO _ _ _ _ _ (by rfl) (pv 4) (@aO _ _ _ _ _ (by rfl) (pv 10) (@aO _ _ _ _ _ (by rfl) (pv 8) (@aO _ _ _ _ _ (by rfl) (pv 11) af)))))))) (@aw _ _ _ (@aR _ _ _ _ iX)) b6)))
   (@ak _ _ _ _ _ (@i6 _ _ 12 _ _ _ _ (by rfl) (by first | exact .inl rfl | exact .inr rfl | assumption) S.nd rfl (Or.inl rfl) (@cw _ _ _ _ (@aO _ _ _ _ _ (by rfl) (f9 FH (hr.mono (by decide)) rfl T.xu T.lN.kp T.xt .nil i4 (@aO _ _ _ _ _ (by rfl) (pv 4) (@aO _ _ _ _ _ (by rfl) (o5 sE rfl T.nU boot_list (@aO _ _ _ _ _ (by rfl) (pv 6) af)) af))) (@aO _ _ _ _ _ (by rfl) (f9 FH (hr.mono (by decide)) rfl T.xu T.lN.kp T.xt .nil i4 (@aO _ _ _ _ _ (by rfl) (pv 4) (@aO _ _ _ _ _ (by rfl) (o5 sE rfl T.nU boot_list (@aO _ _ _ _ _ (by rfl) (pv 7) af)) af))) (@aO _ _ _ _ _ (by rfl) (f9 FH (hr.mono (by decide)) rfl T.xu T.lN.kp T.xt .nil i4 (@aO _ _ _ _ _ (by rfl) (pv 4) (@aO _ _ _ _ _ (by rfl) (o5 sE rfl T.nU boot_list (@aO _ _ _ _ _ (by rfl) (pv 9) af)) af))) af)))))
   (@aw _ _ _ (@bG _ _ _ _ _ _ _ _ (PW.pt (@pw_or _ _ _ _ _ _ _ (@kf _ _ _ _ _ _ _ _ r9 (@jz _ _ _ _ _ _ _ bP (pv 12) ah (fun _ _=>rfl)) jq (jw _)) (@pw_or1 _ _ _ _ (@kf _ _ _ _ _ _ _ _ r9 (@jz _ _ _ _ _ _ _ bP (pv 12) ah (fun _ _=>rfl)) jq (jw _))))) (@aw _ _ _ (@bG _ _ _ _ _ _ _ _ (@kf _ _ _ _ _ _ _ _ G9 (@jz _ _ _ _ _ _ _ bP (pv 12) ah (fun _ _=>rfl)) jq (jw _)) (@aw _ _ _ (@aR _ _ _ _ iX)) b6)) (@aw _ _ _ (@bG _ _ _ _ _ _ _ _ (@kf _ _ _ _ _ _ _ _ (zo (n:=1) rh) (@jz _ _ _ _ _ _ _ bP (pv 12) ah (fun _ _=>rfl)) (f9 MY (hr.mono (by decide)) rfl T.u6 T.kD.kp T.u5 .nil ay (@aO _ _ _ _ _ (by rfl) (pv 3) (@aO _ _ _ _ _ (by rfl) (@jz _ _ _ _ _ _ _ bP (pv 12) ah (fun _ _=>rfl)) (@aO _ _ _ _ _ (by rfl) (@jz _ _ _ _ _ _ _ bP (pv 12) ah (fun _ _=>rfl)) af)))) (jw _)) (@aw _ _ _ (@aR _ _ _ _ iX)) b6))))))))))))))))
   (@aw _ _ _ (@aR _ _ _ _ iX)))),?_⟩
 refine ⟨_,rfl,by show 3≤sizeLine;decide,fun P0 nP=>?_⟩
 have p0:cR (upd H P0 (.lst [.ref a,.int 0,.int 0])) P0 a:=⟨0,0,av,by decide,by decide⟩
 have xR:a_ K (er P0 (upd H P0 (.lst [.ref a,.int 0,.int 0]))) a (ns.map V.int):=by rw [Ja];exact ai.seq (fun b o e=>lB (fq e nP) e) hS
 generalize upd H P0 (.lst [.ref a,.int 0,.int 0])=H0 at p0 xR ⊢;refine ⟨3,rfl,by decide,by decide,?_⟩
 refine rZ (fun i σ Hc=>∃(v2 v3 v4 v5 v6 v7 v8 v9 v10 v11 lY:Option V),σ=[some (.ref a),some (.ref P0),v2,v3,v4,v5,v6,v7,v8,v9,v10,v11,lY]∧aK P0 H0 Hc∧cR Hc P0 a) ⟨_,_,_,_,_,_,_,_,_,_,_,rfl,aK.refl _,p0⟩ ?_ ?_
 ·rintro i σ Hc hi ⟨v2,v3,v4,v5,v6,v7,v8,v9,v10,v11,lY,rfl,sT,pc⟩
  have fh:a_ K (er P0 Hc) a (ns.map V.int):=ai.seq sT xR;refine iC (RO (fun Q hQ=>?_) ?_ ?_)
  ·obtain ⟨x,y,eP,_⟩:=id pc
   exact ⟨_,rfl,_,_,rfl,rfl,_,rfl,bS (fun _=>⟨_,rfl,P0,_,_,_,rfl,rfl,.of eP,rfl,_,rfl,a,ns.map V.int,rfl,.inl (dS.seq fh),_,_,rfl,rfl,_,rfl,hQ _⟩) (fun _=>hQ _)⟩
  ·exact kQ _
  dsimp only [iq];refine ⟨_,rfl,P0,a,ns,rfl,pc,fh,fun td q H1 hq s1 p1 iI=>?_⟩;refine ⟨_,rfl,fun z dz nz MZ ne=>⟨z,dz,td,jH q,rfl,av,?_,fun _=>⟨rfl,?_⟩,fun hg=>absurd ((Q2 hq).symm.trans hg) (by decide)⟩⟩
  ·have e:=dS _ _ iI
   rw [b7 (fq e nz),b7 (fq e MZ)];exact e
  have sz:ai H1 (upd (upd (upd H1 dz (.own z)) z (.ins t.a9 dz [])) z (.ins t.a9 dz [("prime",(jH q).prime)])):=fun b o e=>by rw [b7 (fq e nz),b7 (fq e nz),b7 (fq e MZ)];exact e
  have BO:df t.a9 (upd (upd (upd H1 dz (.own z)) z (.ins t.a9 dz [])) z (.ins t.a9 dz [("prime",(jH q).prime)])) z q:=⟨dz,by rw [av,WB]⟩
  generalize (upd (upd (upd H1 dz (.own z)) z (.ins t.a9 dz [])) z (.ins t.a9 dz [("prime",(jH q).prime)]))=H2 at sz BO ⊢;have p2:=p1.mono sz;have WJ:z≠P0:=fun e=>by obtain ⟨x,y,eP,_⟩:=p2;obtain ⟨d',ez⟩:=BO;rw [e,eP] at ez;cases ez
  have WK:∀{Hx:Hp},aK P0 H2 Hx→df t.a9 Hx z q:=fun{Hx} s=>by obtain ⟨d',ez⟩:=BO;exact ⟨d',s.at WJ ez⟩
  have ht:dB (er P0 H2) td q:=iI.mono (wQ sz);have rj:a_ K (er P0 H2) a (ns.map V.int):=ai.seq (s1.trans (aK.of sz)) fh;have sT:aK P0 H0 H2:=sT.trans (s1.trans (aK.of sz));dsimp only [bH];simp only [dZ,d0];refine ⟨_,rfl,P0,a,ns,6,rfl,p2,rj,by decide,aP.of_lt (by decide) (by decide),fun m0 H3 m00 m01 s3 p3=>⟨_,_,rfl,rfl,?_⟩⟩
  dsimp only [bH];simp only [dZ,d0];have gi:=ht.mono s3;have eQ:a_ K (er P0 H3) a (ns.map V.int):=ai.seq s3 rj;have WL:=sT.trans s3;have WM:∀{Hx:Hp},aK P0 H3 Hx→df t.a9 Hx z q:=fun{Hx} s=>WK (s3.trans s);clear ht rj fh iI s1 BO;refine iC (w6 fun R hR=>?_);have rest:∀(n F W1 W2:Nat) (Hx:Hp),xn q n F W1 W2→aK P0 H3 Hx→cR Hx P0 a→R [some (.ref a),some (.ref P0),some (.int (0+(i:Int))),some (.ref td),some (.ref z),some (.int (n:Int)),v6,v7,v8,v9,v10,v11,lY] Hx:=by
   intro n F W1 W2 Hx sz sx px;apply hR;dsimp only;refine ⟨_,rfl,_,rfl,_,rfl,P0,a,td,ns,q,n,F,W1,W2,rfl,px,ai.seq sx eQ,gi.mono sx,hq,sz,fun r1 lJ H4 s4 p4 iO T1=>?_⟩;have FI:=sx.trans s4;dsimp only [bH];refine ⟨_,rfl,_,rfl,_,rfl,P0,a,td,ns,q,n,F,W1,W2,rfl,p4,ai.seq FI eQ,gi.mono FI,hq,sz,fun r2 lK H5 s5 p5 iL T2=>?_⟩;have FJ:=FI.trans s5;dsimp only [bH];simp only [dZ,d0];have n1:=sz.n1;have n8:=sz.n8;refine iC (dq (zD (P:=P0) (a:=a) (n:=n) (fV n8 (by decide)) (fun R h=>⟨_,rfl,(n:Int),rfl,by lia,by lia,by rw [dI];exact h H5 (aK.refl _) p5⟩) (fun D _ y Hx=>∃xm:Int×Int,aZ 100 (er P0 Hx) q y xm.1 xm.2) (fun _ _ _ _ _ _ ⟨xm,h1⟩ e _ f=>⟨xm,h1.zy e f⟩) ?_ ?_))
   ·intro D i hi Hc R sc rz _ nD kc
    exact ⟨_,rfl,_,rfl,P0,a,td,ns,q,100,100,rfl,rz,ai.seq (FJ.trans sc) eQ,gi.mono (FJ.trans sc),hq,by decide,by decide,by decide,by decide,fun v x m H' s' p' hv=>kc v H' s' p' ⟨(x,m),hv⟩⟩
   intro D6 ys H6 WN s6 p6 eV hP WO;obtain ⟨ss,vn,lss⟩:=Dv (lB WN WO) hP;have ls:ss.length=n:=by lia
   obtain ⟨SS,sf,RS⟩:=Eh (X:=10 ^ 20) hq vn ls (by decide) n1 (fun _=>ae (dn (by decide) n8) (by decide +kernel)) (by decide +kernel)
   have vn:aD B2 (er P0 H6) q D6 ss:=vn.weak (by decide +kernel)
   have M0:=FJ.trans s6;have iO:=aD.mono (aD.mono iO s5) s6;have iL:=aD.mono iL s6;obtain ⟨D1,f1,R1⟩:=T1.row;obtain ⟨D2,f2,R2⟩:=T2.row;have l1:=T1.len;have l2:=T2.len;have hW1:=sz.s1.t.w;have bW:W1*W1≤10 ^ 220:=ae (dY W1 (fR _ (by have:=jK sz.s1.t 1;lia))) sz.z1
   have FK:W1*W1≤10 ^ 260:=ae bW (by decide +kernel)
   dsimp only [bH];simp only [dZ,d0];have M4:=gi.mono M0;clear hP eV eQ;refine ⟨_,rfl,_,rfl,_,rfl,td,r1,r2,q,D1,D2,n,lJ,lK,f1,f2,W1,W1,W1,W1,rfl,M4.mono dS,hq,iO.mono dS,iL.mono dS,n1,by lia,l1,by lia,R1,R2,FK,FK,fun r3 H7 s7 om oo=>?_⟩
   have ok:=R1.ok.mul R2.ok;have FL:=Ef (q:=q) (n:=n) ok (z_ R1.out (M:=W1*W1) (fun i j=>by rw [a7];exact bE (R1.bf i) (R2.bf j))) (show (D1*D2).natAbs≤W1*W1 by rw [a7];exact bE R1.bD R2.bD)
   have T3:jd q n W2 (eX q n (cv f1 f2) (D1*D2)):=Aa hq sz.s2 (tj ..) oo.dH fun z=>⟨_,_,FL.weak (sz.b2 z) (ae (ae (fR _ n1) (fR _ (by decide))) (sz.b2 z)) (aN _)⟩
   have w3:fe q n (eX q n (cv f1 f2) (D1*D2)) (D1*D2) (wr n (cv f1 f2)):=FL.cj;generalize eX q n (cv f1 f2) (D1*D2)=BP at oo T3 w3;clear FL ok FK;have p7:=p6.mono s7;have ya:=aK.of (P:=P0) s7;have oo:=oo.er p7 (p6.ne om);have iO:=aD.mono iO ya;have iL:=aD.mono iL ya;have vn:=aD.mono vn ya;have M5:=M4.mono ya;have M6:=M0.trans ya;have BQ:∀{Hx:Hp},ai H7 Hx→df t.a9 Hx z q:=fun s=>WM (M6.trans (aK.of s));dsimp only [bH];simp only [dZ,d0];have turn:∀(r:Addr) (m W:Nat) (ps:aJ) (Hc:Hp) (D:Ends),ai H7 Hc→aD B2 (er P0 H7) q r ps→jd q n W ps→W*(Zt q n W 1*W)≤10 ^ 220→m≤5→(∀Hw,ai Hc Hw→D.nx [some (.ref a),some (.ref P0),some (.int (0+(i:Int))),some (.ref td),some (.ref z),some (.int (n:Int)),some (.ref r1),some (.ref r2),some (.ref D6),some (.ref r3),some (.ref r),some (.int (m:Int)),lY] Hw)→vV (GN (tB (oZ (Kn t.a9) [] E0 (cW (gA 3) (cW (gA 4) (cW (gA 10) (cW (gA 8) (cW (gA 11) ft)))))))) (Cp (tC (V.bl false))) iq D [some (.ref a),some (.ref P0),some (.int (0+(i:Int))),some (.ref td),some (.ref z),some (.int (n:Int)),some (.ref r1),some (.ref r2),some (.ref D6),some (.ref r3),some (.ref r),some (.int (m:Int)),lY] Hc:=by
    intro r m W ps Hc D sc hr T bz m5 kk;refine ⟨_,rfl,_,rfl,_,rfl,_,rfl,_,rfl,td,z,r,D6,q,SS,m,n,W,10 ^ 20,ps,ss,sf,rfl,(M5.mono dS).mono sc,BQ sc,hq,(hr.mono dS).mono sc,(vn.mono dS).mono sc,T,bz,ls,RS,by decide +kernel,by decide +kernel,m5,fun Hw sw=>⟨true,rfl,cO ?_⟩⟩
    exact kk Hw sw
   refine iC ?_;refine ⟨_,rfl,by show 2≤sizeLine;decide,fun t1 WQ=>?_⟩
   have yb:upd H7 t1 (.tup [.ref r1,.int 2]) t1=some (.tup [.ref r1,.int 2]):=av;have u1:ai H7 (upd H7 t1 (.tup [.ref r1,.int 2])):=aB WQ;generalize upd H7 t1 (.tup [.ref r1,.int 2])=J1 at yb u1 ⊢;refine ⟨_,rfl,by show 2≤sizeLine;decide,fun t2 WR=>?_⟩
   have yc:upd J1 t2 (.tup [.ref r2,.int 1]) t2=some (.tup [.ref r2,.int 1]):=av;have u2:ai J1 (upd J1 t2 (.tup [.ref r2,.int 1])):=aB WR;generalize upd J1 t2 (.tup [.ref r2,.int 1])=J2 at yc u2 ⊢;refine ⟨_,rfl,by show 2≤sizeLine;decide,fun t3 WS=>?_⟩
   have yd:upd J2 t3 (.tup [.ref r3,.int 1]) t3=some (.tup [.ref r3,.int 1]):=av;have u3:ai J2 (upd J2 t3 (.tup [.ref r3,.int 1])):=aB WS;generalize upd J2 t3 (.tup [.ref r3,.int 1])=J3 at yd u3 ⊢;refine ⟨by show 3≤sizeLine;decide,fun l nl=>?_⟩
   have el:upd J3 l (.lst [.ref t1,.ref t2,.ref t3]) l=some (.lst [.ref t1,.ref t2,.ref t3]):=av;have u4:ai J3 (upd J3 l (.lst [.ref t1,.ref t2,.ref t3])):=aB nl;have yb:=u4 _ _ (u3 _ _ (u2 _ _ yb));have yc:=u4 _ _ (u3 _ _ yc);have yd:=u4 _ _ yd;have u:=u1.trans (u2.trans (u3.trans u4));generalize upd J3 l (.lst [.ref t1,.ref t2,.ref t3])=J4 at yb yc yd u el ⊢;refine ⟨l,rfl,⟨_,.of el⟩,?_⟩;refine GZ (K:=K) (a:=l) (xs:=[.ref t1,.ref t2,.ref t3]) (fun _ σ Hc=>ai J4 Hc∧∃v10 v11:Option V,σ=[some (.ref a),some (.ref P0),some (.int (0+(i:Int))),some (.ref td),some (.ref z),some (.int (n:Int)),some (.ref r1),some (.ref r2),some (.ref D6),some (.ref r3),v10,v11,lY]) ⟨ai.refl _,_,_,rfl⟩ (fun j σ Hc _ ⟨sc,_⟩=>.of (sc _ _ el)) ?_ ?_
   ·rintro j v σ Hc hj ⟨sc,v10,v11,rfl⟩
    match j,hj with
    | 0,hj=>cases hj;exact ⟨t1,_,rfl,.of (sc _ _ yb),rfl,_,_,rfl,_,_,rfl,rfl,turn r1 2 W1 lJ Hc _ (u.trans sc) iO T1 sz.z1 (by decide) fun Hw sw=>⟨sc.trans sw,_,_,rfl⟩⟩
    | 1,hj=>cases hj;exact ⟨t2,_,rfl,.of (sc _ _ yc),rfl,_,_,rfl,_,_,rfl,rfl,turn r2 1 W1 lK Hc _ (u.trans sc) iL T2 sz.z1 (by decide) fun Hw sw=>⟨sc.trans sw,_,_,rfl⟩⟩
    | 2,hj=>cases hj;exact ⟨t3,_,rfl,.of (sc _ _ yd),rfl,_,_,rfl,_,_,rfl,rfl,turn r3 1 W2 BP Hc _ (u.trans sc) oo T3 sz.z2 (by decide) fun Hw sw=>⟨sc.trans sw,_,_,rfl⟩⟩
    | j+3,hj=>simp at hj
   rintro σ Hc ⟨sc,v10,v11,rfl⟩;have FN:=u.trans sc;dsimp only;have bk:∀(r:Addr) (ps:aJ) (W:Nat) {Hx:Hp},ai H7 Hx→aD B2 (er P0 H7) q r ps→∃xs:List V,Hx r=some (.lst xs)∧∀l,Hx l=none→aD (10 ^ 290) (upd Hx l (.lst xs)) q l ps:=fun r ps W {Hx} sx hr=>by obtain ⟨xs,ex,lx,fx⟩:=(hr.mono dS).mono sx;exact ⟨xs,ex,fun l nl=>⟨xs,av,lx,fun i v p h1 h2=>(fx i v p h1 h2).mono (aB nl)⟩⟩
   obtain ⟨y1,M7,g1⟩:=bk r1 lJ W1 FN iO;refine ⟨_,rfl,_,rfl,r1,y1,rfl,.inl (.of M7),fun k1 BR=>?_⟩;dsimp only [ft];refine Ej ⟨z,k1,q,n,W1,lJ,rfl,BQ (FN.trans (aB BR)),hq,g1 k1 BR,T1,fun v1 Ha sa vo=>?_⟩;have BS:=(FN.trans (aB BR)).trans sa;obtain ⟨y2,M8,g2⟩:=bk r2 lK W1 BS iL;refine ⟨_,rfl,_,rfl,r2,y2,rfl,.inl (.of M8),fun k2 BU=>?_⟩;dsimp only [ft];refine Ej ⟨z,k2,q,n,W1,lK,rfl,BQ (BS.trans (aB BU)),hq,g2 k2 BU,T2,fun BV Hb sb oa=>?_⟩;have FO:=(aB (o:=.lst y2) BU).trans sb;have BW:=BS.trans FO;obtain ⟨y3,M9,g3⟩:=bk r3 BP W2 BW oo;refine ⟨_,rfl,_,rfl,r3,y3,rfl,.inl (.of M9),fun k3 BX=>?_⟩;dsimp only [ft];refine Ej ⟨z,k3,q,n,W2,BP,rfl,BQ (BW.trans (aB BX)),hq,g3 k3 BX,T3,fun ye Hd sd yf=>?_⟩;have BY:=(aB (o:=.lst y3) BX).trans sd;have M_:=BW.trans BY;have vo:=(vo.mono FO).mono BY;have oa:=oa.mono BY;refine ⟨by show 3≤sizeLine;decide,fun bl WT=>?_⟩
   have kK:upd Hd bl (.lst [v1,BV,ye]) bl=some (.lst [v1,BV,ye]):=av;have yg:ai Hd (upd Hd bl (.lst [v1,BV,ye])):=aB WT;have BZ:=M_.trans yg;have vo:=vo.mono yg;have oa:=oa.mono yg;have yf:=yf.mono yg;generalize upd Hd bl (.lst [v1,BV,ye])=He at kK BZ vo oa yf ⊢;clear g1 g2 g3 M7 M8 M9 BR BU BX sa sb sd FO BY yg BS BW M_;have both:=Ta (ps:=BP) hq R1.cj R2.cj;have pe:=p7.mono BZ;have FP:=WL.trans (M6.trans (aK.of (P:=P0) BZ));have WU:=(M5.mono dS).mono BZ;have z3:=sz.z3;have sure:(¬Inv q n f1∨¬Inv q n f2)→ye=.aV:=fun h=>by
    rcases yf with ⟨e,_⟩ | ⟨c3,WV,F3,M3,_,_,B3⟩;·exact e
    ·have y:=both.mp (B3.inv _ _ w3)
     rcases h with h | h;·exact absurd y.1 h
     ·exact absurd y.2 h
   dsimp only [bH];simp only [dZ,d0];rcases vo with ⟨rfl,WW⟩ | ⟨c1,Ab,F1,M1,rfl,WX,B1⟩
   ·have e3:=sure (.inl (WW _ _ R1.cj))
    subst e3;refine ⟨_,rfl,bl,_,_,_,rfl,rfl,.of kK,rfl,rfl,true,by simp,dG (dG ?_)⟩
    exact ⟨_,rfl,bl,_,_,_,rfl,rfl,.of kK,rfl,rfl,false,by simp,cO ⟨_,_,_,_,_,_,_,_,_,_,_,rfl,FP,pe⟩⟩
   ·have WY:decide (V.ref c1=V.aV)=false:=fM fun h=>nomatch h
    refine ⟨_,rfl,bl,_,_,_,rfl,rfl,.of kK,rfl,rfl,false,by rw [WY],cO ?_⟩
    rcases oa with ⟨rfl,WZ⟩ | ⟨c2,Ac,F2,M2,rfl,W0,lZ⟩
    ·have e3:=sure (.inr (WZ _ _ R2.cj))
     subst e3;refine ⟨_,rfl,bl,_,_,_,rfl,rfl,.of kK,rfl,rfl,true,by simp,dG ?_⟩
     exact ⟨_,rfl,bl,_,_,_,rfl,rfl,.of kK,rfl,rfl,false,by simp,cO ⟨_,_,_,_,_,_,_,_,_,_,_,rfl,FP,pe⟩⟩
    ·have W3:decide (V.ref c2=V.aV)=false:=fM fun h=>nomatch h
     refine ⟨_,rfl,bl,_,_,_,rfl,rfl,.of kK,rfl,rfl,false,by rw [W3],cO ?_⟩
     rcases yf with ⟨_,W4⟩ | ⟨c3,WV,F3,M3,rfl,Na,B3⟩;·exact absurd (both.mpr ⟨B1.inv _ _ R1.cj,lZ.inv _ _ R2.cj⟩) (W4 _ _ w3)
     have W5:RowW q Ab M1 F1 (Zt q n W1 1*W1) (Zt q n W1 1*W1) n:=⟨B1.cj.ok,B1.dvd,B1.cj.w,B1.bF,B1.bM,B1.cj.low⟩;have W6:RowW q Ac M2 F2 (Zt q n W1 1*W1) (Zt q n W1 1*W1) n:=⟨lZ.cj.ok,lZ.dvd,lZ.cj.w,lZ.bF,lZ.bM,lZ.cj.low⟩;refine ⟨_,rfl,bl,_,_,_,rfl,rfl,.of kK,rfl,_,rfl,_,rfl,bl,_,_,_,rfl,rfl,.of kK,rfl,_,rfl,bl,_,_,_,rfl,rfl,.of kK,rfl,td,c1,c2,q,M1,M2,n,Ab,Ac,F1,F2,_,_,_,_,rfl,WU,hq,WX,W0,n1,by lia,B1.len,by rw [lZ.len];exact aN _,W5,W6,z3,z3,fun c4 Hf FQ E7 FA=>?_⟩
     rw [B1.both hq n1 lZ B3 R1.cj R2.cj w3 Na.dH] at FA;refine wR hq (Na.mono FQ) FA ⟨false,rfl,cO ?_⟩;exact ⟨_,_,_,_,_,_,_,_,_,_,_,rfl,FP.trans (aK.of FQ),pe.mono FQ⟩
  unfold dB at gi;by_cases z0:q=0
  ·subst z0
   obtain ⟨F,W1,W2,sz⟩:=S6 (n:=(1+m0).toNat) (by lia) (by lia)
   have en:(1:Int)+m0=(((1+m0).toNat:Nat):Int):=by lia
   generalize (1+m0).toNat=n at sz en;rw [pA] at gi;refine ⟨_,rfl,td,_,_,_,rfl,rfl,.of (dS _ _ gi),rfl,rfl,false,by decide +kernel,cO ?_⟩
   show R [some (.ref a),some (.ref P0),some (.int (0+(i:Int))),some (.ref td),some (.ref z),some (.int (1+m0)),v6,v7,v8,v9,v10,v11,lY] H3;rw [en];exact rest n F W1 W2 H3 sz (aK.refl _) p3
  ·rw [ni z0] at gi
   refine ⟨_,rfl,td,_,_,_,rfl,rfl,.of (dS _ _ gi),rfl,rfl,true,by decide +kernel,dG ?_⟩
   refine ⟨_,rfl,P0,a,ns,8,rfl,p3,eQ,by decide,aP.of_lt (by decide) (by decide),fun m1 H4 m10 m11 s4 p4=>⟨_,_,rfl,rfl,?_⟩⟩
   obtain ⟨F,W1,W2,sz⟩:=S8 (q:=q) (n:=(1+m1).toNat) z0 (by lia) (by lia)
   have en:(1:Int)+m1=(((1+m1).toNat:Nat):Int):=by lia
   generalize (1+m1).toNat=n at sz en;show R [some (.ref a),some (.ref P0),some (.int (0+(i:Int))),some (.ref td),some (.ref z),some (.int (1+m1)),v6,v7,v8,v9,v10,v11,lY] H4;rw [en];exact rest n F W1 W2 H4 sz s4 p4
 ·rintro σ Hc ⟨v2,v3,v4,v5,v6,v7,v8,v9,v10,v11,lY,rfl,sT,pc⟩
  exact kQ _
theorem W7{l:PySem.W.OpenLaw}(T:Txt K mg t):∃fd:FuncData,(∀(s:Shared) (v:Value),BindsTo s fd ⟨[v],[]⟩ [("script",v)])∧∀base:Heap,K.In base→base.Ns mainGlobals mg→aW l.prog w K mg base bQ 13 t.nO fd ["script"] (za K):=by obtain ⟨oc,od,kV,doc,pm,an,aU,ct,fb,e,lk,e7⟩:=T.u9.ex;refine ⟨t.qE,fun s v=>?_,fun base _ _=>WD T⟩;rw [e];exact .of_eq rfl
end
theorem walk{l:PySem.W.OpenLaw}{q:Program}{loose:List Str}{XP:(Str→Option Value)→Heap→Prop}{YP:World→Heap→Prop}{d:DefRec}{K:Params→PySem.W.Frag}(hn:l.most=some 63)(mO:d.params.defaults=[])
  (hY:∀(w:World) (h:Heap),YP w h→(K w.params).In h)
  (F:∀(w:World) (mg:dj) (fa:Addr) (h:Heap),(K w.params).In h→h.Ns mainGlobals mg→mg d.name=some (.ref fa)→
   ∃fd:FuncData,(∀(s:Shared) (u:Value),BindsTo s fd ⟨[u],[]⟩ [("script",u)])∧∀base:Heap,(K w.params).In base→base.Ns mainGlobals mg→aW l.prog w (K w.params) mg base bQ 13 fa fd ["script"] (za (K w.params))) :
  PySem.W.WalkO q loose XP YP l.row.toRowW d [] (fun f vs=>PySem.call f vs):=
 L2.Pw (n:=63) (k:=13) (x:="script") (CX:=fun _=>bQ) (sp:=fun w=>za (K w.params)) hn (by decide) mO ⟨rfl,by decide,by decide⟩ hY F (fun _ _ a ns hl _ hS=>⟨a,ns,rfl,hS,hl,fun _=>rfl⟩) fun _ _ _ _ _ z=>z
theorem W8{K:aE}{h:Heap}{mg:dj}(X:K.In h)(G:h.Ns mainGlobals mg)
  {a9:Addr}
  {qI:Addr}
  {kB:Addr}
  {nQ:Addr}
  {lL:Addr} {W9 Nb:Option Addr} {W_:Array (Option Value)} {Xa Nc Nd Nf FR Ng:Value}
  {FT:Addr} {Xb:Tok} {Xc:Value} {Xd:Option Addr} {Xe:Nat} {Xf:Array (Option Value)}
  {Xg:Tok}
  {Xh:Tok}
  {Xi:Tok}
  {pK pL pM pN pO pP pQ pR pS pV pW pX pY pZ p9 p_ qa qb qc qd qe qf qg qh qi qj qk ql qm qo qp qr qs qt qu qv qw qx qy qz qA qB qC qD nO qF qG qH:Addr} {tq tx tD tE tF tG tH tI tJ tK tL tM tO tP tQ tR tS tV tW tX tY tZ t5 t6 t7 t8 t9 t_ uc ud ue uf ug uh ui uj uk um uo uq ur uu uv uw qE ux uy uz:FuncData}
  (FU:PySem.W.nsIn K mainGlobals "World"=some (some (.ref a9)))
  (FW:PySem.W.nsIn K mainGlobals "NoWorld"=some (some (.ref qI)))
  (FY:PySem.W.nsIn K mainGlobals "NoOver"=some (some (.ref kB)))
  (FZ:PySem.W.nsIn K mainGlobals "NoFit"=some (some (.ref nQ)))
  (Xj:mg "whole_trimmed"=some (.ref pK))
  (qJ:aH K "whole_trimmed" Ae pK tq)
  (Xk:mg "whole_times"=some (.ref pL))
  (qK:aH K "whole_times" Af pL tx)
  (Xl:mg "whole_less"=some (.ref pM))
  (uA:aH K "whole_less" Ag pM tD)
  (Xm:mg "whole_parted"=some (.ref pN))
  (qL:aH K "whole_parted" Ah pN tE)
  (Xn:mg "power"=some (.ref pO))
  (nR:aH K "power" Ai pO tF)
  (Xo:mg "next_part"=some (.ref pP))
  (uB:aH K "next_part" Aj pP tG)
  (Xp:mg "whole_common"=some (.ref pQ))
  (uC:aH K "whole_common" Ak pQ tH)
  (Xq:mg "trimmed"=some (.ref pR))
  (jN:aH K "trimmed" Al pR tI)
  (Xr:mg "padded"=some (.ref pS))
  (lM:aH K "padded" Am pS tJ)
  (Xs:mg "numbers_of"=some (.ref pV))
  (jO:aH K "numbers_of" An pV tK)
  (Xt:mg "poly_times"=some (.ref pW))
  (uD:aH K "poly_times" Ao pW tL)
  (Xu:mg "parted"=some (.ref pX))
  (qQ:aH K "parted" Ap pX tM)
  (Xv:mg "common"=some (.ref pY))
  (qR:aH K "common" Aq pY tO)
  (Xw:mg "check_aim"=some (.ref pZ))
  (uE:aH K "check_aim" Ar pZ tP)
  (Xx:mg "turned_size"=some (.ref p9))
  (qS:aH K "turned_size" As p9 tQ)
  (Xy:mg "whole_turn"=some (.ref p_))
  (qT:aH K "whole_turn" Au p_ tR)
  (Xz:mg "turned_undone"=some (.ref qa))
  (uF:aH K "turned_undone" Av qa tS)
  (XA:mg "turned_back"=some (.ref qb))
  (lN:aH K "turned_back" Aw qb tV)
  (XB:mg "is_whole"=some (.ref qc))
  (uH:aH K "is_whole" Ax qc tW)
  (XC:mg "common_divisor"=some (.ref qd))
  (qU:aH K "common_divisor" Ay qd tX)
  (XD:mg "is_prime"=some (.ref qe))
  (uI:aH K "is_prime" Az qe tY)
  (XE:mg "ratio"=some (.ref qf))
  (uJ:aH K "ratio" AA qf tZ)
  (XF:mg "one_bottom"=some (.ref qg))
  (uK:aH K "one_bottom" AB qg t5)
  (XG:mg "remainder_back"=some (.ref qh))
  (uN:aH K "remainder_back" AD qh t6)
  (XH:mg "remainder_over"=some (.ref qi))
  (uO:aH K "remainder_over" AE qi t7)
  (XI:mg "is_fractions"=some (.ref qj))
  (uP:aH K "is_fractions" AF qj t8)
  (XJ:mg "is_wheel"=some (.ref qk))
  (uQ:aH K "is_wheel" AG qk t9)
  (XM:mg "_law_e_fill"=some (.ref ql))
  (uR:aH K "_law_e_fill" AH ql t_)
  (XN:mg "_law_e_next"=some (.ref qm))
  (d_:aH K "_law_e_next" AI qm uc)
  (XO:mg "_law_e_low"=some (.ref qo))
  (kC:aH K "_law_e_low" AJ qo ud)
  (XQ:mg "_law_e_of"=some (.ref qp))
  (gK:aH K "_law_e_of" AK qp ue)
  (XR:mg "_law_e_plus"=some (.ref qr))
  (qV:aH K "_law_e_plus" AL qr uf)
  (XS:mg "_law_e_times"=some (.ref qs))
  (uU:aH K "_law_e_times" AM qs ug)
  (XT:mg "_law_e_is_number"=some (.ref qt))
  (uV:aH K "_law_e_is_number" AN qt uh)
  (XU:mg "_law_e_is_row"=some (.ref qu))
  (uW:aH K "_law_e_is_row" AO qu ui)
  (XW:mg "_law_e_world"=some (.ref qv))
  (uX:aH K "_law_e_world" AQ qv uj)
  (XX:mg "_law_e_number"=some (.ref qw))
  (qW:aH K "_law_e_number" AR qw uk)
  (XY:mg "_law_e_cut"=some (.ref qx))
  (uY:aH K "_law_e_cut" AS qx um)
  (XZ:mg "_law_e_product"=some (.ref qy))
  (nS:aH K "_law_e_product" AU qy uo)
  (X0:mg "_law_e_turn"=some (.ref qz))
  (uZ:aH K "_law_e_turn" AV qz uq)
  (X3:mg "_law_e_wrapped"=some (.ref qA))
  (lO:aH K "_law_e_wrapped" AW qA ur)
  (X4:mg "_law_e_turned_row"=some (.ref qB))
  (qX:aH K "_law_e_turned_row" AX qB uu)
  (X5:mg "_law_e_turned_to"=some (.ref qC))
  (kD:aH K "_law_e_turned_to" AY qC uv)
  (X6:mg "_law_e_back_right"=some (.ref qD))
  (u7:aH K "_law_e_back_right" AZ qD uw)
  (X7:mg "law"=some (.ref nO))
  (u9:aH K "law" A0 nO qE)
  (A_:Mk K a9 qF)
  (xx:eO K "__init__" "World.__init__" A3 qF ux)
  (F0:PySem.W.findIn K (.ref a9) "of"=some (some (.ref lL)))
  (F4:PySem.W.isFn K (.ref lL)=true)
  (vp:K.lookup lL=some ⟨Xa,W9,.func (PySem.W.fnOf "of" "World.of" (iy jf) (fD jf) (aL jf) (.ref FT) Nc Nd Nf Nb FR Ng),W_⟩)
  (vq:PySem.W.codeIn K FR "World.of"=true)
  (rA:PySem.W.keepIn K (.ref lL)=true)
  (vt:K.lookup FT=some ⟨Xc,Xd,.seq #[.int 1 Xb] Xe,Xf⟩)
  (lQ:Meth K a9 "as_wholes" qG)
  (xy:eO K "as_wholes" "World.as_wholes" A4 qG uy)
  (lR:Meth K a9 "evenly" qH)
  (xA:eO K "evenly" "World.evenly" A5 qH uz)
  (F5:PySem.W.plainGet K a9 Str.empty=true)
  (F6:PySem.W.hasDictIn K a9=true)
  (F7:PySem.W.plainOver K a9=true)
  (F8:PySem.W.findIn K (.ref a9) "__setattr__"=some (some (.builtin "object.__setattr__")))
  (F9:PySem.W.findIn K (.ref a9) "prime"=some none)
  (F_:PySem.W.nsIn K mainGlobals "ValueError"=some none)
  (Ga:PySem.W.nsIn K mainGlobals "abs"=some none)
  (Gb:PySem.W.nsIn K mainGlobals "all"=some none)
  (Gd:PySem.W.nsIn K mainGlobals "bool"=some none)
  (Ge:PySem.W.nsIn K mainGlobals "enumerate"=some none)
  (Gf:PySem.W.nsIn K mainGlobals "int"=some none)
  (Gg:PySem.W.nsIn K mainGlobals "isinstance"=some none)
  (Gh:PySem.W.nsIn K mainGlobals "len"=some none)
  (Gi:PySem.W.nsIn K mainGlobals "list"=some none)
  (Gj:PySem.W.nsIn K mainGlobals "max"=some none)
  (Gk:PySem.W.nsIn K mainGlobals "min"=some none)
  (Gm:PySem.W.nsIn K mainGlobals "range"=some none)
  (Gn:PySem.W.nsIn K mainGlobals "sum"=some none)
  (Gp:PySem.W.nsIn K mainGlobals "tuple"=some none)
  (Gq:PySem.W.nsIn K mainGlobals "zip"=some none)
  (Gr:PySem.W.nsIn K mainGlobals "GREATEST_PRIME"=some (some (.int 997 Xg)))
  (Gs:PySem.W.nsIn K mainGlobals "LONG"=some (some (.int 2048 Xh)))
  (Gu:PySem.W.nsIn K mainGlobals "MOST"=some (some (.int 40 Xi)))
  (Gv:PySem.W.excIn K qI [.type "ValueError",.type "Exception",.type "BaseException",.type "object"] "ValueError.__new__"=true)
  (Gw:PySem.W.excIn K kB [.type "ValueError",.type "Exception",.type "BaseException",.type "object"] "ValueError.__new__"=true)
  (Gx:PySem.W.excIn K nQ [.type "ValueError",.type "Exception",.type "BaseException",.type "object"] "ValueError.__new__"=true)
  : ∃t:Ek,Txt K mg t:=by
 refine ⟨⟨pK,tq,pL,tx,pM,tD,pN,tE,pO,tF,pP,tG,pQ,tH,pR,tI,pS,tJ,pV,tK,pW,tL,pX,tM,pY,tO,pZ,tP,p9,tQ,p_,tR,qa,tS,qb,tV,qc,tW,qd,tX,qe,tY,qf,tZ,qg,t5,qh,t6,qi,t7,qj,t8,qk,t9,ql,t_,qm,uc,qo,ud,qp,ue,qr,uf,qs,ug,qt,uh,qu,ui,qv,uj,qw,uk,qx,um,qy,uo,qz,uq,qA,ur,qB,uu,qC,uv,qD,uw,nO,qE,qF,ux,lL,PySem.W.fnOf "of" "World.of" (iy jf) (fD jf) (aL jf) (.ref FT) Nc Nd Nf Nb FR Ng,qG,uy,qH,uz,a9,qI,kB,nQ⟩,?_⟩
 exact {
  qJ:=qJ
  Em:=qJ.bN
  En:=Xj
  qK:=qK
  Eo:=qK.bN
  Ep:=Xk
  uA:=uA
  Ko:=uA.bN
  Kp:=Xl
  qL:=qL
  Er:=qL.bN
  Es:=Xm
  nR:=nR
  A6:=nR.bN
  A7:=Xn
  uB:=uB
  Kq:=uB.bN
  Kr:=Xo
  uC:=uC
  Ks:=uC.bN
  Kt:=Xp
  jN:=jN
  qM:=jN.bN
  qN:=Xq
  lM:=lM
  xq:=lM.bN
  xr:=Xr
  jO:=jO
  qO:=jO.bN
  qP:=Xs
  uD:=uD
  Ku:=uD.bN
  Kv:=Xt
  qQ:=qQ
  Et:=qQ.bN
  Eu:=Xu
  qR:=qR
  Ew:=qR.bN
  Ex:=Xv
  uE:=uE
  Kw:=uE.bN
  Kx:=Xw
  qS:=qS
  Ey:=qS.bN
  Ez:=Xx
  qT:=qT
  EA:=qT.bN
  EB:=Xy
  uF:=uF
  Ky:=uF.bN
  Kz:=Xz
  lN:=lN
  xt:=lN.bN
  xu:=XA
  uH:=uH
  KA:=uH.bN
  KC:=XB
  qU:=qU
  EC:=qU.bN
  ED:=XC
  uI:=uI
  KD:=uI.bN
  KG:=XD
  uJ:=uJ
  KH:=uJ.bN
  KI:=XE
  uK:=uK
  KJ:=uK.bN
  KL:=XF
  uN:=uN
  KN:=uN.bN
  KO:=XG
  uO:=uO
  KP:=uO.bN
  KQ:=XH
  uP:=uP
  KR:=uP.bN
  KS:=XI
  uQ:=uQ
  KU:=uQ.bN
  KW:=XJ
  uR:=uR
  KY:=uR.bN
  KZ:=XM
  d_:=d_
  fT:=d_.bN
  fU:=XN
  kC:=kC
  uS:=kC.bN
  uT:=XO
  gK:=gK
  jP:=gK.bN
  jQ:=XQ
  qV:=qV
  EE:=qV.bN
  EF:=XR
  uU:=uU
  K0:=uU.bN
  K1:=XS
  uV:=uV
  K2:=uV.bN
  K3:=XT
  uW:=uW
  K4:=uW.bN
  K5:=XU
  uX:=uX
  K6:=uX.bN
  K7:=XW
  qW:=qW
  EG:=qW.bN
  EH:=XX
  uY:=uY
  K8:=uY.bN
  K9:=XY
  nS:=nS
  A8:=nS.bN
  A9:=XZ
  uZ:=uZ
  K_:=uZ.bN
  La:=X0
  lO:=lO
  xv:=lO.bN
  xw:=X3
  qX:=qX
  EI:=qX.bN
  EJ:=X4
  kD:=kD
  u5:=kD.bN
  u6:=X5
  u7:=u7
  Lb:=u7.bN
  Lc:=X6
  u9:=u9
  Tb:=u9.bN
  Ld:=X7
  xx:=xx
  Le:=xx.bN
  A_:=A_
  Lg:=(zd (st:=jf) (i:=1) vp vq rA vt)
  EK:=iA.binds (ps:=["self","top","bottom"]) (zd (st:=jf) (i:=1) vp vq rA vt) fun s dT kV doc pm an aU ct tk o n us ho hd hl=>match us,hl with | [_,_,_],_=>.of_defaults rfl ho hd rfl rfl
  Ba:=iA.Qn (ps:=["self","top","bottom"]) (zd (st:=jf) (i:=1) vp vq rA vt) fun s dT kV doc pm an aU ct tk o n us ho hd hl=>match us,hl with | [_,_],_=>.of_defaults rfl ho hd rfl rfl
  Tc:=iA.Qo (ps:=["self","top","bottom"]) (y:="bottom") (zd (st:=jf) (i:=1) vp vq rA vt) fun s dT kV doc pm an aU ct tk o n us ws ho hd hw hl=>match ws,us,hw,hl with | [_],[_,_],_,_=>.of_defaults rfl ho hd rfl rfl
  qY:=⟨F0,F4,rA⟩
  xy:=xy
  qZ:=xy.bN
  lQ:=lQ
  xA:=xA
  q8:=xA.bN
  lR:=lR
  dk:=⟨F5,F6,F7,F8⟩
  Lh:=bq X G FU
  kF:=F9
  Li:=bq X G FW
  Bb:=bq X G FY
  EL:=bq X G FZ
  Te:=gx X G F_
  xB:=gx X G Ga
  Lj:=gx X G Gb
  Bc:=gx X G Gd
  EM:=gx X G Ge
  xC:=gx X G Gf
  jR:=gx X G Gg
  ck:=gx X G Gh
  nU:=gx X G Gi
  EN:=gx X G Gj
  Lk:=gx X G Gk
  gg:=gx X G Gm
  Tf:=gx X G Gn
  Bd:=gx X G Gp
  Be:=gx X G Gq
  Ll:=⟨_,bq X G Gr,_,rfl⟩
  Lm:=⟨_,bq X G Gs,_,rfl⟩
  Ln:=⟨_,bq X G Gu,_,rfl⟩
  Lo:=Gv
  Bf:=Gw
  EO:=Gx
 }
end My
namespace PySem.W.Fast
def tw6877049399321760726:Unit:=()
def tw5946044770648903166:Unit:=()
def tw1559530675671550043:Unit:=()
def tw9269350605254979498:Unit:=()
def tw9166611300584164443:Unit:=()
def tw4384611527129133694:Unit:=()
def tw3467883683023621950:Unit:=()
def tw8583938565914969374:Unit:=()
def tw14548483632292087959:Unit:=()
def tw11671550341233361204:Unit:=()
def tw7888792931948937678:Unit:=()
def tw150053169479049437:Unit:=()
def tw3691938339286984187:Unit:=()
def tw12438246584026685163:Unit:=()
def tw5052221810618958831:Unit:=()
def tw63435156500792159:Unit:=()
def tw6873826770731753580:Unit:=()
def tw3600542413159371785:Unit:=()
def tw16168896011077985941:Unit:=()
def tw15863992596667236433:Unit:=()
def tw3339382842585482659:Unit:=()
def tw8807083411797838119:Unit:=()
def tw4550052195182986872:Unit:=()
def tw13050461772737245009:Unit:=()
def tw11910306948374626560:Unit:=()
def tw3153061228814706730:Unit:=()
def tw10825658655300480816:Unit:=()
def tw8142171725148296648:Unit:=()
def tw12327957098221124705:Unit:=()
def tw4294662874852417606:Unit:=()
def tw2880300960733885217:Unit:=()
def tw16200466975527922631:Unit:=()
def tw15380505975144939835:Unit:=()
def tw16283025414985460732:Unit:=()
def tw15147039957529704191:Unit:=()
def tw9813083043355220127:Unit:=()
def tw2448373520169050646:Unit:=()
def tw11597441189497185588:Unit:=()
def tw13169340580782006761:Unit:=()
def tw4580261521830709559:Unit:=()
def tw8268977197482161559:Unit:=()
def tw11499686978784432271:Unit:=()
def tw12413448012944627141:Unit:=()
def tw9237584062543217420:Unit:=()
def tw15560981051958567717:Unit:=()
def tw6368998307707401663:Unit:=()
def tw4769045325782453908:Unit:=()
def tw3649643284263254860:Unit:=()
def tw7279035406069919900:Unit:=()
def tw15493819389019441540:Unit:=()
def tw4339246961814180089:Unit:=()
def tw5121383727638053636:Unit:=()
def tw9449863482418165196:Unit:=()
def tw17828574823727941560:Unit:=()
def tw8949896327914652531:Unit:=()
def tw8643673900778172909:Unit:=()
def tw17240862068669538871:Unit:=()
def tw5908279597053588782:Unit:=()
def tw1383158372926283824:Unit:=()
def tw15836256198569506855:Unit:=()
def tw14919076697647065913:Unit:=()
def tw14640607382651589464:Unit:=()
def tw5845418823202151252:Unit:=()
def tw16382365561887061052:Unit:=()
def tw11781124335178427890:Unit:=()
def tw13256943134554073249:Unit:=()
def tw10133121175817426684:Unit:=()
def tw11797174726450319035:Unit:=()
def tw2047956277403873079:Unit:=()
def tw13575972766420374016:Unit:=()
def tw10842466021033697104:Unit:=()
def tw17043002121424940199:Unit:=()
def tw17333858497072017669:Unit:=()
def tw3939843850480227887:Unit:=()
def tw11315076769478418640:Unit:=()
def tw5871454290287284294:Unit:=()
def tw322706468615214068:Unit:=()
def tw6138647054200251314:Unit:=()
def tw9458746714897940178:Unit:=()
def tw9158072366577390848:Unit:=()
def tw9732746635492911001:Unit:=()
def tw1510642308730858045:Unit:=()
def tw6234667988239619923:Unit:=()
def tw17611320458962736998:Unit:=()
def tw16764508854503230773:Unit:=()
def tw13469647664123406210:Unit:=()
def tw5915075809564662143:Unit:=()
def tw2230834770035859635:Unit:=()
def tw7581033418097139943:Unit:=()
def tw13295253107863612378:Unit:=()
def tw16335438619442682555:Unit:=()
def tw7521874586885227632:Unit:=()
def tw8088156234999909118:Unit:=()
def tw14676146449791762401:Unit:=()
def tw13872905369665889033:Unit:=()
def tw12233618854859909958:Unit:=()
def tw8232890043873920033:Unit:=()
def tw13382833325249418250:Unit:=()
def tw15453329284404242746:Unit:=()
def tw10675729347941764370:Unit:=()
def tw10720441995446335970:Unit:=()
def tw18041544713866093662:Unit:=()
def tw14450988222823669486:Unit:=()
def tw1124922262363839859:Unit:=()
def tw2199090719772691795:Unit:=()
def tw1572557303722067390:Unit:=()
def tw7560990452505065185:Unit:=()
def tw10397940291691261157:Unit:=()
def tw12497142350869823964:Unit:=()
def tw4139926486126091362:Unit:=()
def tw7222331200176391086:Unit:=()
def tw13278951425307981634:Unit:=()
def tw2989429027235289449:Unit:=()
def tw5240789894861512695:Unit:=()
def tw11962701823737649178:Unit:=()
def tw3285082361403911548:Unit:=()
def tw8754865062649996230:Unit:=()
def tw13170815806319791096:Unit:=()
def tw7191500969873113086:Unit:=()
def tw1242615264994916102:Unit:=()
def tw18155881902842323976:Unit:=()
def tw452578458649873343:Unit:=()
def tw789106473608915058:Unit:=()
def tw3027144327711532418:Unit:=()
def tw11104313422519579250:Unit:=()
def tw11722822869073246710:Unit:=()
def tw9107601969815009554:Unit:=()
def tw2796136735534705073:Unit:=()
def tw9900629707383712288:Unit:=()
def tw1397747930315620147:Unit:=()
def tw4579767579667159365:Unit:=()
def tw1762595971841488196:Unit:=()
def tw152720429229011577:Unit:=()
def tw9683398094541716248:Unit:=()
def tw9109113497849807934:Unit:=()
def tw5858473854830260630:Unit:=()
def tw7974149308780283601:Unit:=()
def tw11476571075087180762:Unit:=()
def tw7934278996686410647:Unit:=()
def tw9969485378976826272:Unit:=()
def tw8975400636717797921:Unit:=()
def tw6667436934421235876:Unit:=()
def tw13008834757367617202:Unit:=()
def tw6839421409586925689:Unit:=()
def tw17049658752917528679:Unit:=()
def tw9625597254029239025:Unit:=()
def tw3994123419439454438:Unit:=()
def tw14186811368985038902:Unit:=()
def tw4337477847202792305:Unit:=()
def tw11900436130554427733:Unit:=()
def tw937510010385717823:Unit:=()
def tw252105604981676551:Unit:=()
def tw14834023257812503906:Unit:=()
def tw15885266600186727249:Unit:=()
def tw8207139224536673775:Unit:=()
def tw15399856663528061600:Unit:=()
def tw10417528503462997801:Unit:=()
def tw16844390968565335627:Unit:=()
def tw15893163982710536207:Unit:=()
def tw8676510013889481994:Unit:=()
def tw10281112717750582399:Unit:=()
def tw3550283414265951380:Unit:=()
def tw10585685529695217302:Unit:=()
def tw6112676371812910510:Unit:=()
def tw10242014297946428231:Unit:=()
def tw17677687156567645728:Unit:=()
def tw14613255341559725822:Unit:=()
def tw13537523289852076808:Unit:=()
def tw935713666767625941:Unit:=()
def tw12020907764821726609:Unit:=()
def tw13038024474369818847:Unit:=()
def tw9288968804498776732:Unit:=()
def tw9052640137836118502:Unit:=()
def tw14343735971603560180:Unit:=()
def tw12656176524390599323:Unit:=()
def tw3606810323101098349:Unit:=()
def tw17672617343934182075:Unit:=()
def tw6399569614691961884:Unit:=()
def tw15531911610679171168:Unit:=()
def tw7267165672890015227:Unit:=()
def tw7374702147577797819:Unit:=()
def tw18407515177356982603:Unit:=()
def tw15198052447421282422:Unit:=()
def tw9933137341248463448:Unit:=()
def tw184064288634030634:Unit:=()
def tw15590246128836763206:Unit:=()
def tw7808238386969026471:Unit:=()
def tw17595834700055000736:Unit:=()
def tw13928472265596910038:Unit:=()
def tw7862127510120016765:Unit:=()
def tw4521909111711371395:Unit:=()
def tw5597784857377165569:Unit:=()
def tw5931697526033844858:Unit:=()
def tw13558889263055104084:Unit:=()
def tw4540678251867456773:Unit:=()
def tw11944467836579938058:Unit:=()
def tw10663598344153889358:Unit:=()
def tw6125452982141640006:Unit:=()
def tw728404894606307841:Unit:=()
def tw1406487374387981627:Unit:=()
def tw3883101053574842521:Unit:=()
def tw7130193683673198250:Unit:=()
def tw10355583582446283736:Unit:=()
def tw12719884989434737479:Unit:=()
def tw163353335739104482:Unit:=()
def tw7696644794346293936:Unit:=()
def tw3711123810179684503:Unit:=()
def tw15201007302003739695:Unit:=()
def tw11044603210750489679:Unit:=()
def tw13673392975085141866:Unit:=()
def tw8054304888853619451:Unit:=()
def tw12149717115986822768:Unit:=()
def tw16958877946916079974:Unit:=()
def tw7151642380904376739:Unit:=()
def tw16594657130342291387:Unit:=()
def tw15289839848761180946:Unit:=()
def tw9005652763282846455:Unit:=()
def tw15664696068759714171:Unit:=()
def tw1985605696985356359:Unit:=()
def tw17158877482178987255:Unit:=()
def tw12026759282249771277:Unit:=()
def tw3730330040028792728:Unit:=()
def tw2875434056389909684:Unit:=()
def tw17802467234363486523:Unit:=()
def tw11796410629699569675:Unit:=()
def tw12919939771076230991:Unit:=()
def tw5030264829352648496:Unit:=()
def tw2138055338247342462:Unit:=()
def tw6302179350782944357:Unit:=()
def tw10181977199423373543:Unit:=()
def tw3676392931059525961:Unit:=()
def tw6102780308100281101:Unit:=()
def tw13427005639112061447:Unit:=()
def tw9317294289950527158:Unit:=()
def tw12413018055659468007:Unit:=()
def tw7988251678994790757:Unit:=()
def tw6413108198415474334:Unit:=()
def tw5694075087181233339:Unit:=()
def tw2882904807920813714:Unit:=()
def tw11909392183314675248:Unit:=()
def tw704069542434174865:Unit:=()
def tw15140396047900438454:Unit:=()
def tw801256404833722403:Unit:=()
def tw10860679297632979759:Unit:=()
def tw14116432134126875876:Unit:=()
def tw10416550046625265977:Unit:=()
def tw443106310707413786:Unit:=()
def tw7376139324180939377:Unit:=()
def tw13137272831121702816:Unit:=()
def tw9307018553698136471:Unit:=()
def tw14081962321912475410:Unit:=()
def tw5804908809559160227:Unit:=()
def tw12658059389112480338:Unit:=()
def tw95760186325159852:Unit:=()
def tw12823117556988641979:Unit:=()
def tw12751254200664434848:Unit:=()
def tw11711792076054508927:Unit:=()
def tw14447967575911023969:Unit:=()
def tw18163157609680186622:Unit:=()
def tw12690012495455590615:Unit:=()
def tw4799165147990565330:Unit:=()
def tw16577660947264480134:Unit:=()
def tw104565693486543904:Unit:=()
def tw370607808359859530:Unit:=()
def tw10833065825996357882:Unit:=()
def tw16720477754018548477:Unit:=()
def tw13782825328295411775:Unit:=()
def tw18418119863174009478:Unit:=()
def tw7677151935291974650:Unit:=()
def tw1263224236420361107:Unit:=()
def tw17247664583977105313:Unit:=()
def tw329894950206771077:Unit:=()
def tw14807562852183834514:Unit:=()
def tw5630202268391424477:Unit:=()
def tw5039020284683821298:Unit:=()
def tw10049145684201947207:Unit:=()
def tw9833127809149458159:Unit:=()
def tw2866197782643020429:Unit:=()
def tw11595537979414932702:Unit:=()
def tw5861160486034965680:Unit:=()
def tw3008256118472202772:Unit:=()
def tw15497183502722241018:Unit:=()
def tw9515244948514228958:Unit:=()
def tw8284982574409790381:Unit:=()
def tw8085975381412506774:Unit:=()
def tw12808779359720461869:Unit:=()
def tw18207295563932674064:Unit:=()
def tw13068956322033430166:Unit:=()
def tw6826655153436138569:Unit:=()
def tw16513419111551705352:Unit:=()
def tw14080224024347291302:Unit:=()
def tw12487498713880010190:Unit:=()
def tw17642006409753439608:Unit:=()
def tw10222194211091328325:Unit:=()
def tw13187615128262201029:Unit:=()
def tw3984569185946770727:Unit:=()
def tw13666569018217152329:Unit:=()
def tw5876884476142806951:Unit:=()
def tw13548920904560555708:Unit:=()
def tw7273493367325066948:Unit:=()
end PySem.W.Fast
open PySem PySem.W PyProof.Rows
set_option maxRecDepth 100000 in
set_option maxHeartbeats 0 in
theorem PySem.Challenge.cw_bandwright_k63_backs_of_turned_rows_holds : PySem.Challenge.rw_bandwright_k63_backs_of_turned_rows.Holds := by
 w_on;o_law;k_head;(case hw=>w_witness2)
 k_fill
 refine My.walk (l:=PySem.Challenge.rw_bandwright_k63_backs_of_turned_rows) rfl rfl (fun w h Y=>PySem.W.kIn_of Y) ?F
 case F=>
  intro w mg fa h KX G wj
  have T:∃t,My.Txt (L2.H_ KX) mg t:=by
   dsimp only [L2.H_]
   refine' My.W8 KX G ?FU ?FW ?FY ?FZ (bq KX G ?X9) (L2.bO (st:=My.Ae) ?X_ ?Yb ?Yc) (bq KX G ?Yd) (L2.bO (st:=My.Af) ?Ye ?Yg ?Yh) (bq KX G ?Yi) (L2.bO (st:=My.Ag) ?Yj ?Yk ?Yl) (bq KX G ?Ym) (L2.bO (st:=My.Ah) ?Yn ?Yo ?Yp) (bq KX G ?Yq) (L2.bO (st:=My.Ai) ?Yr ?Ys ?Yt) (bq KX G ?Yu) (L2.bO (st:=My.Aj) ?Yv ?Yw ?Yx) (bq KX G ?Yy) (L2.bO (st:=My.Ak) ?Yz ?YA ?YB) (bq KX G ?YC) (L2.bO (st:=My.Al) ?YD ?YE ?YF) (bq KX G ?YG) (L2.bO (st:=My.Am) ?YH ?YI ?YJ) (bq KX G ?YK) (L2.bO (st:=My.An) ?YL ?YM ?YN) (bq KX G ?YO) (L2.bO (st:=My.Ao) ?YQ ?YR ?YS) (bq KX G ?YT) (L2.bO (st:=My.Ap) ?YU ?YV ?YW) (bq KX G ?YX) (L2.bO (st:=My.Aq) ?YY ?YZ ?Y0) (bq KX G ?Y3) (L2.bO (st:=My.Ar) ?Y4 ?Y5 ?Y6) (bq KX G ?Y7) (L2.bO (st:=My.As) ?Y8 ?Y9 ?Y_) (bq KX G ?Za) (L2.bO (st:=My.Au) ?Zb ?Zc ?Zd) (bq KX G ?Ze) (L2.bO (st:=My.Av) ?Zf ?Zg ?Zh) (bq KX G ?Zi) (L2.bO (st:=My.Aw) ?Zj ?Zk ?Zl) (bq KX G ?Zm) (L2.bO (st:=My.Ax) ?Zn ?Zo ?Zp) (bq KX G ?Zq) (L2.bO (st:=My.Ay) ?Zr ?Zs ?Zu) (bq KX G ?Zv) (L2.bO (st:=My.Az) ?Zw ?Zx ?Zy) (bq KX G ?Zz) (L2.bO (st:=My.AA) ?ZA ?ZC ?ZD) (bq KX G ?ZE) (L2.bO (st:=My.AB) ?ZF ?ZG ?ZH) (bq KX G ?ZI) (L2.bO (st:=My.AD) ?ZJ ?ZK ?ZL) (bq KX G ?ZM) (L2.bO (st:=My.AE) ?ZN ?ZO ?ZP) (bq KX G ?ZQ) (L2.bO (st:=My.AF) ?ZR ?ZS ?ZT) (bq KX G ?ZU) (L2.bO (st:=My.AG) ?ZV ?ZY ?ZZ) (bq KX G ?Z0) (L2.bO (st:=My.AH) ?Z1 ?Z2 ?Z3) (bq KX G ?Z4) (L2.bO (st:=My.AI) ?Z5 ?Z6 ?Z7) (bq KX G ?Z8) (L2.bO (st:=My.AJ) ?Z9 ?Z_ ?aaa) (bq KX G ?aab) (L2.bO (st:=My.AK) ?aac ?aad ?aae) (bq KX G ?aaf) (L2.bO (st:=My.AL) ?aag ?aah ?aai) (bq KX G ?aaj) (L2.bO (st:=My.AM) ?aak ?aal ?aam) (bq KX G ?aan) (L2.bO (st:=My.AN) ?aao ?aap ?aaq) (bq KX G ?aar) (L2.bO (st:=My.AO) ?aas ?aat ?aau) (bq KX G ?aav) (L2.bO (st:=My.AQ) ?aaw ?aax ?aay) (bq KX G ?aaz) (L2.bO (st:=My.AR) ?aaA ?aaB ?aaC) (bq KX G ?aaD) (L2.bO (st:=My.AS) ?aaE ?aaF ?aaG) (bq KX G ?aaH) (L2.bO (st:=My.AU) ?aaI ?aaJ ?aaK) (bq KX G ?aaL) (L2.bO (st:=My.AV) ?aaM ?aaN ?aaO) (bq KX G ?aaP) (L2.bO (st:=My.AW) ?aaQ ?aaR ?aaS) (bq KX G ?aaT) (L2.bO (st:=My.AX) ?aaU ?aaV ?aaW) (bq KX G ?aaX) (L2.bO (st:=My.AY) ?aaY ?aaZ ?aa0) (bq KX G ?aa1) (L2.bO (st:=My.AZ) ?aa2 ?aa3 ?aa4) (bq KX G ?aa5) (L2.bO (st:=My.A0) ?aa6 ?aa7 ?aa8) ⟨?aa9,?aa_,?aba,?abb⟩ (L2.bO (st:=My.A3) ?abc ?abd ?abe) ?F0 ?F4 ?vp ?vq ?rA ?vt ⟨?abf,?abg,?abh⟩ (L2.bO (st:=My.A4) ?abi ?abj ?abk) ⟨?abl,?abm,?abn⟩ (L2.bO (st:=My.A5) ?abo ?abp ?abq) ?F5 ?F6 ?F7 ?F8 ?F9 ?F_ ?Ga ?Gb ?Gd ?Ge ?Gf ?Gg ?Gh ?Gi ?Gj ?Gk ?Gm ?Gn ?Gp ?Gq ?Gr ?Gs ?Gu ?Gv ?Gw ?Gx
   (case FU|FW|FY|FZ|X9|X_|Yb|Yc|Yd|Ye|Yg|Yh|Yi|Yj|Yk|Yl|Ym|Yn|Yo|Yp|Yq|Yr|Ys|Yt|Yu|Yv|Yw|Yx|Yy|Yz|YA|YB|YC|YD|YE|YF|YG|YH|YI|YJ|YK|YL|YM|YN|YO|YQ|YR|YS|YT|YU|YV|YW|YX|YY|YZ|Y0|Y3|Y4|Y5|Y6|Y7|Y8|Y9|Y_|Za|Zb|Zc|Zd|Ze|Zf|Zg|Zh|Zi|Zj|Zk|Zl|Zm|Zn|Zo|Zp|Zq|Zr|Zs|Zu|Zv|Zw|Zx|Zy|Zz|ZA|ZC|ZD|ZE|ZF|ZG|ZH|ZI|ZJ|ZK|ZL|ZM|ZN|ZO|ZP|ZQ|ZR|ZS|ZT|ZU|ZV|ZY|ZZ|Z0|Z1|Z2|Z3|Z4|Z5|Z6|Z7|Z8|Z9|Z_|aaa|aab|aac|aad|aae|aaf|aag|aah|aai|aaj|aak|aal|aam|aan|aao|aap|aaq|aar|aas|aat|aau|aav|aaw|aax|aay|aaz|aaA|aaB|aaC|aaD|aaE|aaF|aaG|aaH|aaI|aaJ|aaK|aaL|aaM|aaN|aaO|aaP|aaQ|aaR|aaS|aaT|aaU|aaV|aaW|aaX|aaY|aaZ|aa0|aa1|aa2|aa3|aa4|aa5|aa6|aa7|aa8|aa9|aa_|aba|abb|abc|abd|abe|F0|F4|vp|vq|rA|vt|abf|abg|abh|abi|abj|abk|abl|abm|abn|abo|abp|abq|F5|F6|F7|F8|F9|F_|Ga|Gb|Gd|Ge|Gf|Gg|Gh|Gi|Gj|Gk|Gm|Gn|Gp|Gq|Gr|Gs|Gu=>k_is)
   (case Gv|Gw|Gx=>k_exc)
  obtain ⟨t,T⟩:=T
  have e0:=wj.symm.trans T.Ld
  cases e0
  exact My.W7 T
#print axioms PySem.Challenge.cw_bandwright_k63_backs_of_turned_rows_holds
