import PyProof.Rows.All
import Wide.All
import OpenK.AllK
import Wide.FinOn
import Lean
import PyProof.EqAt
import PyProof.EqKinds
import PyProof.TupleCall
import PySem.Challenge.RW_bandwright_k63_backs_of_turned_rows
set_option Elab.async false
set_option linter.all false
set_option maxRecDepth 100000
abbrev fS:=@decide_eq_false
abbrev vK:=@beq_eq_false_iff_ne
abbrev ar:=@if_pos
abbrev ao:=@if_neg
abbrev bV:=@PySem.Heap.lt_size
abbrev dQ:=@Nat.lt_of_lt_of_le
abbrev gg:=@Nat.lt_irrefl
abbrev d9:=@Nat.ne_of_lt
abbrev yy:=@PySem.W.hideAll_get
abbrev vL:=@List.mem_range
abbrev ae:=@Nat.le_trans
abbrev yz:=@List.filterMap_cons
abbrev kZ:=@List.mem_cons_self
abbrev gZ:=@List.mem_cons_of_mem
abbrev dR:=@List.mem_cons
abbrev ik:=@List.mem_append
abbrev cV:=@List.getElem?_eq_some_iff
abbrev vM:=@List.getElem?_set_self
abbrev vN:=@List.getElem?_set_ne
abbrev cm:=@PySem.wpAny_mono
abbrev k4:=@PySem.wpAny_truthy_bool
abbrev fT:=@congrArg
abbrev yA:=@PySem.wpAny_execs_nil
abbrev cC:=@PySem.wpAny_bind
abbrev vO:=@PySem.wpAny_standAt
abbrev d_:=@PySem.wpAny_pure
abbrev vP:=@PySem.wpAny_newObj_type
abbrev dj:=@PySem.Heap.get?_push_of_some
abbrev oA:=@PySem.wpAny_passesOwn
abbrev dk:=@Bool.false_ne_true
abbrev fU:=@Int.mul_one
abbrev gC:=@PySem.Heap.get?_push_size
abbrev aJ:=@Nat.le_refl
abbrev vQ:=@PyProof.Rows.callWith_type1
abbrev dS:=@List.mem_append_right
abbrev b9:=@Nat.zero_le
abbrev vR:=@Int.fdiv_eq_ediv_of_nonneg
abbrev vS:=@Bool.eq_iff_iff
abbrev jZ:=@beq_iff_eq
abbrev eQ:=@List.length_cons
abbrev yB:=@PySem.W.looks_findIn
abbrev rQ:=@List.map_cons
abbrev aT:=@List.length_map
abbrev iT:=@Nat.le_of_eq
abbrev il:=@PySem.W.kia_one
abbrev oB:=@List.append_nil
abbrev yC:=@PySem.wpAny_Call_Name_kw
abbrev yE:=@List.nodup_cons
abbrev rR:=@List.of_mem_zip
abbrev mD:=@List.length_take
abbrev j4:=@PySem.mem_of_lookup
abbrev g8:=@List.getElem?_append_right
abbrev k6:=@List.getElem?_replicate
abbrev ip:=@List.getElem?_append_left
abbrev fV:=@List.getElem?_map
abbrev Cf:=@List.getElem?_take_of_lt
abbrev jo:=@List.length_append
abbrev g9:=@List.length_replicate
abbrev dM:=@Int.toNat_natCast
abbrev dU:=@List.size_toArray
abbrev k7:=@List.replicate_succ
abbrev vT:=@List.flatten_cons
abbrev iq:=@List.append_assoc
abbrev Ci:=@List.length_singleton
abbrev fC:=@List.nil_append
abbrev jq:=@Nat.mul_comm
abbrev dG:=@decide_eq_true
abbrev bw:=@PySem.W.mg_of
abbrev gh:=@Nat.lt_of_le_of_lt
abbrev yF:=@Bool.and_eq_true
abbrev Cj:=@PySem.F.typeOf_object_class
abbrev vU:=@PySem.wpAny_loadPart_at
abbrev oC:=@Nat.not_lt_zero
abbrev vV:=@List.all_eq_true
abbrev rS:=@decide_eq_true_eq
abbrev yG:=@List.forall_mem_cons
abbrev yH:=@PySem.wpAny_comprehension_free
abbrev yI:=@PySem.wpAny_newFunctionEnv
abbrev iU:=@PySem.lookup_relabel_local
abbrev yJ:=@PySem.wpAny_tests_nil
abbrev yK:=@PySem.wpAny_tests_one
abbrev yL:=@PySem.codeAny_compStart_list
abbrev fD:=@List.getD_eq_getElem?_getD
abbrev iV:=@List.mem_singleton
abbrev gD:=@List.getElem_mem
abbrev Ck:=@Nat.gcd_pos_of_pos_right
abbrev gE:=@Int.natAbs_pos
abbrev dr:=@Nat.pow_le_pow_right
abbrev j6:=@Int.mul_le_mul_of_nonneg_left
abbrev cJ:=@Int.mul_zero
abbrev vW:=@Int.gcd_dvd_left
abbrev oE:=@Int.gcd_dvd_right
abbrev a8:=@Int.natAbs_mul
abbrev mE:=@Int.natAbs_ediv_le_natAbs
abbrev mF:=@Int.mul_ediv_cancel_left
abbrev iW:=@Int.dvd_refl
abbrev j7:=@Int.mul_comm
abbrev rT:=@Int.le_of_dvd
abbrev d4:=@Nat.mul_le_mul_left
abbrev Cm:=@Nat.le_of_mul_le_mul_right
abbrev Cn:=@Int.emod_add_mul_ediv
abbrev dN:=@Int.emod_lt_of_pos
abbrev dA:=@Int.emod_nonneg
abbrev jr:=@Int.dvd_trans
abbrev vX:=@Int.dvd_mul_right
abbrev j8:=@Int.mul_add
abbrev ir:=@Int.mul_assoc
abbrev vY:=@Int.mul_emod
abbrev mG:=@Int.emod_eq_of_lt
abbrev rV:=@Int.zero_sub
abbrev yM:=@Int.fdiv_eq_ediv_of_dvd
abbrev gF:=@Int.mul_neg
abbrev yN:=@Int.gcd_one_right
abbrev Co:=@Int.eq_of_mul_eq_mul_right
abbrev dB:=@Int.dvd_zero
abbrev Cp:=@Int.dvd_of_emod_eq_zero
abbrev k8:=@Nat.sub_self
abbrev j9:=@List.not_mem_nil
abbrev j_:=@or_false
abbrev oF:=@Nat.le_add_right
abbrev yO:=@PySem.Around.in1_units
abbrev Cq:=@List.getElem?_zip_eq_some
abbrev yP:=@List.ext_getElem?
abbrev k9:=@List.getElem?_eq_none
abbrev vZ:=@Int.dvd_mul_left
abbrev gi:=@Nat.mul_le_mul_right
abbrev gG:=@Int.zero_dvd
abbrev iX:=@List.cons_append
abbrev fE:=@List.mem_map
abbrev fF:=@Nat.pow_succ
abbrev jt:=@Int.zero_mul
abbrev oG:=@Int.add_zero
abbrev v_:=@Nat.zero_add
abbrev rX:=@Nat.pow_one
abbrev gH:=@Int.natAbs_pow
abbrev wa:=@Nat.eq_of_mul_eq_mul_left
abbrev ka:=@Nat.pow_pos
abbrev mH:=@Nat.mul_assoc
abbrev k_:=@Int.one_mul
abbrev rY:=@Nat.sub_zero
abbrev mI:=@List.length_eq_zero_iff
abbrev bH:=@Nat.mul_le_mul
abbrev Cr:=@Int.natAbs_dvd_natAbs
abbrev mJ:=@Nat.add_sub_cancel
abbrev rZ:=@List.map_append
abbrev wb:=@Int.natAbs_add_le
abbrev oH:=@Nat.add_le_add
abbrev mK:=@Int.mul_sub
abbrev ju:=@List.getElem_map
abbrev fW:=@Nat.le_mul_of_pos_right
abbrev yQ:=@List.length_zip
abbrev wc:=@Int.zero_add
abbrev yR:=@List.mem_replicate
abbrev oI:=@Nat.two_mul
abbrev r6:=@Int.mul_right_comm
abbrev iu:=@List.getElem_of_mem
abbrev wd:=@Int.pow_zero
abbrev we:=@Int.pow_succ
abbrev Cs:=@Classical.byContradiction
abbrev oJ:=@Int.sub_eq_zero
abbrev iY:=@List.length_pos_iff
abbrev fX:=@Nat.le_mul_of_pos_left
abbrev dm:=@of_decide_eq_true
abbrev yS:=@Nat.mod_eq_of_lt
abbrev eS:=@PySem.PassesOwn.never
abbrev cn:=@PySem.boot_len
abbrev r9:=@PySem.F.excBase_ValueError
abbrev wj:=@Int.ediv_nonneg
abbrev d5:=@List.set_cons_zero
abbrev d6:=@List.set_cons_succ
abbrev gI:=@List.length_range
abbrev gJ:=@PySem.W.mg_none_of
abbrev Yf:=List (List (Int×Int))
abbrev aK:=List (Int×Int)
abbrev Nr:=Nat→Nat→Int
abbrev dn:=PySem.Str→Option PySem.Value
abbrev b_:=PySem.Value→PySem.Shared→Prop
abbrev aF:=PySem.W.Frag
abbrev aZ:=List (PySem.Addr×PySem.Obj)
namespace L2
open PySem PySem.Spec PyProof.Rows
abbrev Key:=Sum Int Str
def GL:Key→Value→Bool
 | .inl k,v=>Value.isInt k v
 | .inr x,v=>Value.isStrOf x v
def Nt(w:World):Key→Int
 | .inl k=>hashInt k
 | .inr x=>hashStr w x
theorem lq:∀{k:Key} {v:Value},GL k v=true→(∃i t,k=Sum.inl i∧v=Value.int i t)∨(∃x t,k=Sum.inr x∧v=Value.str x t)
 | .inl i,v,h=>by obtain ⟨t,e⟩:=Value.isInt_shape (k:=i) (v:=v) h;exact .inl ⟨i,t,rfl,e⟩
 | .inr x,v,h=>by obtain ⟨t,e⟩:=Value.isStrOf_shape (x:=x) (v:=v) h;exact .inr ⟨x,t,rfl,e⟩
theorem Nu(a b:Int):decide ((Sum.inl a:Key)=Sum.inl b)=(a == b):=by
 by_cases e:a=b;·subst e;simp
 ·have h:¬(Sum.inl a:Key)=Sum.inl b:=fun q=>e (Sum.inl.inj q)
  rw [fS h];exact (vK.mpr e).symm
theorem Nv(a b:Str):decide ((Sum.inr a:Key)=Sum.inr b)=decide (a=b):=by
 by_cases e:a=b;·subst e;simp
 ·have h:¬(Sum.inr a:Key)=Sum.inr b:=fun q=>e (Sum.inr.inj q)
  rw [fS h,fS e]
theorem Nw(a:Int)(b:Str):decide ((Sum.inl a:Key)=Sum.inr b)=false:=fS (fun q=>nomatch q)
theorem Nx(a:Str)(b:Int):decide ((Sum.inr a:Key)=Sum.inl b)=false:=fS (fun q=>nomatch q)
def GN(prog:Program)(w:World):PySem.KeyKind prog w Key where
 is:=GL
 hash:=Nt w
 inj:=fun v a b ha hb=>by
  rcases lq ha with ⟨i,t,rfl,rfl⟩ | ⟨x,t,rfl,rfl⟩
  ·rcases lq hb with ⟨j,u,rfl,e⟩ | ⟨y,u,rfl,e⟩
   ·injection e with e1 _;rw [e1]
   ·exact nomatch e
  ·rcases lq hb with ⟨j,u,rfl,e⟩ | ⟨y,u,rfl,e⟩
   ·exact nomatch e
   ·injection e with e1 _;rw [e1]
 byValue:=fun k v h=>by
  rcases lq h with ⟨i,t,rfl,rfl⟩ | ⟨x,t,rfl,rfl⟩ <;> rfl
 pyHash:=fun hv h=>by
  rcases lq hv with ⟨i,t,rfl,rfl⟩ | ⟨x,t,rfl,rfl⟩
  ·exact wpAny_pyHash_int h
  ·exact wpAny_pyHash_str h
 eqBool:=fun hu hv h=>by
  rcases lq hu with ⟨i,t,rfl,rfl⟩ | ⟨x,t,rfl,rfl⟩
  ·rcases lq hv with ⟨j,u,rfl,rfl⟩ | ⟨y,u,rfl,rfl⟩
   ·rw [Nu] at h;exact wpAny_eqBool_int h
   ·rw [Nw] at h;exact SeqAt.EqAt.int_str i t y u _ _ _ _ h
  ·rcases lq hv with ⟨j,u,rfl,rfl⟩ | ⟨y,u,rfl,rfl⟩
   ·rw [Nx] at h;exact SeqAt.EqAt.str_int x t j u _ _ _ _ h
   ·rw [Nv] at h;exact wpAny_eqBool_str h
 «strs»:=fun k x t v h=>by
  rcases lq h with ⟨i,u,rfl,e⟩ | ⟨y,u,rfl,e⟩
  ·exact nomatch e
  ·injection e with e1 _
   subst e1
   cases v <;> rfl
inductive V where
 | aV | bl (b:Bool) | int (i:Int) | str (x:Str) | iZ (b:Array UInt8) | oK (b:UInt64) | ref (a:Addr) | ty (n:String)
 deriving DecidableEq
def RelV:V→Value→Prop
 | .aV,u=>u=Value.none
 | .bl b,u=>u=Value.bool b
 | .int i,u=>∃t,u=Value.int i t
 | .str x,u=>∃t,u=Value.str x t
 | .iZ b,u=>∃t,u=Value.bytes b t
 | .oK b,u=>∃t,u=Value.float b t
 | .ref a,u=>u=Value.ref a
 | .ty n,u=>u=Value.type n
abbrev Vals:List V→List Value→Prop:=Paired RelV
variable {xs:List V} {us:List Value}
theorem Vals.length(r:Vals xs us):xs.length=us.length:=Paired.length r
theorem Vals.get:∀{xs:List V} {us:List Value} {i:Nat} {x:V},Vals xs us→xs[i]?=some x→∃u,us[i]?=some u∧RelV x u
 | _,_,_,_,.nil,e=>by simp at e
 | _,_,0,_,.cons r _,e=>by simp at e;subst e;exact ⟨_,rfl,r⟩
 | _,_,i+1,x,.cons _ t,e=>by
  obtain ⟨u,h1,h2⟩:=Vals.get (i:=i) (x:=x) t (by simpa using e)
  exact ⟨u,by simpa using h1,h2⟩
theorem Vals.set{x:V}{u:Value}(r:RelV x u):∀{xs:List V} {us:List Value} (i:Nat),Vals xs us→Vals (xs.set i x) (us.set i u)
 | _,_,_,.nil=>.nil
 | _,_,0,.cons _ t=>.cons r t
 | _,_,i+1,.cons q t=>.cons q (Vals.set r i t)
theorem Vals.append:∀{xs ys:List V} {us ws:List Value},Vals xs us→Vals ys ws→Vals (xs++ys) (us++ws)
 | _,_,_,_,.nil,s=>s
 | _,_,_,_,.cons r t,s=>.cons r (Vals.append t s)
theorem Vals.take:∀{xs:List V} {us:List Value} (n:Nat),Vals xs us→Vals (xs.take n) (us.take n)
 | _,_,0,_=>.nil
 | _,_,_+1,.nil=>.nil
 | _,_,n+1,.cons r t=>.cons r (Vals.take n t)
theorem Vals.drop:∀{xs:List V} {us:List Value} (n:Nat),Vals xs us→Vals (xs.drop n) (us.drop n)
 | _,_,0,r=>r
 | _,_,_+1,.nil=>.nil
 | _,_,n+1,.cons _ t=>Vals.drop n t
theorem Vals.none_of:∀{xs:List V} {us:List Value} {i:Nat},Vals xs us→xs[i]?=none→us[i]?=none:=fun{xs us i} r e=>by have h1:=r.length;have h2:xs.length≤i:=List.getElem?_eq_none_iff.mp e;exact List.getElem?_eq_none_iff.mpr (by lia)
def ke:Option V→Option Value→Prop
 | some v,some u=>RelV v u
 | none,none=>True
 | _,_=>False
def KV{κ:Type}:List (κ×V)→List (κ×Value)→Prop:=Paired fun(p:κ×V) (q:κ×Value)=>p.1=q.1∧RelV p.2 q.2
def kV:Key→V
 | .inl i=>.int i
 | .inr x=>.str x
inductive HO where
 | lst (xs:List V)
 | tup (xs:List V)
 | dK (dH:List (Key×V)) | dT (dH:List (List Key×V))
 | set (S:Int→Bool) (n:Nat)
 | ins (C dx:Addr) (fs:List (Str×V))
 | own (x:Addr)
 | xd (fs:List (Str×V))
 | met (f x:Addr)
 | Ct (lo hi:Int)
 | gj (o:Obj) (u:HO)
 | lA (ps:Array Value)
 | ext (φ:Heap→Prop)
abbrev Hp:=Addr→Option HO
def upd(H:Hp)(a:Addr)(o:HO):Hp:=fun b=>if b=a then some o else H b
variable {H:Hp} {o:HO}
theorem av{a:Addr}:upd H a o a=some o:=by unfold upd;rw [ar rfl]
variable {b:Addr}
theorem b7{a:Addr}(h:b≠a):upd H a o b=H b:=by unfold upd;rw [ao h]
theorem fG{a:Addr}(h:H a=some o)(h':H b=none):a≠b:=by intro e;subst e;rw [h] at h';cases h'
section
variable (P:Program) (w:World)
def ej(H:Hp)(h:Heap)(a:Addr):HO→Prop
 | .lst xs=>xs.length≤sizeLine∧∃(aq:List Value) (n:Nat),Vals xs aq∧h.get? a=some {cls:=.type "list",data:=.seq aq.toArray n}
 | .tup xs=>xs.length≤sizeLine∧∃aq:List Value,Vals xs aq∧IsTup h a aq.toArray
 | .dK dH=>dH.length≤sizeLine∧(a == sysModules)=false∧∃vs,KV dH vs∧h.DictOf (GN P w) a vs
 | .dT dH=>dH.length≤sizeLine∧(a == sysModules)=false∧∃xs:List (List Key×Addr×Value),
   Paired (fun(p:List Key×V) (q:List Key×Addr×Value)=>p.1=q.1∧H q.2.1=some (.tup (p.1.map kV))∧RelV p.2 q.2.2) dH xs ∧
   ∃o es ep,h.get? a=some o∧o.ExactDict∧o.data=.dict es ep∧es.toList=xs.map (entryOfKey (tupleKind (GN P w)))∧(xs.map (·.1)).Nodup
 | .set S n=>h.SetOf (intKind P w) a S n
 | .ins C dx fs=>H dx=some (.own a)∧fs.length≤1000∧dx≠a∧h.get? a=some (PySem.W.instObj C dx) ∧
   ∃mA,h.Ns1 dx mA∧(∀f,ke (fs.lookup f) (mA f))∧PySem.Within mA (fs.map (·.1))
 | .own _=>∃o,h.get? a=some o
 | .xd fs=>∃mA,h.Ns1 a mA∧∀f,ke (fs.lookup f) (mA f)
 | .Ct lo hi=>∃t u v,h.get? a=some {cls:=.type "range",data:=.fields #[.int lo t,.int hi u,.int 1 v]}
 | .gj o u=>h.get? a=some o∧ej H h a u
 | .lA ps=>h.get? a=some {cls:=.none,data:=.fields ps}
 | .met f x=>h.get? a=some (PySem.W.methodObj (.ref f) (.ref x))
 | .ext φ=>φ h∧(∃o,h.get? a=some o)∧∀h1 h2:Heap,φ h1→(∀o,h1.get? a=some o→h2.get? a=some o)→φ h2
def cL(H:Hp)(h:Heap):Prop:=∀a o,H a=some o→ej P w H h a o
end
section
variable {P:Program} {w:World} {H H':Hp} {h h':Heap} {a:Addr} {o:HO}
theorem ej.lt(x:ej P w H h a o):a<h.objs.size:=by
 cases o with
 | lst xs=>obtain ⟨_,_,_,_,e⟩:=x;exact bV e
 | tup xs=>obtain ⟨_,_,_,p⟩:=x;exact p.lt
 | dK dH=>obtain ⟨_,_,_,_,o,_,_,e,_⟩:=x;exact bV e
 | dT dH=>obtain ⟨_,_,_,_,o,_,_,e,_⟩:=x;exact bV e
 | set S n=>obtain ⟨o,_,_,_,e,_⟩:=x;exact bV e
 | ins C dx fs=>obtain ⟨_,_,_,e,_⟩:=x;exact bV e
 | own y=>obtain ⟨_,e⟩:=x;exact bV e
 | xd fs=>obtain ⟨_,⟨_,_,_,e,_⟩,_⟩:=x;exact bV e
 | Ct lo hi=>obtain ⟨_,_,_,e⟩:=x;exact bV e
 | gj ob u=>obtain ⟨e,_⟩:=x;exact bV e
 | lA ps=>exact bV (show h.get? a=some _ from x)
 | met f y=>exact bV (show h.get? a=some _ from x)
 | ext φ=>obtain ⟨_,⟨_,e⟩,_⟩:=x;exact bV e
theorem Paired.GO{α β:Type}{F G:α→β→Prop}:∀{l₁:List α} {l₂:List β},Paired F l₁ l₂→(∀a b,F a b→G a b)→Paired G l₁ l₂
 | _,_,.nil,_=>.nil
 | _,_,.cons r t,f=>.cons (f _ _ r) (Paired.GO t f)
theorem ej.g_(x:ej P w H h a o)(k:∀b u,(b=a∨H b=some (.own a))→h.get? b=some u→h'.get? b=some u)
  (ho:∀b,H b=some (.own a)→H' b=some (.own a)) (ht:∀b xs,H b=some (.tup xs)→H' b=some (.tup xs)):ej P w H' h' a o:=by
 induction o with
 | lst xs=>obtain ⟨z,aq,n,r,e⟩:=x;exact ⟨z,aq,n,r,k _ _ (.inl rfl) e⟩
 | tup xs=>obtain ⟨z,aq,r,ob,e,c⟩:=x;exact ⟨z,aq,r,ob,k _ _ (.inl rfl) e,c⟩
 | dK dH=>obtain ⟨z,y,vs,r,ob,es,ep,e,c⟩:=x;exact ⟨z,y,vs,r,ob,es,ep,k _ _ (.inl rfl) e,c⟩
 | dT dH=>obtain ⟨z,y,xs,r,ob,es,ep,e,c⟩:=x;exact ⟨z,y,xs,Paired.GO r fun p q z=>⟨z.1,ht _ _ z.2.1,z.2.2⟩,ob,es,ep,k _ _ (.inl rfl) e,c⟩
 | set S n=>obtain ⟨ob,es,ep,t,e,c⟩:=x;exact ⟨ob,es,ep,t,k _ _ (.inl rfl) e,c⟩
 | ins C dx fs=>obtain ⟨d,z,ne,e,mA,⟨od,es,ep,e2,c⟩,r⟩:=x;exact ⟨ho _ d,z,ne,k _ _ (.inl rfl) e,mA,⟨od,es,ep,k _ _ (.inr d) e2,c⟩,r⟩
 | own y=>obtain ⟨ob,e⟩:=x;exact ⟨ob,k _ _ (.inl rfl) e⟩
 | xd fs=>obtain ⟨mA,⟨od,es,ep,e,c⟩,r⟩:=x;exact ⟨mA,⟨od,es,ep,k _ _ (.inl rfl) e,c⟩,r⟩
 | Ct lo hi=>obtain ⟨t,u,v,e⟩:=x;exact ⟨t,u,v,k _ _ (.inl rfl) e⟩
 | gj ob u ih=>obtain ⟨e,q⟩:=x;exact ⟨k _ _ (.inl rfl) e,ih q⟩
 | lA ps=>have e:h.get? a=some {cls:=.none,data:=.fields ps}:=x;show h'.get? a=some {cls:=.none,data:=.fields ps};exact k a _ (.inl rfl) e
 | met f y=>have e:h.get? a=some (PySem.W.methodObj (.ref f) (.ref y)):=x;show h'.get? a=some (PySem.W.methodObj (.ref f) (.ref y));exact k a _ (.inl rfl) e
 | ext φ=>obtain ⟨p,⟨o,e⟩,st⟩:=x;exact ⟨st _ _ p fun o q=>k _ _ (.inl rfl) q,⟨o,k _ _ (.inl rfl) e⟩,st⟩
theorem cL.lt(x:cL P w H h)(e:H a=some o):a<h.objs.size:=(x a o e).lt
theorem cL.fresh(x:cL P w H h)(e:h.objs.size≤a):H a=none:=by
 cases q:H a with
 | none=>rfl
 | some u=>exact absurd (dQ (x.lt q) e) (gg _)
theorem cL.kept(x:cL P w H h)(k:∀b u,h.get? b=some u→h'.get? b=some u):cL P w H h':=fun a o e=>(x a o e).g_ (fun b u _ q=>k b u q) (fun _ q=>q) fun _ _ q=>q
theorem cL.laid(x:cL P w H h)(k:∀b u,h.get? b=some u→h'.get? b=some u)(hp:h.objs.size≤a)(new:ej P w (upd H a o) h' a o):cL P w (upd H a o) h':=fun b u e=>by
 have hn:=x.fresh hp;by_cases hb:b=a;·subst hb;rw [av] at e;cases e;exact new
 ·rw [b7 hb] at e
  exact (x b u e).g_ (fun c v _ q=>k c v q) (fun c q=>by rw [b7 (fG q hn)];exact q) fun c xs q=>by rw [b7 (fG q hn)];exact q
end
def Rd(H:Hp)(a:Addr)(u:HO):Prop:=H a=some u∨∃o,H a=some (.gj o u)
variable {P:Program} {w:World} {h:Heap}
theorem Rd.ok{a:Addr}{u:HO}(r:Rd H a u)(x:cL P w H h):ej P w H h a u:=by
 rcases r with r | ⟨o,r⟩;·exact x a u r
 ·obtain ⟨_,q⟩:=x a _ r
  exact q
def yT:Option HO→Prop
 | some (.lst _)=>True
 | some (.dK _)=>True
 | some (.dT _)=>True
 | some (.set _ _)=>True
 | some (.ins _ _ _)=>True
 | some (.ext _)=>True
 | _=>False
section
variable {P:Program} {w:World} {H:Hp} {h h':Heap} {x e:Addr} {o':HO}
theorem cL.write(ok:cL P w H h)(mu:yT (H x))(he:e=x∨H e=some (.own x))(k:∀b u,b≠e→h.get? b=some u→h'.get? b=some u)(r_:∃u,h'.get? e=some u)
  (new:ej P w (upd H x o') h' x o'):cL P w (upd H x o') h':=fun b u q=>by
 have GP:∀c y,H c=some (.own y)→c≠x:=fun c y r z=>by subst z;rw [r] at mu;exact mu
 have Ny:∀c xs,H c=some (.tup xs)→c≠x:=fun c xs r z=>by subst z;rw [r] at mu;exact mu
 by_cases hb:b=x;·subst hb;rw [av] at q;cases q;exact new
 ·rw [b7 hb] at q
  by_cases oM:b=e
  ·have q':H b=some (.own x):=by
    rcases he with z | z;·exact absurd (oM.trans z) hb
    ·rw [oM];exact z
   rw [q] at q';cases q';obtain ⟨v,hv⟩:=r_;exact ⟨v,by rw [oM];exact hv⟩
  ·refine (ok b u q).g_ (fun c v hc r=>k c v ?_ r) (fun c r=>by rw [b7 (GP c b r)];exact r) fun c xs r=>by rw [b7 (Ny c xs r)];exact r
   rcases hc with rfl | hc;·exact oM
   ·rintro rfl
    rcases he with z | z;·exact GP c b hc z
    ·rw [hc] at z;cases z;exact hb rfl
end
structure Un (fs ex:List Addr) (H H':Hp) (h h':Heap):Prop where
 keep:∀b o,h.get? b=some o→H b=none→b∉fs→b∉ex→h'.get? b=some o
 slot:∀b o,h.get? b=some o→H b=none→b∈fs→b∉ex→∃sl,h'.get? b=some {o with slots:=sl}
 free:∀b o,h.get? b=some o→H b=none→b∉ex→H' b=none
 there:∀b o,h.get? b=some o→b∉ex→∃o',h'.get? b=some o'
 gk:∀b xs,H b=some (.tup xs)→H' b=some (.tup xs)
 fY:∀b o u,H b=some (.gj o u)→H' b=some (.gj o u)
 gq:∀b ps,H b=some (.lA ps)→∃more,H' b=some (.lA (ps++more))
section
variable {fs Nz ex mM:List Addr} {H H1 H2:Hp} {h h1 h2 h':Heap} {a x e:Addr} {o:HO}
theorem Un.any(u:Un fs ex H H1 h h1){ob:Obj}(q:h.get? b=some ob)(n:H b=none)(hx:b∉ex):∃sl,h1.get? b=some {ob with slots:=sl}:=by
 by_cases hb:b∈fs;·exact u.slot b ob q n hb hx
 ·exact ⟨ob.slots,u.keep b ob q n hb hx⟩
theorem Un.kept(k:∀b u,h.get? b=some u→h'.get? b=some u):Un fs ex H H h h':=
 ⟨fun b ob q _ _ _=>k b ob q,fun b ob q _ _ _=>⟨ob.slots,k b ob q⟩,fun _ _ _ n _=>n,fun b ob q _=>⟨ob,k b ob q⟩,fun _ _ q=>q,fun _ _ _ q=>q,fun _ ps q=>⟨#[],by rw [q];simp⟩⟩
theorem Un.refl:Un fs ex H H h h:=Un.kept fun _ _ q=>q
theorem Un.laid(k:∀b u,h.get? b=some u→h'.get? b=some u)(hp:h.objs.size≤a)(hn:H a=none):Un fs ex H (upd H a o) h h' where
 keep:=fun b u q _ _ _=>k b u q
 slot:=fun b u q _ _ _=>⟨u.slots,k b u q⟩
 free:=fun b u q n _=>by rw [b7 (d9 (dQ (bV q) hp))];exact n
 there:=fun b u q _=>⟨u,k b u q⟩
 gk:=fun b xs q=>by rw [b7 (fG q hn)];exact q
 fY:=fun b u xs q=>by rw [b7 (fG q hn)];exact q
 gq:=fun b ps q=>⟨#[],by rw [b7 (fG q hn),q];simp⟩
theorem Un.write(mu:yT (H x))(he:e=x∨H e=some (.own x))(k:∀b u,b≠e→h.get? b=some u→h'.get? b=some u)(r_:∃u,h'.get? e=some u):Un fs ex H (upd H x o) h h':=by
 have hx:∀b,H b=none→b≠x:=fun b n z=>by subst z;rw [n] at mu;exact mu
 have hb:∀b,H b=none→b≠e:=fun b n z=>by
  subst z;rcases he with r | r;·exact hx b n r
  ·rw [n] at r;cases r
 have hm:∀b u,H b=some u→¬yT (some u)→b≠x:=fun b u q nm z=>by subst z;rw [q] at mu;exact nm mu
 refine ⟨fun b u q n _ _=>k b u (hb b n) q,fun b u q n _ _=>⟨u.slots,k b u (hb b n) q⟩,fun b u q n _=>by rw [b7 (hx b n)];exact n,fun b u q _=>?_,
  fun b xs q=>by rw [b7 (hm b _ q fun z=>z)];exact q,fun b u xs q=>by rw [b7 (hm b _ q fun z=>z)];exact q,fun b ps q=>⟨#[],by rw [b7 (hm b _ q fun z=>z),q];simp⟩⟩
 by_cases oM:b=e;·subst oM;exact r_
 ·exact ⟨u,k b u oM q⟩
end
def yU(h:Heap)(H:Hp):List Addr:=(List.range h.objs.size).filter fun a=>(H a).isSome
def lB(h:Heap)(H:Hp):Heap:=PySem.W.hideAll h (yU h H)
theorem NA(h:Heap)(H:Hp):(lB h H).objs.size=h.objs.size:=PySem.W.hideAll_size _ _
theorem NB{o:Obj}(e:h.get? b=some o)(n:H b=none):(lB h H).get? b=some o:=
 yy _ e fun hm=>by have q:(H b).isSome=true:=(List.mem_filter.mp hm).2;rw [n] at q;simp at q
theorem NC{o:Obj}(e:(lB h H).get? b=some o):h.get? b=some o∧H b=none:=by
 have e':h.get? b=some o:=PySem.W.of_hideAll (yU h H) e;refine ⟨e',?_⟩;cases q:H b with
 | none=>rfl
 | some x=>
  have hm:b∈yU h H:=List.mem_filter.mpr ⟨vL.mpr (bV e'),by simp [q]⟩
  have z:(lB h H).get? b=none:=PySem.W.hideAll_none (yU h H) hm;rw [z] at e;cases e
structure Mod (K:aF) (mg:dn) (base:Heap):Prop where
 cT:K.In base
 glob:base.Ns mainGlobals mg
 blt:∃mb,base.Ns builtinsNs mb∧∀x:Str,x ≠ "__name__"→mb x=bootBuiltins x
 nolimit:base.NoLimit
structure Cx where
 prog:Program
 w:World
 K:PySem.W.Frag
 mg:Str→Option Value
 base:Heap
 A:Around
 N:List Str
 s₀:Shared
 H₀:Hp
 env:Env
 outer:List Env
 stack:List Env
 ex:List Addr
 fn:Str→Bool
 calm:Bool
 pn:List (Addr×Obj)
 xe:Value→Shared→Prop
def cD(l:List Env):List Addr:=l.filterMap (·.frame)
abbrev Cx.fs (X:Cx):List Addr:=cD X.outer
def mO(sc:Scope)(x:Str):Prop:=sc.names.lookup x=some .local∨sc.names.lookup x=some .cell∨sc.names.lookup x=some .free
def Loc(sc:Scope)(x:Str):Prop:=sc.names.lookup x=some .local∨sc.names.lookup x=some .cell
def Look(env:Env)(h:Heap)(m:dn)(x:Str)(u:Value):Prop:=
 (env.kindOf x=some .local∧m x=some u)∨((env.kindOf x=some .cell∨env.kindOf x=some .free)∧∃c,env.cells.lookup x=some c∧h.IsCell c (some u))
structure Cx.Ok (X:Cx):Prop where
 mod:Mod X.K X.mg X.base
 kind:X.env.scope.kind=.function
 glob:X.env.globals=mainGlobals
 blt:X.env.builtins=builtinsNs
 above:X.s₀.heap.objs.size≤X.env.locals
 inj:∀x y c,X.env.cells.lookup x=some c→X.env.cells.lookup y=some c→x=y
 has:∀x,(X.env.kindOf x=some .cell∨X.env.kindOf x=some .free)→∃c,X.env.cells.lookup x=some c
 wk:∀x c,X.fn x=true→X.env.cells.lookup x=some c→X.s₀.heap.objs.size≤c
 hd:X.calm=true→X.A.handled=none
 frames:X.A.frames=some X.stack
 iw:X.stack=X.outer∨(X.stack=X.env::X.outer∧X.env.frame=some X.env.locals)
 GQ:∀b∈X.ex,b≠X.env.locals∧∀x c,X.env.cells.lookup x=some c→c≠b
 bs:∀b o,X.base.get? b=some o→X.s₀.heap.get? b=some o∧X.H₀ b=none
 gK:X.base.objs.size≤X.s₀.heap.objs.size
 mP:∀b o,X.base.get? b=some o→b∉X.ex
 mQ:∀b∈X.ex,b∉X.fs
 i3:X.s₀.heap.FunFrames X.base X.outer
 lC:∀b∈X.fs,X.H₀ b=none
structure Inv (X:Cx) (pins:aZ) (σ:List (Option V)) (H:Hp) (s:Shared):Prop where
 ok:X.Ok
 os:s.os=X.s₀.os
 bare:AllBare s.gens
 base:Un X.fs X.ex X.H₀ H X.s₀.heap s.heap
 loc:∃m,s.heap.Ns X.env.locals m∧∀(i:Nat) (x:Str) (v:V),X.N[i]?=some x→σ[i]?=some (some v)→mO X.env.scope x→∃u,RelV v u∧Look X.env s.heap m x u
 cell:∀x c,X.env.cells.lookup x=some c→∃v,s.heap.IsCell c v
 free:H X.env.locals=none
 ix:∀x c,X.env.cells.lookup x=some c→H c=none
 pin:∀p∈X.pn++pins,s.heap.get? p.1=some p.2∧H p.1=none∧p.1≠X.env.locals∧p.1∉X.fs∧∀v,p.2.data≠.cell v
 aC:cL X.prog X.w H s.heap
 len:σ.length=X.N.length
section
variable {X:Cx} {pins:aZ} {σ:List (Option V)} {H H':Hp} {s:Shared} {h':Heap}
theorem Cx.Ok.ND(ok:X.Ok){o:Obj}(e:X.base.get? b=some o):b∉X.fs:=fun hb=>by have:=(ok.i3.mem hb).1;rw [e] at this;cases this
theorem Inv.bs(I:Inv X pins σ H s):∀b o,X.base.get? b=some o→s.heap.get? b=some o∧H b=none:=fun b o e=>⟨I.base.keep b o (I.ok.bs b o e).1 (I.ok.bs b o e).2 (I.ok.ND e) (I.ok.mP b o e),I.base.free b o (I.ok.bs b o e).1 (I.ok.bs b o e).2 (I.ok.mP b o e)⟩
theorem Inv.bk(I:Inv X pins σ H s):∀b o,X.base.get? b=some o→s.heap.get? b=some o:=fun b o e=>(I.bs b o e).1
theorem Inv.mod(I:Inv X pins σ H s):Mod X.K X.mg X.base:=I.ok.mod
theorem Inv.dC(I:Inv X pins σ H s):X.K.In s.heap:=I.ok.mod.cT.keeps I.bk
theorem Inv.lt(I:Inv X pins σ H s):X.env.locals<s.heap.objs.size:=let ⟨_,hn,_⟩:=I.loc;hn.lt
theorem Inv.sz(I:Inv X pins σ H s):X.s₀.heap.objs.size≤s.heap.objs.size:=ae I.ok.above (Nat.le_of_lt I.lt)
theorem Inv.NF(I:Inv X pins σ H s){a:Addr}(h:s.heap.objs.size≤a):a∉X.fs:=fun hb=>by obtain ⟨_,o,ho,_⟩:=I.ok.i3.mem hb;exact absurd (dQ (bV ho) (ae I.sz h)) (gg _)
theorem Inv.oN(I:Inv X pins σ H s):∀x c,X.env.cells.lookup x=some c→c≠X.env.locals:=fun x c e z=>by obtain ⟨v,o,ho,hd⟩:=I.cell x c e;obtain ⟨m,⟨o',es,ep,jv,lD,_⟩,_⟩:=I.loc;rw [z,jv] at ho;cases ho;rw [lD] at hd;cases hd
theorem Inv.i3(I:Inv X pins σ H s):s.heap.FunFrames X.base X.outer:=by
 have all:∀(l:List Env),(∀b∈cD l,b∈X.fs)→X.s₀.heap.FunFrames X.base l→s.heap.FunFrames X.base l:=by
  intro l
  induction l with
  | nil=>intro _ _;trivial
  | cons env r ih=>
   intro hs hl;obtain ⟨hk,⟨L,o,hf,hn,ho,hd⟩,hr⟩:=hl;have hL:L∈X.fs:=hs L (by unfold cD;rw [yz,hf];exact kZ)
   obtain ⟨sl,e⟩:=I.base.slot L o ho (I.ok.lC L hL) hL fun z=>I.ok.mQ L z hL;exact ⟨hk,⟨L,_,hf,hn,e,hd⟩,ih (fun b hb=>hs b (by unfold cD;rw [yz,hf];exact gZ _ hb)) hr⟩
 exact all X.outer (fun _ hb=>hb) I.ok.i3
theorem Inv.stack(I:Inv X pins σ H s):s.heap.FunFrames X.base X.stack:=by
 rcases I.ok.iw with e | ⟨e,hf⟩;·rw [e];exact I.i3
 ·rw [e]
  obtain ⟨m,hn,_⟩:=I.loc;refine .cons (by rw [I.ok.kind];decide) hf hn ?_ I.i3
  exact Heap.get?_none_of_le (ae I.ok.gK I.ok.above)
theorem Inv.si(I:Inv X pins σ H s):∀b∈cD X.stack,b∈X.env.locals::X.fs:=fun b hb=>by
 rcases I.ok.iw with e | ⟨e,hf⟩;·rw [e] at hb;exact gZ _ hb
 ·rw [e] at hb
  unfold cD at hb;rw [yz,hf] at hb;exact hb
theorem Inv.so(I:Inv X pins σ H s):∀b∈cD X.stack,H b=none:=fun b hb=>by
 rcases dR.mp (I.si b hb) with e | hb;·rw [e];exact I.free
 ·obtain ⟨_,o,ho,_⟩:=I.ok.i3.mem hb
  exact I.base.free b o ho (I.ok.lC b hb) fun z=>I.ok.mQ b z hb
variable {g':Array GenState} {t':Nat} {d':Drawn} {ch:List Addr}
theorem Inv.step(I:Inv X pins σ H s)
  (kf:∀b∈ch,(b∈X.ex∨X.s₀.heap.objs.size≤b)∧b≠X.env.locals∧(∀x c,X.env.cells.lookup x=some c→c≠b)∧∀p∈X.pn++pins,p.1≠b)
  (keep:∀b o,b≠X.env.locals→b∉X.fs→b∉ch→s.heap.get? b=some o→H b=none→h'.get? b=some o)
  (slot:∀b o,b≠X.env.locals→b∈X.fs→b∉ch→s.heap.get? b=some o→H b=none→∃sl,h'.get? b=some {o with slots:=sl}) (free:∀b o,b∉ch→s.heap.get? b=some o→H b=none→H' b=none)
  (there:∀b o,b∉ch→s.heap.get? b=some o→∃o',h'.get? b=some o')
  (gk:∀b xs,H b=some (.tup xs)→H' b=some (.tup xs)) (fY:∀b o u,H b=some (.gj o u)→H' b=some (.gj o u)) (gq:∀b ps,H b=some (.lA ps)→∃more,H' b=some (.lA (ps++more)))
  (ns:∀m,s.heap.Ns X.env.locals m→h'.Ns X.env.locals m) (aC:cL X.prog X.w H' h') (hg:AllBare g') :
  Inv X pins σ H' {s with heap:=h',gens:=g',drawn:=d',toks:=t'}:=by
 have GR:∀b o,X.s₀.heap.get? b=some o→b≠X.env.locals:=fun b o e=>d9 (dQ (bV e) I.ok.above);have yV:∀b o,X.s₀.heap.get? b=some o→b∉X.ex→b∉ch:=fun b o e hx hb=>by
  rcases (kf b hb).1 with z | z;·exact hx z
  ·exact absurd (dQ (bV e) z) (gg _)
 have cellK:∀x c,X.env.cells.lookup x=some c→∀v,s.heap.IsCell c v→h'.IsCell c v:=fun x c e v ⟨o,ho,hd⟩=>by
  have wm:c∉ch:=fun z=>(kf c z).2.2.1 x c e rfl;by_cases hc:c∈X.fs
  ·obtain ⟨sl,q⟩:=slot c o (I.oN x c e) hc wm ho (I.ix x c e)
   exact ⟨_,q,hd⟩
  ·exact ⟨o,keep c o (I.oN x c e) hc wm ho (I.ix x c e),hd⟩
 refine ⟨I.ok,I.os,hg,⟨fun b o e n hb hx=>?_,fun b o e n hb hx=>?_,fun b o e n hx=>?_,fun b o e hx=>?_,fun b xs e=>gk b xs (I.base.gk b xs e),fun b o xs e=>fY b o xs (I.base.fY b o xs e),fun b ps e=>?_⟩,?_,fun x c e=>?_,?_,fun x c e=>?_,fun p hp=>?_,aC,I.len⟩;·exact keep b o (GR b o e) hb (yV b o e hx) (I.base.keep b o e n hb hx) (I.base.free b o e n hx)
 ·obtain ⟨sl,e1⟩:=I.base.slot b o e n hb hx
  obtain ⟨Cu,e2⟩:=slot b _ (GR b o e) hb (yV b o e hx) e1 (I.base.free b o e n hx);exact ⟨Cu,e2⟩
 ·obtain ⟨o',e1⟩:=I.base.there b o e hx
  exact free b o' (yV b o e hx) e1 (I.base.free b o e n hx)
 ·obtain ⟨o',e1⟩:=I.base.there b o e hx
  exact there b o' (yV b o e hx) e1
 ·obtain ⟨m1,e1⟩:=I.base.gq b ps e
  obtain ⟨m2,e2⟩:=gq b _ e1;exact ⟨m1++m2,by rw [e2,Array.append_assoc]⟩
 ·obtain ⟨m,hn,hl⟩:=I.loc
  refine ⟨m,ns m hn,fun i x v e1 e2 e3=>?_⟩;obtain ⟨u,r,l⟩:=hl i x v e1 e2 e3;refine ⟨u,r,?_⟩;rcases l with l | ⟨k,c,e,z⟩;·exact .inl l
  ·exact .inr ⟨k,c,e,cellK x c e _ z⟩
 ·obtain ⟨v,z⟩:=I.cell x c e
  exact ⟨v,cellK x c e v z⟩
 ·obtain ⟨m,⟨o,_,_,ho,_⟩,_⟩:=I.loc
  exact free _ o (fun z=>(kf _ z).2.1 rfl) ho I.free
 ·obtain ⟨v,o,ho,hd⟩:=I.cell x c e
  exact free c o (fun z=>(kf c z).2.2.1 x c e rfl) ho (I.ix x c e)
 ·obtain ⟨e,n,ne,nf,d⟩:=I.pin p hp
  have wm:p.1∉ch:=fun z=>(kf p.1 z).2.2.2 p hp rfl;exact ⟨keep p.1 p.2 ne nf wm e n,free p.1 p.2 wm e n,ne,nf,d⟩
theorem Inv.un(I:Inv X pins σ H s)(u:Un X.fs [] H H' s.heap h')(aC:cL X.prog X.w H' h'):Inv X pins σ H' {s with heap:=h',toks:=t'}:=by
 obtain ⟨m,⟨o,es,ep,ho,r⟩,_⟩:=id I.loc;obtain ⟨sl,hL⟩:=u.any ho I.free (by simp)
 exact I.step (g':=s.gens) (d':=s.drawn) (ch:=[]) (fun _ z=>nomatch z) (fun b o _ hb _ e n=>u.keep b o e n hb (by simp)) (fun b o _ hb _ e n=>u.slot b o e n hb (by simp)) (fun b o _ e n=>u.free b o e n (by simp)) (fun b o _ e=>u.there b o e (by simp)) u.gk u.fY u.gq (fun m' hm=>by obtain ⟨o',Cv,Cw,jv,r'⟩:=hm;rw [ho] at jv;cases jv;exact ⟨_,Cv,Cw,hL,r'⟩) aC I.bare
theorem Inv.call(I:Inv X pins σ H s)(u:Un (cD X.stack) ch H H' s.heap h')(aC:cL X.prog X.w H' h')(hg:AllBare g')
  (kf:∀b∈ch,(b∈X.ex∨X.s₀.heap.objs.size≤b)∧b≠X.env.locals∧(∀x c,X.env.cells.lookup x=some c→c≠b)∧∀p∈X.pn++pins,p.1≠b) :
  Inv X pins σ H' {s with heap:=h',gens:=g',drawn:=d',toks:=t'}:=by
 obtain ⟨m,⟨o,es,ep,ho,r⟩,_⟩:=id I.loc;obtain ⟨sl,hL⟩:=u.any ho I.free fun z=>(kf _ z).2.1 rfl;exact I.step (ch:=ch) kf (fun b o hL hb hc e n=>u.keep b o e n (fun z=>(dR.mp (I.si b z)).elim hL hb) hc) (fun b o _ _ hc e n=>u.any e n hc) (fun b o hc e n=>u.free b o e n hc) (fun b o hc e=>u.there b o e hc) u.gk u.fY u.gq (fun m' hm=>by obtain ⟨o',Cv,Cw,jv,r'⟩:=hm;rw [ho] at jv;cases jv;exact ⟨_,Cv,Cw,hL,r'⟩) aC hg
theorem Inv.turned{it:Addr}(I:Inv X pins σ H s)(k:∀b o,b≠it→s.heap.get? b=some o→h'.get? b=some o)(hn:H it=none)(hL:it≠X.env.locals)
  (h1:it∈X.ex∨X.s₀.heap.objs.size≤it) (h2:∀x c,X.env.cells.lookup x=some c→c≠it) (h3:∀p∈X.pn++pins,p.1≠it):Inv X pins σ H {s with heap:=h',toks:=t'}:=by
 have GS:∀b u,H b=some u→b≠it:=fun b u e z=>by rw [z,hn] at e;cases e
 refine I.step (g':=s.gens) (d':=s.drawn) (ch:=[it]) (fun b hb=>?_) (fun b o _ _ hc e _=>k b o (fun z=>hc (by simp [z])) e) (fun b o _ _ hc e _=>⟨o.slots,k b o (fun z=>hc (by simp [z])) e⟩) (fun _ _ _ _ n=>n)
  (fun b o hc e=>⟨o,k b o (fun z=>hc (by simp [z])) e⟩) (fun _ _ e=>e) (fun _ _ _ e=>e) (fun b ps e=>⟨#[],by rw [e];simp⟩) (fun m hm=>?_) (fun b u e=>?_) I.bare
 ·have e:b=it:=by simpa using hb
  subst e;exact ⟨h1,hL,h2,h3⟩
 ·obtain ⟨o,es,ep,ho,r⟩:=hm
  exact ⟨o,es,ep,k _ o (Ne.symm hL) ho,r⟩
 ·refine (I.aC b u e).g_ (fun c v hc q=>k c v ?_ q) (fun _ q=>q) fun _ _ q=>q
  rcases hc with z | z;·rw [z];exact GS b u e
  ·exact GS c _ z
theorem Inv.tok(I:Inv X pins σ H s)(t:Nat):Inv X pins σ H {s with toks:=t}:=I.un (h':=s.heap) (t':=t) Un.refl I.aC
theorem Inv.kept(I:Inv X pins σ H s)(k:∀b u,s.heap.get? b=some u→h'.get? b=some u):Inv X pins σ H {s with heap:=h',toks:=t'}:=I.un (Un.kept k) (I.aC.kept k)
theorem Inv.laid{a:Addr}(I:Inv X pins σ H s)(k:∀b u,s.heap.get? b=some u→h'.get? b=some u)(hp:s.heap.objs.size≤a)(new:ej X.prog X.w (upd H a o) h' a o) :
  Inv X pins σ (upd H a o) {s with heap:=h',toks:=t'}:=I.un (Un.laid k hp (I.aC.fresh hp)) (I.aC.laid k hp new)
theorem Inv.write{x e:Addr}(I:Inv X pins σ H s)(mu:yT (H x))(he:e=x∨H e=some (.own x))(k:∀b u,b≠e→s.heap.get? b=some u→h'.get? b=some u)(r_:∃u,h'.get? e=some u)
  (new:ej X.prog X.w (upd H x o) h' x o):Inv X pins σ (upd H x o) {s with heap:=h',toks:=t'}:=I.un (Un.write mu he k r_) (I.aC.write mu he k r_ new)
theorem Inv.GU{GV:aZ}(I:Inv X pins σ H s)(h:∀p∈GV,s.heap.get? p.1=some p.2∧H p.1=none∧p.1≠X.env.locals∧p.1∉X.fs∧∀v,p.2.data≠.cell v):Inv X GV σ H s:=
 ⟨I.ok,I.os,I.bare,I.base,I.loc,I.cell,I.free,I.ix,fun p hp=>(ik.mp hp).elim (fun z=>I.pin p (List.mem_append_left _ z)) (h p),I.aC,I.len⟩
variable {i:Nat} {x:Str}
theorem GW{N:List Str}(hN:N.Nodup){j:Nat}(a:N[i]?=some x)(b:N[j]?=some x):i=j:=by obtain ⟨h1,e1⟩:=cV.mp a;obtain ⟨h2,e2⟩:=cV.mp b;exact (List.getElem_inj hN).mp (e1.trans e2.symm)
variable {M:Model} {A:Around} {E:b_} {v:V} {Q:Unit→Shared→Prop}
theorem Cy{u:Value}(I:Inv X pins σ H s)(hN:X.N.Nodup)(hi:X.N[i]?=some x)(hx:Loc X.env.scope x)(r:RelV v u)
  (h:∀s',Inv X pins (σ.set i (some v)) H s'→(∃a,Heap.SameBut a s.heap s'.heap∧(a=X.env.locals∨X.env.cells.lookup x=some a))→Q () s') (hf:X.fn x=true∨X.env.scope.names.lookup x=some .local:=by first | exact .inl rfl | exact .inr rfl | assumption):wpAny M A (storeName X.env x u) Q E s:=by
 obtain ⟨m,hn,hl⟩:=id I.loc;have NG:(X.env.scope.kind == .class || (X.env.scope.kind == .module && X.env.locals != X.env.globals))=false:=by rw [I.ok.kind];rfl
 have GX:i<σ.length:=by rw [I.len];exact (cV.mp hi).1
 have oN:=I.oN;have tracked:∀{a:Addr} {h':Heap},(∃o,s.heap.get? a=some o∧H a=none)→Heap.SameBut a s.heap h'→cL X.prog X.w H h':=fun{a h'} ha hs b ob e=>by
  obtain ⟨_,_,GY⟩:=ha;refine (I.aC b ob e).g_ (fun c w' hc q=>(hs.2 c ?_).trans q) (fun _ q=>q) fun _ _ q=>q;rintro rfl;rcases hc with rfl | hc;·rw [GY] at e;cases e
  ·rw [GY] at hc;cases hc
 rcases hx with hk | hk
 ·refine wpAny_storeName_local hk hn (fun h' NH hs=>?_) NG
  obtain ⟨oL,_,_,NI,_⟩:=id hn;refine h _ ⟨I.ok,I.os,I.bare,⟨fun b o e n hb hx=>?_,fun b o e n hb hx=>?_,I.base.free,fun b o e hx=>?_,I.base.gk,I.base.fY,I.base.gq⟩,⟨_,NH,fun j y v' e1 e2 e3=>?_⟩,fun y c e=>?_,I.free,I.ix,fun p hp=>?_,tracked ⟨oL,NI,I.free⟩ hs,by simpa using I.len⟩ ⟨_,hs,.inl rfl⟩
  ·exact (hs.2 b (d9 (dQ (bV e) I.ok.above))).trans (I.base.keep b o e n hb hx)
  ·obtain ⟨sl,e1⟩:=I.base.slot b o e n hb hx
   exact ⟨sl,(hs.2 b (d9 (dQ (bV e) I.ok.above))).trans e1⟩
  ·obtain ⟨o',e1⟩:=I.base.there b o e hx
   exact ⟨o',(hs.2 b (d9 (dQ (bV e) I.ok.above))).trans e1⟩
  ·by_cases hj:j=i
   ·subst hj
    rw [hi] at e1;cases e1;rw [vM GX] at e2;cases e2;exact ⟨u,r,.inl ⟨hk,by simp⟩⟩
   ·rw [vN (Ne.symm hj)] at e2
    obtain ⟨u',r',q⟩:=hl j y v' e1 e2 e3;refine ⟨u',r',?_⟩;rcases q with ⟨k,e⟩ | ⟨k,c,e,z⟩
    ·refine .inl ⟨k,?_⟩
     have:y≠x:=fun e=>hj (GW hN e1 (e▸hi));simp [this,e]
    ·exact .inr ⟨k,c,e,z.sameBut hs (oN y c e)⟩
  ·obtain ⟨w',z⟩:=I.cell y c e
   exact ⟨w',z.sameBut hs (oN y c e)⟩
  ·obtain ⟨e,n,ne,nf,d⟩:=I.pin p hp
   exact ⟨(hs.2 p.1 ne).trans e,n,ne,nf,d⟩
 ·have Cz:X.fn x=true:=by
   rcases hf with z | z;·exact z
   ·rw [z] at hk;cases hk
  obtain ⟨c,hc⟩:=I.ok.has x (.inl hk);obtain ⟨w',z⟩:=I.cell x c hc;refine wpAny_storeName_cell I.ok.kind hk hc z (fun h' d7 hs=>?_);obtain ⟨oc,GZ,NJ⟩:=id z;refine h {s with heap:=h'} ⟨I.ok,I.os,I.bare,⟨fun b o e n hb hx=>?_,fun b o e n hb hx=>?_,I.base.free,fun b o e hx=>?_,I.base.gk,I.base.fY,I.base.gq⟩,⟨m,hn.sameBut hs (Ne.symm (oN x c hc)),fun j y v' e1 e2 e3=>?_⟩,fun y c' e=>?_,I.free,I.ix,fun p hp=>?_,tracked ⟨oc,GZ,I.ix x c hc⟩ hs,by simpa using I.len⟩ ⟨c,hs,.inr hc⟩
  ·exact (hs.2 b (d9 (dQ (bV e) (I.ok.wk x c Cz hc)))).trans (I.base.keep b o e n hb hx)
  ·obtain ⟨sl,e1⟩:=I.base.slot b o e n hb hx
   exact ⟨sl,(hs.2 b (d9 (dQ (bV e) (I.ok.wk x c Cz hc)))).trans e1⟩
  ·obtain ⟨o',e1⟩:=I.base.there b o e hx
   exact ⟨o',(hs.2 b (d9 (dQ (bV e) (I.ok.wk x c Cz hc)))).trans e1⟩
  ·by_cases hj:j=i
   ·subst hj
    rw [hi] at e1;cases e1;rw [vM GX] at e2;cases e2;exact ⟨u,r,.inr ⟨.inl hk,c,hc,d7⟩⟩
   ·rw [vN (Ne.symm hj)] at e2
    obtain ⟨u',r',q⟩:=hl j y v' e1 e2 e3;refine ⟨u',r',?_⟩;rcases q with q | ⟨k,c',e,z'⟩;·exact .inl q
    ·refine .inr ⟨k,c',e,z'.sameBut hs ?_⟩
     rintro rfl;exact hj (GW hN e1 (I.ok.inj _ _ _ e hc▸hi))
  ·by_cases G3:c'=c
   ·subst G3;exact ⟨_,d7⟩
   ·obtain ⟨w2,z2⟩:=I.cell y c' e
    exact ⟨w2,z2.sameBut hs G3⟩
  ·obtain ⟨e,n,ne,nf,d⟩:=I.pin p hp
   refine ⟨(hs.2 p.1 ?_).trans e,n,ne,nf,d⟩;intro q;rw [q,GZ] at e;have q':oc=p.2:=Option.some.inj e;exact d w' (by rw [←q'];exact NJ)
theorem wo{u:Value}(I:Inv X pins σ H s)(hN:X.N.Nodup)(hi:X.N[i]?=some x)(hx:Loc X.env.scope x)(r:RelV v u)
  (h:∀s',Inv X pins (σ.set i (some v)) H s'→Q () s') (hf:X.fn x=true∨X.env.scope.names.lookup x=some .local:=by first | exact .inl rfl | exact .inr rfl | assumption):wpAny M A (storeName X.env x u) Q E s:=
 Cy I hN hi hx r (fun s' I' _=>h s' I') hf
theorem Inv.kg{s':Shared}(I:Inv X pins σ H s)(ho:s'.os=s.os)(u:Un (cD X.stack) ch H H' s.heap s'.heap)(aC:cL X.prog X.w H' s'.heap)(hg:AllBare s'.gens)
  (kf:∀b∈ch,(b∈X.ex∨X.s₀.heap.objs.size≤b)∧b≠X.env.locals∧(∀x c,X.env.cells.lookup x=some c→c≠b)∧∀p∈X.pn++pins,p.1≠b):Inv X pins σ H' s':=by
 obtain ⟨h',g',d',t',o'⟩:=s';have e:o'=s.os:=ho;subst e;exact I.call (g':=g') (t':=t') (d':=d') u aC hg kf
end
abbrev XK:=Value→Option Addr→Hp→Prop
abbrev St:=List (Option V)
abbrev VK:=V→Hp→Prop
abbrev TE:=St→Hp→VK→Prop
abbrev TT:=St→Hp→(Bool→Hp→Prop)→Prop
abbrev TA:=St→Hp→(List V→Hp→Prop)→Prop
structure Ends where
 nx:St→Hp→Prop
 rt:VK
 bk:St→Hp→Prop:=fun _ _=>False
 ct:St→Hp→Prop:=fun _ _=>False
abbrev TS:=Ends→St→Hp→Prop
def EP(X:Cx)(pins:aZ)(σ:St)(Q:VK)(u:Value)(s':Shared):Prop:=∃v H',Inv X pins σ H' s'∧RelV v u∧Q v H'
def TP(X:Cx)(pins:aZ)(σ:St)(Q:Bool→Hp→Prop)(b:Bool)(s':Shared):Prop:=∃H',Inv X pins σ H' s'∧Q b H'
def AP(X:Cx)(pins:aZ)(σ:St)(Q:List V→Hp→Prop)(us:List Value)(s':Shared):Prop:=∃vs H',Inv X pins σ H' s'∧Vals vs us∧Q vs H'
def SP(X:Cx)(pins:aZ)(D:Ends)(f:Flow)(s':Shared):Prop:=
 match f with
 | .next=>∃σ' H',Inv X pins σ' H' s'∧D.nx σ' H'
 | .brk=>∃σ' H',Inv X pins σ' H' s'∧D.bk σ' H'
 | .cont=>∃σ' H',Inv X pins σ' H' s'∧D.ct σ' H'
 | .ret u=>∃v σ' H',Inv X pins σ' H' s'∧RelV v u∧D.rt v H'
def PE(X:Cx)(e:Expr)(t:TE):Prop:=
 ∀(pins:aZ) (s:Shared) (σ:St) (H:Hp) (Q:VK),Inv X pins σ H s→t σ H Q→wpAny (model X.prog X.w) X.A (eval e X.env) (EP X pins σ Q) X.xe s
def PT(X:Cx)(e:Expr)(t:TT):Prop:=
 ∀(pins:aZ) (s:Shared) (σ:St) (H:Hp) (Q:Bool→Hp→Prop),Inv X pins σ H s→t σ H Q→wpAny (model X.prog X.w) X.A (isTrue e X.env (eval e X.env)) (TP X pins σ Q) X.xe s
def PW(X:Cx)(e:Expr)(t:TT):Prop:=
 ∀(whole:Sem Value) (pins:aZ) (s:Shared) (σ:St) (H:Hp) (Q:Bool→Hp→Prop),Inv X pins σ H s→t σ H Q→wpAny (model X.prog X.w) X.A (isTrue e X.env whole) (TP X pins σ Q) X.xe s
variable {X:Cx}
theorem PW.pt{e:Expr}{t:TT}(h:PW X e t):PT X e t:=h _
def PA(X:Cx)(es:List Expr)(t:TA):Prop:=
 ∀(pos:Pos) (pins:aZ) (s:Shared) (σ:St) (H:Hp) (Q:List V→Hp→Prop),Inv X pins σ H s→t σ H Q→wpAny (model X.prog X.w) X.A (spliced (backTo pos (starEach es X.env))) (AP X pins σ Q) X.xe s
def PS(X:Cx)(st:Stmt)(t:TS):Prop:=
 ∀(pins:aZ) (s:Shared) (σ:St) (H:Hp) (D:Ends),Inv X pins σ H s→t D σ H→wpAny (model X.prog X.w) X.A (exec st X.env) (SP X pins D) X.xe s
def eU(X:Cx)(st:List Stmt)(t:TS):Prop:=
 ∀(pins:aZ) (s:Shared) (σ:St) (H:Hp) (D:Ends),Inv X pins σ H s→t D σ H→wpAny (model X.prog X.w) X.A (execs st X.env) (SP X pins D) X.xe s
variable {M:Model} {A:Around} {E:b_} {s:Shared}
theorem aG{α:Type}{t:Sem α}{Q Q':α→Shared→Prop}(h:wpAny M A t Q E s)(hQ:∀a s,Q a s→Q' a s):wpAny M A t Q' E s:=cm h hQ fun _ _ x=>x
section
variable {X:Cx}
variable {pins:aZ} {σ:St}
theorem bin{a b:Expr}{ta tb:TE}(ha:PE X a ta)(hb:PE X b tb){R:V→V→Hp→Prop}(I:Inv X pins σ H s)(h:ta σ H fun x H1=>tb σ H1 fun y H2=>R x y H2)
  {α:Type} {Q:α→Shared→Prop} {f:Value→Value→Sem α}
  (hf:∀v u s2 x y H2,Inv X pins σ H2 s2→RelV x v→RelV y u→R x y H2→wpAny (model X.prog X.w) X.A (f v u) Q X.xe s2) :
  wpAny (model X.prog X.w) X.A (eval a X.env) (fun v s₁=>wpAny (model X.prog X.w) X.A (eval b X.env) (fun u s₂=>wpAny (model X.prog X.w) X.A (f v u) Q X.xe s₂) X.xe s₁) X.xe s:=by
 refine aG (ha pins s σ H _ I h) fun v s1 ⟨x,H1,I1,r1,q1⟩=>?_;refine aG (hb pins s1 σ H1 _ I1 q1) fun u s2 ⟨y,H2,I2,r2,q2⟩=>?_;exact hf v u s2 x y H2 I2 r1 r2 q2
def gL(i:Nat):TE:=fun σ H Q=>∃v,σ[i]?=some (some v)∧Q v H
def tC(v:V):TE:=fun _ H Q=>Q v H
variable {x:Str} {pos:Pos}
theorem NK{i:Nat}(hN:X.N[i]?=some x)(hv:mO X.env.scope x)(hd:(x == ("__debug__":Str))=false:=by decide)(fe:(x == ("__classdict__":Str))=false:=by decide):PE X (.Name x pos) (gL i):=by
 intro pins s σ H Q I h;obtain ⟨v,e,h⟩:=h;obtain ⟨m,hn,hl⟩:=I.loc;obtain ⟨u,r,l⟩:=hl i x v hN e hv;have fin:EP X pins σ Q u s:=⟨v,H,I,r,h⟩;rcases l with ⟨hk,hm⟩ | ⟨hk,c,hc,yW⟩;·exact wpAny_Name (wpAny_loadName_local I.ok.kind hk hn hm fin) hd
 ·rcases hk with hk | hk
  ·exact wpAny_Name (wpAny_loadName_cell I.ok.kind hk hc yW fin) hd
  ·exact wpAny_Name (wpAny_loadName_free I.ok.kind hk hc yW fin fe) hd
theorem ah{i j pos}:PE X (.Constant (.int i) j pos) (tC (.int i)):=fun _ _ _ H _ I h=>wpAny_Constant_int ⟨.int i,H,I.tok _,⟨_,rfl⟩,h⟩
theorem i4{b j pos}:PE X (.Constant (.bool b) j pos) (tC (.bl b)):=fun _ _ _ H _ I h=>Constant_bool ⟨.bl b,H,I,rfl,h⟩
theorem jw{j pos}:PE X (.Constant .none j pos) (tC .aV):=fun _ _ _ H _ I h=>Constant_none ⟨.aV,H,I,rfl,h⟩
theorem eV{x j pos}:PE X (.Constant (.str x) j pos) (tC (.str x)):=fun _ _ _ H _ I h=>Calls.Constant_str ⟨.str x,H,I.tok _,⟨_,rfl⟩,h⟩
def Gl(X:Cx)(x:Str):Prop:=X.env.kindOf x=some .globalImplicit
variable {Q:b_}
theorem yX{u:Value}(I:Inv X pins σ H s)(hg:Gl X x)(hm:X.mg x=some u)(h:Q u s)
  (hd:(x == ("__debug__":Str))=false:=by decide):wpAny (model X.prog X.w) X.A (eval (.Name x pos) X.env) Q E s:=
 Calls.Name_function_global I.ok.kind hg (Calls.loadGlobal_global (by rw [I.ok.glob];exact I.mod.glob.keeps I.bk) hm h) hd
theorem oO{u:Value}(I:Inv X pins σ H s)(hg:Gl X x)(hm:X.mg x=none)(hv:bootBuiltins x=some u)(h:Q u s)
  (hn:x ≠ "__name__":=by decide) (hd:(x == ("__debug__":Str))=false:=by decide):wpAny (model X.prog X.w) X.A (eval (.Name x pos) X.env) Q E s:=by
 obtain ⟨mb,h1,h2⟩:=I.mod.blt;exact Calls.Name_function_global I.ok.kind hg (Calls.loadGlobal_builtin (by rw [I.ok.glob];exact I.mod.glob.keeps I.bk) hm (by rw [I.ok.blt];exact h1.keeps I.bk) ((h2 x hn).trans hv) h) hd
variable {v:V}
theorem CA{u:Value}(hg:Gl X x)(hm:X.mg x=some u)(r:RelV v u)(hd:(x == ("__debug__":Str))=false:=by decide):PE X (.Name x pos) (tC v):=
 fun _ _ _ H _ I h=>yX I hg hm ⟨v,H,I,r,h⟩ hd
theorem kh{u:Value}(hg:Gl X x)(hm:X.mg x=none)(hv:bootBuiltins x=some u)(r:RelV v u)(hn:x ≠ "__name__":=by decide)(hd:(x == ("__debug__":Str))=false:=by decide):PE X (.Name x pos) (tC v):=
 fun _ _ _ H _ I h=>oO I hg hm hv ⟨v,H,I,r,h⟩ hn hd
variable {a b:Expr} {ta tb:TE} {pos:Pos}
def PC(X:Cx)(op:CmpOp)(a b:Expr)(t:TE):Prop:=
 ∀(pins:aZ) (s:Shared) (σ:St) (H:Hp) (Q:VK),Inv X pins σ H s→t σ H Q→
  wpAny (model X.prog X.w) X.A (eval a X.env) (fun v s₁=>wpAny (model X.prog X.w) X.A (eval b X.env) (fun u s₂=>wpAny (model X.prog X.w) X.A (compareOp op v u) (EP X pins σ Q) X.xe s₂) X.xe s₁) X.xe s
def tB(t:TE):TT:=fun σ H Q=>t σ H fun x H1=>∃c,x=.bl c∧Q c H1
variable {t:TE}
theorem aby{op:CmpOp}(h:PC X op a b t)(h1:behindInMarks op b=false:=by first | exact abz _ (by decide) (by decide) | rfl):PT X (.Compare a [op] [b] pos) (tB t):=by intro pins s σ H Q I hw;refine wpAny_isTrue_Compare1 (aG (h pins s σ H _ I hw) fun v s1 h1=>aG h1 fun u s2 h2=>aG h2 fun c s3 ⟨x,H1,I1,r1,q1⟩=>?_) h1;obtain ⟨d,rfl,q⟩:=q1;cases r1;exact k4 ⟨H1,I1,q⟩
theorem mR{e:Expr}(h:PE X e t)(he:∀whole,isTrue e X.env whole=(do let v ←whole;standAt e.pos;holding [v] (truthy v)):=by intro _;rfl):PT X e (tB t):=by
 intro pins s σ H Q I hw
 refine isTrue_plain (aG (h pins s σ H _ I hw) fun v s1 ⟨x,H1,I1,r1,q1⟩=>?_) (he _)
 obtain ⟨d,rfl,q⟩:=q1
 cases r1
 exact k4 ⟨H1,I1,q⟩
variable {tA yY:TT} {rest:List Expr}
def NL(t u:TT):TT:=fun σ H Q=>t σ H fun c H1=>if c=true then u σ H1 Q else Q false H1
def NM(t u:TT):TT:=fun σ H Q=>t σ H fun c H1=>if c=true then Q true H1 else u σ H1 Q
def G4(t:TT):TT:=fun σ H Q=>t σ H fun c H1=>Q (!c) H1
theorem pw_and1(ha:PT X a tA):PW X (.BoolOp .And [a] pos) tA:=by
 intro wh pins s σ H Q I h;refine isTrue_and (aG (ha pins s σ H Q I h) fun c s1 e=>?_);cases c with
 | true=>exact isTrue_and_nil e
 | false=>exact e
theorem pw_or1(ha:PT X a tA):PW X (.BoolOp .Or [a] pos) tA:=by
 intro wh pins s σ H Q I h;refine isTrue_or (aG (ha pins s σ H Q I h) fun c s1 e=>?_);cases c with
 | false=>exact isTrue_or_nil e
 | true=>exact e
theorem pw_and(ha:PT X a tA)(hb:PW X (.BoolOp .And (b::rest) pos) yY):PW X (.BoolOp .And (a::b::rest) pos) (NL tA yY):=by
 intro wh pins s σ H Q I h;refine isTrue_and (aG (ha pins s σ H _ I h) fun c s1 ⟨H1,I1,q1⟩=>?_);cases c with
 | true=>exact hb wh pins s1 σ H1 Q I1 q1
 | false=>exact ⟨H1,I1,q1⟩
theorem pw_or(ha:PT X a tA)(hb:PW X (.BoolOp .Or (b::rest) pos) yY):PW X (.BoolOp .Or (a::b::rest) pos) (NM tA yY):=by
 intro wh pins s σ H Q I h;refine isTrue_or (aG (ha pins s σ H _ I h) fun c s1 ⟨H1,I1,q1⟩=>?_);cases c with
 | true=>exact ⟨H1,I1,q1⟩
 | false=>exact hb wh pins s1 σ H1 Q I1 q1
theorem sq(ha:PT X a tA):PT X (.UnaryOp .Not a pos) (G4 tA):=by intro pins s σ H Q I h;exact isTrue_not (ha pins s σ H (fun c H1=>Q (!c) H1) I h)
def NN(ta tb:TE):TE:=fun σ H Q=>ta σ H fun x H1=>∃c,x=.bl c∧if c=true then tb σ H1 Q else Q (.bl false) H1
def NO(ta:TE):TE:=fun σ H Q=>ta σ H fun x H1=>∃c,x=.bl c∧Q (.bl (!c)) H1
theorem su{op}(h:PE X a t):PE X (.BoolOp op [a] pos) t:=fun pins s σ H Q I hw=>BoolOp_one (h pins s σ H Q I hw)
theorem lE(ha:PE X a ta)(hb:PE X (.BoolOp .And (b::rest) pos) tb):PE X (.BoolOp .And (a::b::rest) pos) (NN ta tb):=by
 intro pins s σ H Q I h;refine BoolOp_and (aG (ha pins s σ H _ I h) fun v s1 ⟨x,H1,I1,r1,q1⟩=>?_);obtain ⟨c,rfl,q1⟩:=q1;cases r1;refine k4 ?_;cases c with
 | true=>exact hb pins s1 σ H1 Q I1 q1
 | false=>exact ⟨.bl false,H1,I1,rfl,q1⟩
theorem G5(ha:PE X a ta):PE X (.UnaryOp .Not a pos) (NO ta):=by intro pins s σ H Q I h;refine UnaryOp_ (aG (ha pins s σ H _ I h) fun v s1 ⟨x,H1,I1,r1,q1⟩=>?_);obtain ⟨c,rfl,q1⟩:=q1;cases r1;exact not_of (k4 ⟨.bl (!c),H1,I1,rfl,q1⟩)
end
def bo(K:aF)(H:Hp)(a:Addr)(xs:List V):Prop:=
 Rd H a (.lst xs) ∨
  ∃(o:Obj) (aq:Array Value) (n:Nat),K.lookup a=some o∧o.cls=.type "list"∧o.dict=none∧o.data=.seq aq n∧aq.size≤sizeLine∧Vals xs aq.toList
def eo(K:aF)(H:Hp)(a:Addr)(xs:List V):Prop:=
 Rd H a (.tup xs) ∨
  ∃(o:Obj) (aq:Array Value) (n:Nat),K.lookup a=some o∧o.cls=.type "tuple"∧o.data=.seq aq n∧aq.size≤sizeLine∧Vals xs aq.toList
def NP:Value→Option V
 | .none=>some .aV
 | .bool b=>some (.bl b)
 | .int i _=>some (.int i)
 | .str x _=>some (.str x)
 | .bytes b _=>some (.iZ b)
 | .float b _=>some (.oK b)
 | .ref a=>some (.ref a)
 | .type n=>some (.ty n)
 | _=>none
variable {x:V}
theorem RelV.abs{u:Value}(r:RelV x u):NP u=some x:=by
 cases x with
 | aV=>cases r;rfl
 | bl _=>cases r;rfl
 | int _=>obtain ⟨t,rfl⟩:=r;rfl
 | str _=>obtain ⟨t,rfl⟩:=r;rfl
 | iZ _=>obtain ⟨t,rfl⟩:=r;rfl
 | oK _=>obtain ⟨t,rfl⟩:=r;rfl
 | ref _=>cases r;rfl
 | ty _=>cases r;rfl
theorem RelV.inj{y:V}{u:Value}(r:RelV x u)(q:RelV y u):x=y:=Option.some.inj (r.abs.symm.trans q.abs)
theorem Vals.inj:∀{xs ys:List V} {us:List Value},Vals xs us→Vals ys us→xs=ys
 | _,_,_,.nil,.nil=>rfl
 | _,_,_,.cons r t,.cons r' t'=>by rw [r.inj r',Vals.inj t t']
section
variable {X:Cx} {pins:aZ} {σ:St} {H:Hp} {s:Shared} {a:Addr} {xs ys:List V}
variable {K:aF}
theorem bo.of(h:H a=some (.lst xs)):bo K H a xs:=.inl (.inl h)
theorem eo.of(h:H a=some (.tup xs)):eo K H a xs:=.inl (.inl h)
theorem Inv.list(I:Inv X pins σ H s)(h:bo X.K H a xs):∃aq:List Value,Vals xs aq∧PlainL s.heap a aq.toArray∧xs.length≤sizeLine:=by
 rcases h with h | ⟨o,aq,n,hk,hc,hd,hs,hz,r⟩
 ·obtain ⟨z,aq,n,r,e⟩:=h.ok I.aC
  exact ⟨aq,r,⟨_,n,e,rfl,rfl,rfl⟩,z⟩
 ·refine ⟨aq.toList,r,⟨o,n,I.dC a o hk,hc,hd,by simpa using hs⟩,?_⟩
  have e:=r.length;simp only [Array.length_toList] at e;lia
theorem Inv.tuple(I:Inv X pins σ H s)(h:eo X.K H a xs):∃aq:List Value,Vals xs aq∧IsTup s.heap a aq.toArray∧xs.length≤sizeLine:=by
 rcases h with h | ⟨o,aq,n,hk,hc,hs,hz,r⟩
 ·obtain ⟨z,aq,r,p⟩:=h.ok I.aC
  exact ⟨aq,r,p,z⟩
 ·refine ⟨aq.toList,r,⟨o,I.dC a o hk,hc,n,by simpa using hs⟩,?_⟩
  have e:=r.length;simp only [Array.length_toList] at e;lia
theorem Inv.yZ(I:Inv X pins σ H s)(h:bo X.K H a xs)(h':bo X.K H a ys):xs=ys:=by
 obtain ⟨aq,r,⟨o,n,e,_,_,d⟩,_⟩:=I.list h;obtain ⟨its',r',⟨o',n',e',_,_,d'⟩,_⟩:=I.list h';rw [e] at e';cases e';rw [d] at d';injection d' with d1 _;have:aq=its':=by simpa using fT Array.toList d1
 subst this;exact r.inj r'
theorem Inv.NQ(I:Inv X pins σ H s)(h:eo X.K H a xs)(h':eo X.K H a ys):xs=ys:=by
 obtain ⟨aq,r,⟨o,e,_,n,d⟩,_⟩:=I.tuple h;obtain ⟨its',r',⟨o',e',_,n',d'⟩,_⟩:=I.tuple h';rw [e] at e';cases e';rw [d] at d';injection d' with d1 _;have:aq=its':=by simpa using fT Array.toList d1
 subst this;exact r.inj r'
end
abbrev Cx.ki (X:Cx) (E:b_):Cx:={X with xe:=E}
abbrev Cx.oP (X:Cx):Cx:=X.ki fun _ _=>False
theorem Cx.Ok.ki(ok:X.Ok)(E:b_):(X.ki E).Ok:=
 ⟨ok.mod,ok.kind,ok.glob,ok.blt,ok.above,ok.inj,ok.has,ok.wk,ok.hd,ok.frames,ok.iw,ok.GQ,ok.bs,ok.gK,ok.mP,ok.mQ,ok.i3,ok.lC⟩
theorem Cx.Ok.mS(ok:(X.ki E).Ok):X.Ok:=
 ⟨ok.mod,ok.kind,ok.glob,ok.blt,ok.above,ok.inj,ok.has,ok.wk,ok.hd,ok.frames,ok.iw,ok.GQ,ok.bs,ok.gK,ok.mP,ok.mQ,ok.i3,ok.lC⟩
section
variable {X:Cx} {pins:aZ} {σ:St} {H:Hp} {s:Shared} {E:b_}
theorem Inv.ki(I:Inv X pins σ H s)(E:b_):Inv (X.ki E) pins σ H s:=⟨I.ok.ki E,I.os,I.bare,I.base,I.loc,I.cell,I.free,I.ix,I.pin,I.aC,I.len⟩
theorem Inv.mS(I:Inv (X.ki E) pins σ H s):Inv X pins σ H s:=⟨I.ok.mS,I.os,I.bare,I.base,I.loc,I.cell,I.free,I.ix,I.pin,I.aC,I.len⟩
theorem SP.mS{D:Ends}{f:Flow}{s':Shared}(h:SP (X.ki E) pins D f s'):SP X pins D f s':=by
 cases f with
 | next=>obtain ⟨σ',H',I,q⟩:=h;exact ⟨σ',H',I.mS,q⟩
 | brk=>obtain ⟨σ',H',I,q⟩:=h;exact ⟨σ',H',I.mS,q⟩
 | cont=>obtain ⟨σ',H',I,q⟩:=h;exact ⟨σ',H',I.mS,q⟩
 | ret u=>obtain ⟨v,σ',H',I,r,q⟩:=h;exact ⟨v,σ',H',I.mS,r,q⟩
theorem eU.oP{st:List Stmt}{t:TS}(h:eU X.oP st t):eU X st t:=fun pins s σ H D I hw=>cm (h pins s σ H D (I.ki _) hw) (fun _ _ q=>q.mS) fun _ _ z=>False.elim z
end
section
variable {X:Cx} {st:Stmt} {rest:List Stmt} {t u:TS} {e:Expr} {te:TE} {pos:Pos}
def iy:TS:=fun D σ H=>D.nx σ H
def CB(t u:TS):TS:=fun D σ H=>t {D with nx:=u D} σ H
theorem b8:eU X [] iy:=fun _ _ σ H _ I h=>yA ⟨σ,H,I,h⟩
theorem ak(h1:PS X st t)(h2:eU X rest u):eU X (st::rest) (CB t u):=by
 intro pins s σ H D I h;refine wpAny_execs_cons (aG (h1 pins s σ H {D with nx:=u D} I h) fun f s1 q=>?_);cases f with
 | next=>obtain ⟨σ',H',I',q⟩:=q;exact h2 pins s1 σ' H' D I' q
 | ret v=>exact q
 | brk=>exact q
 | cont=>exact q
theorem aw(h1:PS X st t):eU X [st] t:=by
 intro pins s σ H D I h;refine wpAny_execs_cons (aG (h1 pins s σ H D I h) fun f s1 q=>?_);cases f with
 | next=>exact yA q
 | ret v=>exact q
 | brk=>exact q
 | cont=>exact q
def NR:TS:=fun D σ H=>D.bk σ H
theorem NS:PS X (.Break pos) NR:=fun _ _ σ H _ I h=>wpAny_Break ⟨σ,H,I,h⟩
theorem Inv.quiet{pins:aZ}{σ:St}(I:Inv X pins σ H s):interactive X.env=false:=by simp [interactive,I.ok.kind]
def NT(te:TE):TS:=fun D σ H=>te σ H fun _ H1=>D.nx σ H1
theorem G6(he:PE X e te)(hs:swapsWith e none pos.line X.env=pure false:=by rfl):PS X (.Expr e pos) (NT te):=by intro pins s σ H D I h;exact wpAny_Expr_any (aG (he pins s σ H _ I h) fun v s1 ⟨x,H1,I1,r1,q1⟩=>⟨σ,H1,I1,q1⟩) I.quiet hs
def CD(te:TE):TS:=fun D σ H=>te σ H D.rt
theorem aR(he:PE X e te):PS X (.Return (some e) pos) (CD te):=by intro pins s σ H D I h;exact wpAny_Return_some (aG (he pins s σ H _ I h) fun v s1 ⟨x,H1,I1,r1,q1⟩=>⟨x,σ,H1,I1,r1,q1⟩)
def wt(c:TT)(t u:TS):TS:=fun D σ H=>c σ H fun b H1=>if b=true then t D σ H1 else u D σ H1
theorem bI{c:Expr}{a b:List Stmt}{tc:TT}(hc:PT X c tc)(ha:eU X a t)(hb:eU X b u):PS X (.If c a b pos) (wt tc t u):=by
 intro pins s σ H D I h;refine wpAny_If (aG (hc pins s σ H _ I h) fun d s1 ⟨H1,I1,q1⟩=>?_);cases d with
 | true=>exact ha pins s1 σ H1 D I1 q1
 | false=>exact hb pins s1 σ H1 D I1 q1
def NU:TS:=fun _ _ _=>False
theorem NV{NW:List Stmt}:eU X NW NU:=fun _ _ _ _ _ _ h=>h.elim
end
abbrev TG:=V→St→Hp→(St→Hp→Prop)→Prop
abbrev oQ:=List V→St→Hp→(St→Hp→Prop)→Prop
def PG(X:Cx)(target:Expr)(t:TG):Prop:=
 ∀(pins:aZ) (s:Shared) (σ:St) (H:Hp) (v:V) (u:Value) (Q:St→Hp→Prop),Inv X pins σ H s→RelV v u→t v σ H Q→
  wpAny (model X.prog X.w) X.A (assign target X.env u) (fun _ s'=>∃σ' H',Inv X pins σ' H' s'∧Q σ' H') X.xe s
def y4(X:Cx)(ts:List Expr)(t:oQ):Prop:=
 ∀(pins:aZ) (s:Shared) (σ:St) (H:Hp) (vs:List V) (us:List Value) (Q:St→Hp→Prop),Inv X pins σ H s→Vals vs us→t vs σ H Q→
  wpAny (model X.prog X.w) X.A (assignInOrder ((assignEach ts X.env).map (·.2)) us) (fun _ s'=>∃σ' H',Inv X pins σ' H' s'∧Q σ' H') X.xe s
abbrev wu:=V→V→V→Hp→(Hp→Prop)→Prop
def CF(X:Cx)(t:wu):Prop:=
 ∀(pins:aZ) (s:Shared) (σ:St) (H:Hp) (o i v:V) (ov iv u:Value) (Q:Hp→Prop),Inv X pins σ H s→RelV o ov→RelV i iv→RelV v u→t o i v H Q→
  wpAny (model X.prog X.w) X.A (setItem ov iv u) (fun _ s'=>∃H',Inv X pins σ H' s'∧Q H') X.xe s
abbrev sv:=V→V→Hp→VK→Prop
def wx(X:Cx)(op:Operator)(t:sv):Prop:=
 ∀(pins:aZ) (s:Shared) (σ:St) (H:Hp) (x y:V) (v u:Value) (Q:VK),Inv X pins σ H s→RelV x v→RelV y u→t x y H Q→
  wpAny (model X.prog X.w) X.A (inplaceOp op v u) (EP X pins σ Q) X.xe s
section
variable {X:Cx} {pos:Pos}
def bE(i:Nat):TG:=fun v σ H Q=>Q (σ.set i (some v)) H
variable {i:Nat}
theorem eE{x:Str}(hN:X.N.Nodup)(hi:X.N[i]?=some x)(hx:Loc X.env.scope x)(hf:X.fn x=true∨X.env.scope.names.lookup x=some .local:=by first | exact .inl rfl | exact .inr rfl | assumption):PG X (.Name x pos) (bE i):=by intro pins s σ H v u Q I r h;exact wpAny_assign_Name (wo I hN hi hx r (fun s' I'=>⟨_,H,I',h⟩) hf)
def CH:oQ:=fun vs σ H Q=>vs=[]∧Q σ H
def wy(t:TG)(u:oQ):oQ:=fun vs σ H Q=>∃v r,vs=v::r∧t v σ H fun σ' H'=>u r σ' H' Q
theorem wC:y4 X [] CH:=by intro pins s σ H vs us Q I r h;obtain ⟨e,h⟩:=h;subst e;cases r;exact assignInOrder_nil ⟨σ,H,I,h⟩
variable {e:Expr} {es:List Expr}
theorem kj{t:TG}{u:oQ}(h1:PG X e t)(h2:y4 X es u)
  (hs:(assignEach (e::es) X.env).map (·.2)=assign e X.env::(assignEach es X.env).map (·.2):=by rfl):y4 X (e::es) (wy t u):=by
 intro pins s σ H vs us Q I r h;obtain ⟨v,vr,e1,h⟩:=h;subst e1;cases r with
 | cons r rr=>rw [hs];refine assignInOrder_cons (aG (h1 pins s σ H _ _ _ I r h) fun _ s1 ⟨σ1,H1,I1,q1⟩=>?_);exact h2 pins s1 σ1 H1 _ _ Q I1 rr q1
def CJ(K:aF)(n:Nat)(t:oQ):TG:=fun v σ H Q=>∃a xs,v=.ref a∧eo K H a xs∧xs.length=n∧t xs σ H Q
theorem wF{k:Nat}{t:oQ}{n:Nat}(hc:X.calm=true)(h:y4 X es t)
  (hn:(assignEach es X.env).length=n:=by rfl) (CK:(assignEach es X.env).findIdx? (·.1)=none:=by rfl):PG X (.Tuple es k pos) (CJ X.K n t):=by
 intro pins s σ H v u Q I r hw;obtain ⟨a,xs,e1,hq,hl,hw⟩:=hw;subst e1;cases r;obtain ⟨aq,rv,ht,hz⟩:=I.tuple hq;refine assign_Tuple_tuple (I.ok.hd hc) ht (by simp [hn,←hl,rv.length]) CK fun h' hx=>?_
 have I1:Inv X pins σ H {s with heap:=h'}:=I.kept (t':=s.toks) fun b o e=>hx b o (d9 (bV e)) e;exact h pins _ σ H xs _ Q I1 (by simpa using rv) hw
def NX(to ti:TE)(t:wu):TG:=fun v σ H Q=>to σ H fun o H1=>ti σ H1 fun i H2=>t o i v H2 fun H3=>Q σ H3
theorem wH{o i:Expr}{to ti:TE}{t:wu}(ho:PE X o to)(hi:PE X i ti)(hs:CF X t)
  (ha:∀v,assign (.Subscript o i pos) X.env v=(do
   let ov ←holding [v] (eval o X.env)
   let iv ←holding [v,ov] (eval i X.env)
   standAt pos
   holding [v,ov,iv] (setItem ov iv v)
   release [v,ov,iv] []):=by intro _;rfl):PG X (.Subscript o i pos) (NX to ti t):=by
 intro pins s σ H v u Q I r h
 rw [ha]
 refine cC (wpAny_holding (aG (ho pins s σ H _ I h) fun ov s1 ⟨x,H1,I1,r1,q1⟩=>?_))
 refine cC (wpAny_holding (aG (hi pins s1 σ H1 _ I1 q1) fun iv s2 ⟨y,H2,I2,r2,q2⟩=>?_))
 refine cC (vO (cC (wpAny_holding (aG (hs pins s2 σ H2 x y v ov iv u _ I2 r1 r2 r q2) fun _ s3 ⟨H3,I3,q3⟩=>?_))))
 exact wpAny_release ⟨σ,H3,I3,q3⟩
def lH(te:TE)(g:TG):TS:=fun D σ H=>te σ H fun x H1=>g x σ H1 D.nx
theorem wI{tg e:Expr}{te:TE}{g:TG}(he:PE X e te)(hg:PG X tg g)(hs:swapsWithSole [tg] e pos.line X.env=pure false:=by rfl)(hw:swappedStores [tg] e X.env=pure none:=by rfl)
  (h1:(assignEach [tg] X.env).map (·.2)=[assign tg X.env]:=by rfl):PS X (.Assign [tg] e pos) (lH te g):=by
 intro pins s σ H D I h;refine wpAny_Assign_stores (aG (he pins s σ H _ I h) fun v s1 ⟨x,H1,I1,r1,q1⟩=>?_) hs hw;rw [h1];exact aG (hg pins s1 σ H1 x v _ I1 r1 q1) fun _ s2 q=>q
variable {te:TE} {pos':Pos}
theorem NY{x:Str}(hN:X.N.Nodup)(hi:X.N[i]?=some x)(hx:Loc X.env.scope x)(he:PE X e te)(hs:swapsWith e (some (.Name x pos')) pos.line X.env=pure false:=by rfl)(hf:X.fn x=true∨X.env.scope.names.lookup x=some .local:=by first | exact .inl rfl | exact .inr rfl | assumption) :
  PS X (.Assign [.Name x pos'] e pos) (lH te (bE i)):=by
 intro pins s σ H D I h;refine wpAny_Assign_Name (aG (he pins s σ H _ I h) fun v s1 ⟨y,H1,I1,r1,q1⟩=>?_) hs;exact wo I1 hN hi hx r1 (fun s2 I2=>⟨_,H1,I2,q1⟩) hf
def NZ(i j:Nat)(ta:TA):TS:=fun D σ H=>ta σ H fun vs H1=>∃v w,vs=[v,w]∧D.nx ((σ.set i (some v)).set j (some w)) H1
theorem N0{j:Nat}{x y:Str}{a b:Expr}{ta:TA}{px py pt:Pos}{kt k2 CL}(hc:X.calm=true)(hN:X.N.Nodup)(hi:X.N[i]?=some x)(hj:X.N[j]?=some y)(N3:i≠j)
  (hx:X.env.scope.names.lookup x=some .local) (hy:X.env.scope.names.lookup y=some .local) (ha:PA X [a,b] ta)
  (hw:swappedStores [.Tuple [.Name x px,.Name y py] kt pt] (.Tuple [a,b] k2 CL) X.env=pure (some [x,y]))
  (hs:swapsWithSole [.Tuple [.Name x px,.Name y py] kt pt] (.Tuple [a,b] k2 CL) pos.line X.env=pure false:=by rfl) :
  PS X (.Assign [.Tuple [.Name x px,.Name y py] kt pt] (.Tuple [a,b] k2 CL) pos) (NZ i j ta):=by
 intro pins s σ H D I h
 rw [exec_Assign_arm]
 refine cC (vO ?_)
 rw [hs]
 refine cC (d_ ?_)
 rw [ao (by decide)]
 refine cC (Tuple_ (aG (ha _ pins s σ H _ I h) fun us s1 ⟨vs,H1,I1,r1,q1⟩=>?_))
 obtain ⟨v,w,e1,q1⟩:=q1
 subst e1
 obtain ⟨u1,u2,rfl,rv,oR⟩:∃u1 u2,us=[u1,u2]∧RelV v u1∧RelV w u2:=by
  cases r1 with
  | cons p q=>
   cases q with
   | cons p' q'=>
    cases q'
    exact ⟨_,_,rfl,p,p'⟩
 refine vP ?_ (by show 2≤sizeLine;decide)
 have I2:Inv X pins σ H1 {s1 with heap:=s1.heap.push {cls:=.type "tuple",data:=.seq [u1,u2].toArray}}:=I1.kept (t':=s1.toks) fun b o e=>dj _ e
 rw [hw]
 refine cC (d_ ?_)
 show wpAny (model X.prog X.w) X.A (do rule "assign.swapped-stores";let items ←unpackItems (.ref s1.heap.objs.size) 2 none;assignInOrder [fun v=>bindName X.env y v,fun v=>bindName X.env x v] items.reverse;pure Flow.next) _ _ _
 refine cC (wpAny_rule (cC (unpackItems_tuple (items:=#[u1,u2]) (I.ok.hd hc) (IsTup.new s1.heap _) fun h' N4=>?_)))
 have I3:=I2.kept (h':=h') (t':=s1.toks) fun b o e=>N4 b o (d9 (bV e)) e
 show wpAny _ _ (assignInOrder [fun v=>bindName X.env y v,fun v=>bindName X.env x v] [u2,u1] >>= fun _=>pure Flow.next) _ _ _
 refine cC (assignInOrder_cons (wpAny_bindName (wo I3 hN hj (.inl hy) oR (fun s2 I4=>?_) (.inr hy))))
 refine assignInOrder_cons (wpAny_bindName (wo I4 hN hi (.inl hx) rv (fun s3 I5=>assignInOrder_nil (d_ ?_)) (.inr hx)))
 rw [List.set_comm _ _ (Ne.symm N3)] at I5
 exact ⟨_,H1,I5,q1⟩
def N5(i:Nat)(te:TE)(ti:sv):TS:=fun D σ H=>∃x,σ[i]?=some (some x)∧te σ H fun y H1=>ti x y H1 fun z H2=>D.nx (σ.set i (some z)) H2
theorem y6{x:Str}{op:Operator}{ti:sv}(hN:X.N.Nodup)(hi:X.N[i]?=some x)(hx:Loc X.env.scope x)(he:PE X e te)(ho:wx X op ti)(hf:X.fn x=true∨X.env.scope.names.lookup x=some .local:=by first | exact .inl rfl | exact .inr rfl | assumption) :
  PS X (.AugAssign (.Name x pos') op e pos) (N5 i te ti):=by
 intro pins s σ H D I h;obtain ⟨v,e1,h⟩:=h;obtain ⟨m,hn,hl⟩:=I.loc;have N6:mO X.env.scope x:=by rcases hx with k | k;exact .inl k;exact .inr (.inl k)
 obtain ⟨u,r,l⟩:=hl i x v hi e1 N6;refine wpAny_AugAssign_Name ?_;have go:wpAny (model X.prog X.w) X.A (eval e X.env) (fun w s₂=>wpAny (model X.prog X.w) X.A (inplaceOp op u w) (fun r s₃=>wpAny (model X.prog X.w) X.A (storeName X.env x r) (fun _=>SP X pins D .next) X.xe s₃) X.xe s₂) X.xe s:=by refine aG (he pins s σ H _ I h) fun w s1 ⟨y,H1,I1,r1,q1⟩=>?_;refine aG (ho pins s1 σ H1 v y u w _ I1 r r1 q1) fun z s2 ⟨zv,H2,I2,r2,q2⟩=>?_;exact wo I2 hN hi hx r2 (fun s3 I3=>⟨_,H2,I3,q2⟩) hf
 rcases l with ⟨hk,hm⟩ | ⟨hk,c,hc,yW⟩;·exact wpAny_loadName_local I.ok.kind hk hn hm go
 ·rcases hk with hk | hk
  ·exact wpAny_loadName_cell I.ok.kind hk hc yW go
  ·rcases hx with k | k
   ·have:X.env.scope.names.lookup x=some .free:=hk
    rw [k] at this;cases this
   ·have:X.env.scope.names.lookup x=some .free:=hk
    rw [k] at this;cases this
def N7(to ti te:TE)(y7:V→V→Hp→VK→Prop)(y8:sv)(y_:wu):TS:=fun D σ H=>to σ H fun o H1=>ti σ H1 fun i H2=>y7 o i H2 fun x H3=>te σ H3 fun y H4=>y8 x y H4 fun z H5=>y_ o i z H5 fun H6=>D.nx σ H6
def G7(X:Cx)(t:V→V→Hp→VK→Prop):Prop:=
 ∀(pins:aZ) (s:Shared) (σ:St) (H:Hp) (o i:V) (ov iv:Value) (Q:VK),Inv X pins σ H s→RelV o ov→RelV i iv→t o i H Q→
  wpAny (model X.prog X.w) X.A (getItem ov iv) (EP X pins σ Q) X.xe s
theorem N8{o i e:Expr}{to ti te:TE}{y7:V→V→Hp→VK→Prop}{y8:sv}{y_:wu}{op:Operator}{sC:Pos}(ho:PE X o to)(hi:PE X i ti)(hg:G7 X y7)(he:PE X e te)(hp:wx X op y8)(hs:CF X y_)
  (ha:∀ov iv new,augStore i ov iv new=(do holding [new,ov,iv] (setItem ov iv new);release [new,ov,iv] [];pure .next):=by intros;rfl):PS X (.AugAssign (.Subscript o i sC) op e pos) (N7 to ti te y7 y8 y_):=by
 intro pins s σ H D I h
 refine wpAny_AugAssign_SubscriptAny (aG (ho pins s σ H _ I h) fun ov s1 ⟨x1,H1,I1,r1,q1⟩=>?_) ha
 refine aG (hi pins s1 σ H1 _ I1 q1) fun iv s2 ⟨x2,H2,I2,r2,q2⟩=>?_
 refine aG (hg pins s2 σ H2 x1 x2 ov iv _ I2 r1 r2 q2) fun old s3 ⟨x3,H3,I3,r3,q3⟩=>?_
 refine aG (he pins s3 σ H3 _ I3 q3) fun v s4 ⟨x4,H4,I4,r4,q4⟩=>?_
 refine aG (hp pins s4 σ H4 x3 x4 old v _ I4 r3 r4 q4) fun new s5 ⟨x5,H5,I5,r5,q5⟩=>?_
 exact aG (hs pins s5 σ H5 x1 x2 x5 ov iv new _ I5 r1 r2 r5 q5) fun _ s6 ⟨H6,I6,q6⟩=>⟨σ,H6,I6,q6⟩
def G8(f:Int→Int→Int):sv:=fun x y H Q=>∃i j,x=.int i∧y=.int j∧Q (.int (f i j)) H
theorem G9:wx X .Add (G8 fun i j=>i+j):=by intro pins s σ H x y v u Q I r1 r2 h;obtain ⟨i,j,e1,e2,q⟩:=h;subst e1;subst e2;obtain ⟨t,rfl⟩:=r1;obtain ⟨t',rfl⟩:=r2;exact iadd_int ⟨.int _,H,I.tok _,⟨_,rfl⟩,q⟩
theorem G_:wx X .Sub (G8 fun i j=>i-j):=by intro pins s σ H x y v u Q I r1 r2 h;obtain ⟨i,j,e1,e2,q⟩:=h;subst e1;subst e2;obtain ⟨t,rfl⟩:=r1;obtain ⟨t',rfl⟩:=r2;exact isub_int ⟨.int _,H,I.tok _,⟨_,rfl⟩,q⟩
end
section
variable {X:Cx} {pos:Pos}
def N9(c:TT)(tb:TS):TS:=fun D σ H=>∃W:Nat→St→Hp→Prop,(∃m,W m σ H)∧∀m σ H,W m σ H→
 c σ H fun b H1=>if b=true then ∃N:St→Hp→Prop,(∀σ' H',N σ' H'→∃m',m'<m∧W m' σ' H')∧tb {D with nx:=N,ct:=N,bk:=D.nx} σ H1 else D.nx σ H1
theorem mT{c:Expr}{body:List Stmt}{tc:TT}{tb:TS}(hp:PassesOwn (model X.prog X.w) X.A X.env X.xe)(hc:PT X c tc)(hb:eU X body tb):PS X (.While c body [] pos) (N9 tc tb):=by
 intro pins s σ H D I h;obtain ⟨W,⟨m0,w0⟩,turn⟩:=h;refine wpAny_While (codeAny_whileLoop (fun n s'=>∃σ' H',Inv X pins σ' H' s'∧W n σ' H') ?_ m0 ⟨σ,H,I,w0⟩);rintro n s1 ⟨σ1,H1,I1,w1⟩;refine oA hp (aG (hc pins s1 σ1 H1 _ I1 (turn n σ1 H1 w1)) fun b s2 ⟨H2,I2,q2⟩=>?_);cases b with
 | true=>
  obtain ⟨N,hN,q2⟩:=q2;rw [ar rfl];refine oA hp (aG (hb pins s2 σ1 H2 _ I2 q2) fun f s3 q3=>?_);cases f with
  | next=>obtain ⟨σ3,H3,I3,n3⟩:=q3;obtain ⟨m',hm,w3⟩:=hN σ3 H3 n3;exact ⟨m',hm,σ3,H3,I3,w3⟩
  | cont=>obtain ⟨σ3,H3,I3,n3⟩:=q3;obtain ⟨m',hm,w3⟩:=hN σ3 H3 n3;exact ⟨m',hm,σ3,H3,I3,w3⟩
  | brk=>exact q3
  | ret v=>exact q3
 | false=>rw [ao dk];exact yA ⟨σ1,H2,I2,q2⟩
end
structure It where
 go:Nat→Hp→Prop
 eW:Nat→Hp→V→Hp→Prop
 stop:Nat→Hp→Prop
def kl(X:Cx)(pins:aZ)(H:Hp)(b:Addr):Prop:=
 H b=none∧b≠X.env.locals∧b∉X.fs∧(b∈X.ex∨X.s₀.heap.objs.size≤b)∧(∀x c,X.env.cells.lookup x=some c→c≠b)∧∀p∈X.pn++pins,p.1≠b
variable {σ:St}
theorem Inv.sD{pins:aZ}{H':Hp}(I:Inv X pins σ H s)(hb:s.heap.objs.size≤b)(hn:H' b=none):kl X pins H' b:=by
 refine ⟨hn,Nat.ne_of_gt (dQ I.lt hb),I.NF hb,.inr (ae I.sz hb),fun x c e z=>?_,fun p hp z=>?_⟩
 ·obtain ⟨v,q⟩:=I.cell x c e
  exact absurd (dQ q.lt (by rw [z];exact hb)) (gg _)
 ·exact absurd (dQ (bV (I.pin p hp).1) (by rw [z];exact hb)) (gg _)
structure Turn (P:Program) (w:World) (K:aF) (tg:Expr) (J:It) (fp:List Addr) (it:Addr) (tn:Nat→Heap→Prop):Prop where
 mem:it∈fp
 obj:∀i h,tn i h→∀b∈fp,∃o,h.get? b=some o∧∀v,o.data≠.cell v
 keep:∀i h h',tn i h→(∀b∈fp,∀o,h.get? b=some o→h'.get? b=some o)→tn i h'
 item:∀(X:Cx),X.prog=P→X.w=w→X.K=K→X.calm=true→∀(i:Nat) (pins:aZ) (s:Shared) (σ:St) (H:Hp) (E:b_),Inv X pins σ H s→(∀b∈fp,kl X pins H b)→tn i s.heap→J.go i H→
  wpAny (model P w) X.A (pyNext (.ref it)) (fun r s1=>∃u,r=some u ∧
   wpAny (model P w) X.A (letOwnedTupleGo tg (.ref it) u) (fun _ s2=>∃x H',Inv X pins σ H' s2∧RelV x u∧J.eW i H x H'∧tn (i+1) s2.heap∧∀b∈fp,H' b=none) E s1) E s
 done:∀(X:Cx),X.prog=P→X.w=w→X.K=K→X.calm=true→∀(i:Nat) (pins:aZ) (s:Shared) (σ:St) (H:Hp) (E:b_),Inv X pins σ H s→(∀b∈fp,kl X pins H b)→tn i s.heap→J.stop i H→
  wpAny (model P w) X.A (pyNext (.ref it)) (fun r s1=>r=none∧Inv X pins σ H s1) E s
 self:∀(A:Around) (i:Nat) (s:Shared) (Q:b_) (E:b_),tn i s.heap→Q (.ref it) s→wpAny (model P w) A (pyIter (.ref it)) Q E s
abbrev TI:=St→Hp→(It→Hp→Prop)→Prop
def CM(X:Cx)(pins:aZ)(σ:St)(tg:Expr)(R:It→Hp→Prop)(sE:Value)(s2:Shared):Prop:=
 ∃(it:Addr) (fp:List Addr) (tn:Nat→Heap→Prop) (J:It) (H':Hp),sE=.ref it∧Inv X pins σ H' s2∧Turn X.prog X.w X.K tg J fp it tn∧tn 0 s2.heap∧(∀b∈fp,kl X pins H' b)∧R J H'
def PI(X:Cx)(tg iter:Expr)(wi:TI):Prop:=
 ∀(pins:aZ) (s:Shared) (σ:St) (H:Hp) (R:It→Hp→Prop),Inv X pins σ H s→wi σ H R→
  wpAny (model X.prog X.w) X.A (eval iter X.env) (fun v s1=>wpAny (model X.prog X.w) X.A (pyIter v) (CM X pins σ tg R) X.xe s1) X.xe s
variable {tg:Expr}
theorem za{it:Addr}{u:Value}{o:Obj}{n:String}{vs:Array Value}{Q:Unit→Shared→Prop}(ho:s.heap.get? it=some o)(hc:o.cls=.type n)(hd:o.data=.fields vs)
    (hn:["enumerate","zip","dict_itemiterator","dict_reverseitemiterator","odict_iterator","itertools.zip_longest","itertools.pairwise"].contains n=false) (hQ:Q () s):wpAny M A (letOwnedTupleGo tg (.ref it) u) Q E s:=by
  unfold letOwnedTupleGo
  cases tg <;> first
    | exact d_ hQ
    | (cases u <;> first
        | exact d_ hQ
        | (refine cC (wpAny_load ho ?_)
           rw [hc,hd];show wpAny M A (if (["enumerate","zip","dict_itemiterator","dict_reverseitemiterator","odict_iterator","itertools.zip_longest","itertools.pairwise"].contains n && vs[0]? == some (rawInt _))=true then _ else _) Q E s
           rw [ao (by intro h;rw [hn,Bool.false_and] at h;cases h)]
           exact d_ hQ))
def sF(K:aF)(a:Addr):It:=
 ⟨fun i H=>∃xs x,bo K H a xs∧xs[i]?=some x,fun i H x H'=>H'=H∧∀xs,bo K H a xs→xs[i]?=some x,fun i H=>∃xs,bo K H a xs∧xs.length≤i⟩
def wJ(K:aF)(a:Addr):It:=
 ⟨fun i H=>∃xs x,eo K H a xs∧xs[i]?=some x,fun i H x H'=>H'=H∧∀xs,eo K H a xs→xs[i]?=some x,fun i H=>∃xs,eo K H a xs∧xs.length≤i⟩
def mU(lo:Int)(n:Nat):It:=⟨fun i _=>i<n,fun i H x H'=>H'=H∧x=.int (lo+i),fun i _=>n≤i⟩
variable {K:aF}
theorem N_(a it:Addr):Turn P w K tg (sF K a) [it] it (fun i h=>h.IsListIter it a i) where
 mem:=by simp
 obj:=fun i h st b hb=>by
  have e:b=it:=by simpa using hb
  subst e;obtain ⟨o,e,c,d⟩:=st;exact ⟨o,e,fun v z=>by rw [d] at z;cases z⟩
 keep:=fun i h h' st k=>st.at fun o e=>k it (by simp) o e
 item:=by
  intro X hP hw hK hc i pins s σ H E I hf st hg;subst hP hw hK;obtain ⟨xs,x,hq,hx⟩:=hg;obtain ⟨aq,rv,p,hz⟩:=I.list hq;obtain ⟨u,hu,ru⟩:=rv.get hx;obtain ⟨f0,f1,f2,f3,f4,f5⟩:=hf it (by simp)
  refine wpAny_pyNext_list_item st p.isList (x:=u) (by simpa using hu) fun h' jx sb=>?_
  have I1:Inv X pins σ H {s with heap:=h'}:=I.turned (t':=s.toks) (fun b o hb e=>(sb.2 b hb).trans e) f0 f1 f3 f4 f5;obtain ⟨o,e,c,d⟩:=id jx;exact ⟨u,rfl,za (s:={s with heap:=h'}) e c d (by decide) ⟨x,H,I1,ru,⟨rfl,fun ys hy=>by rw [I.yZ hy hq];exact hx⟩,jx,fun b hb=>(hf b hb).1⟩⟩
 done:=by
  intro X hP hw hK hc i pins s σ H E I hf st hg;subst hP hw hK;obtain ⟨xs,hq,hx⟩:=hg;obtain ⟨aq,rv,p,hz⟩:=I.list hq;obtain ⟨f0,f1,f2,f3,f4,f5⟩:=hf it (by simp)
  have hl:=rv.length;exact wpAny_pyNext_list_end (I.ok.hd hc) st p.isList (by simp;lia) fun h' eb=>⟨rfl,I.turned (t':=s.toks) (fun b o hb e=>eb b o hb e) f0 f1 f3 f4 f5⟩
 self:=fun _ _ _ _ _ st h=>wpAny_pyIter_listiter st h
theorem Oa(a it:Addr):Turn P w K tg (wJ K a) [it] it (fun i h=>h.IsTupleIter it a i) where
 mem:=by simp
 obj:=fun i h st b hb=>by
  have e:b=it:=by simpa using hb
  subst e;obtain ⟨o,e,c,d⟩:=st;exact ⟨o,e,fun v z=>by rw [d] at z;cases z⟩
 keep:=fun i h h' st k=>st.at fun o e=>k it (by simp) o e
 item:=by
  intro X hP hw hK hc i pins s σ H E I hf st hg;subst hP hw hK;obtain ⟨xs,x,hq,hx⟩:=hg;obtain ⟨aq,rv,p,hz⟩:=I.tuple hq;obtain ⟨u,hu,ru⟩:=rv.get hx;obtain ⟨f0,f1,f2,f3,f4,f5⟩:=hf it (by simp)
  refine wpAny_pyNext_tuple_item st (show s.heap.IsTuple a aq.toArray from p) (x:=u) (by simpa using hu) fun h' jx sb=>?_
  have I1:Inv X pins σ H {s with heap:=h'}:=I.turned (t':=s.toks) (fun b o hb e=>(sb.2 b hb).trans e) f0 f1 f3 f4 f5;obtain ⟨o,e,c,d⟩:=id jx;exact ⟨u,rfl,za (s:={s with heap:=h'}) e c d (by decide) ⟨x,H,I1,ru,⟨rfl,fun ys hy=>by rw [I.NQ hy hq];exact hx⟩,jx,fun b hb=>(hf b hb).1⟩⟩
 done:=by
  intro X hP hw hK hc i pins s σ H E I hf st hg;subst hP hw hK;obtain ⟨xs,hq,hx⟩:=hg;obtain ⟨aq,rv,p,hz⟩:=I.tuple hq;obtain ⟨f0,f1,f2,f3,f4,f5⟩:=hf it (by simp)
  have hl:=rv.length;exact wpAny_pyNext_tuple_end (I.ok.hd hc) st (show s.heap.IsTuple a aq.toArray from p) (by simp;lia) fun h' eb=>⟨rfl,I.turned (t':=s.toks) (fun b o hb e=>eb b o hb e) f0 f1 f3 f4 f5⟩
 self:=fun _ _ _ _ _ st h=>wpAny_pyIter_tupleiter st h
theorem Ob(it:Addr)(lo:Int)(n:Nat):Turn P w K tg (mU lo n) [it] it (fun i h=>IsRangeIter h it (lo+(i:Nat)*1) ((n:Int)-(i:Nat)) 1) where
 mem:=by simp
 obj:=fun i h st b hb=>by
  have e:b=it:=by simpa using hb
  subst e;exact ⟨_,st,fun v z=>by have z':Data.fields _=Data.cell v:=z;cases z'⟩
 keep:=fun i h h' st k=>k it (by simp) _ st
 item:=by
  intro X hP hw hK hc i pins s σ H E I hf st hg;subst hP hw hK;obtain ⟨f0,f1,f2,f3,f4,f5⟩:=hf it (by simp)
  have W:=Walks.range (prog:=X.prog) (w:=X.w) (I.ok.hd hc) it lo 1 n;refine W.item i s _ _ hg st fun v h' tk hv jx kk=>?_;obtain ⟨t,rfl⟩:=hv;have I1:Inv X pins σ H {s with heap:=h',toks:=tk}:=I.turned (fun b o hb e=>kk b o (by simpa using hb) e) f0 f1 f3 f4 f5
  refine ⟨_,rfl,za (s:={s with heap:=h',toks:=tk}) (n:="range_iterator") jx rfl rfl (by decide) ⟨.int (lo+i),H,I1,⟨t,?_⟩,⟨rfl,rfl⟩,jx,fun b hb=>(hf b hb).1⟩⟩
  rw [fU]
 done:=by
  intro X hP hw hK hc i pins s σ H E I hf st hg;subst hP hw hK;obtain ⟨f0,f1,f2,f3,f4,f5⟩:=hf it (by simp)
  exact wpAny_pyNext_range_end (I.ok.hd hc) st (by have:n≤i:=hg;lia) fun h' eb=>⟨rfl,I.turned (t':=s.toks) (fun b o hb e=>eb b o hb e) f0 f1 f3 f4 f5⟩
 self:=fun _ _ _ _ _ st h=>wpAny_pyIter_rangeiter st h
section
variable {X:Cx} {tg:Expr}
def Oc(K:aF)(tl:TE):TI:=fun σ H R=>tl σ H fun x H1=>∃a,x=.ref a∧(∃xs,bo K H1 a xs)∧R (sF K a) H1
def Od(K:aF)(tl:TE):TI:=fun σ H R=>tl σ H fun x H1=>∃a,x=.ref a∧(∃xs,eo K H1 a xs)∧R (wJ K a) H1
variable {l:Expr} {tl:TE}
theorem km(hl:PE X l tl):PI X tg l (Oc X.K tl):=by
 intro pins s σ H R I h;refine aG (hl pins s σ H _ I h) fun v s1 ⟨x,H1,I1,r1,q1⟩=>?_;obtain ⟨a,e,⟨xs,hq⟩,q⟩:=q1;subst e;cases r1;obtain ⟨aq,rv,p,hz⟩:=I1.list hq;refine wpAny_pyIter_list p.isList ?_;refine ⟨s1.heap.objs.size,[s1.heap.objs.size],_,_,H1,rfl,I1.kept (t':=s1.toks) fun b o e=>dj _ e,N_ a _,⟨_,gC _ rfl,rfl,rfl⟩,fun b hb=>?_,q⟩;have e:b=s1.heap.objs.size:=by simpa using hb
 subst e;exact I1.sD (aJ _) (I1.aC.fresh (aJ _))
theorem Oe(hl:PE X l tl):PI X tg l (Od X.K tl):=by
 intro pins s σ H R I h;refine aG (hl pins s σ H _ I h) fun v s1 ⟨x,H1,I1,r1,q1⟩=>?_;obtain ⟨a,e,⟨xs,hq⟩,q⟩:=q1;subst e;cases r1;obtain ⟨aq,rv,p,hz⟩:=I1.tuple hq;refine wpAny_pyIter_tuple (show s1.heap.IsTuple a aq.toArray from p) ?_;refine ⟨s1.heap.objs.size,[s1.heap.objs.size],_,_,H1,rfl,I1.kept (t':=s1.toks) fun b o e=>dj _ e,Oa a _,⟨_,gC _ rfl,rfl,rfl⟩,fun b hb=>?_,q⟩;have e:b=s1.heap.objs.size:=by simpa using hb
 subst e;exact I1.sD (aJ _) (I1.aC.fresh (aJ _))
variable {pins:aZ}
theorem Of{R:It→Hp→Prop}{lo hi:Int}{t u v:Tok}{tk:Nat}(I:Inv X pins σ H s)(h1:-(2 ^ 62)≤lo)(h2:lo<2 ^ 62)(h3:-(2 ^ 62)≤hi)(h4:hi<2 ^ 62)
  (q:R (mU lo (hi-lo).toNat) H):wpAny (model X.prog X.w) X.A (pyIter (.ref s.heap.objs.size)) (CM X pins σ tg R) E {s with heap:=s.heap.push {cls:=.type "range",data:=.fields #[.int lo t,.int hi u,.int 1 v]},toks:=tk}:=by
 refine wpAny_pyIter_range (IsRange.new ..) (small_one h1 h2 h3 h4) ?_;have I1:Inv X pins σ H {s with heap:=s.heap.push {cls:=.type "range",data:=.fields #[.int lo t,.int hi u,.int 1 v]},toks:=tk}:=I.kept fun b o e=>dj _ e
 refine ⟨(s.heap.push {cls:=.type "range",data:=.fields #[.int lo t,.int hi u,.int 1 v]}).objs.size,[(s.heap.push {cls:=.type "range",data:=.fields #[.int lo t,.int hi u,.int 1 v]}).objs.size],_,_,H,rfl,
  I1.kept (t':=tk) fun b o e=>dj _ e,Ob _ lo (hi-lo).toNat,?_,fun b hb=>?_,q⟩
 ·have e1:lo+((0:Nat):Int)*1=lo:=by simp
  have e2:(((hi-lo).toNat:Nat):Int)-((0:Nat):Int)=Builtin.Range.rangeSize lo hi 1:=by rw [rangeSize_one];split <;> lia
  show IsRangeIter _ _ (lo+((0:Nat):Int)*1) ((((hi-lo).toNat:Nat):Int)-((0:Nat):Int)) 1;rw [e1,e2];exact gC _ rfl
 ·have e:b=(s.heap.push {cls:=.type "range",data:=.fields #[.int lo t,.int hi u,.int 1 v]}).objs.size:=by simpa using hb
  subst e;exact I1.sD (aJ _) (I1.aC.fresh (aJ _))
def Og(ta:TA):TI:=fun σ H R=>ta σ H fun vs H1=>∃j:Int,vs=[.int j]∧-(2 ^ 62)≤j∧j<2 ^ 62∧R (mU 0 j.toNat) H1
variable {pos:Pos}
theorem hE{a:Expr}{ta:TA}{p:Pos}(hg:Gl X "range")(hm:X.mg "range"=none)(ha:PA X [a] ta)(hs:starEach [a] X.env=[(false,eval a X.env)]:=by rfl):PI X tg (.Call (.Name "range" p) [a] [] pos) (Og ta):=by
 intro pins s σ H R I h;refine Call_ (oO I hg hm boot_range (vQ (aG (ha pos pins s σ H _ I h) fun us s1 ⟨vs,H1,I1,r1,q1⟩=>?_) hs rfl));obtain ⟨j,e,q1,q2,q⟩:=q1;subst e;cases r1 with
 | cons r rr=>cases rr;obtain ⟨t,rfl⟩:=r;exact call_range_1 (Of I1 (by lia) (by lia) q1 q2 (by simpa using q))
def Oh(wi:TI)(g:TG)(tb:TS):TS:=fun D σ H=>wi σ H fun J H1=>∃W:Nat→Nat→St→Hp→Prop,(∃m,W 0 m σ H1)∧∀i m σ H,W i m σ H→
 (J.stop i H∧D.nx σ H)∨(J.go i H∧∃N:St→Hp→Prop,(∀σ' H',N σ' H'→∃m',m'<m∧W (i+1) m' σ' H')∧∀x H',J.eW i H x H'→g x σ H' fun σ2 H2=>tb {D with nx:=N,ct:=N,bk:=D.nx} σ2 H2)
def i5(fp:List Addr)(h:Heap):List (Addr×Obj):=fp.filterMap fun b=>(h.get? b).map fun o=>(b,o)
variable {fp:List Addr}
theorem kn{o:Obj}(hb:b∈fp)(e:h.get? b=some o):(b,o)∈i5 fp h:=List.mem_filterMap.mpr ⟨b,hb,by rw [e];rfl⟩
theorem Oi{p:Addr×Obj}(hp:p∈i5 fp h):p.1∈fp∧h.get? p.1=some p.2:=by
 obtain ⟨b,hb,e⟩:=List.mem_filterMap.mp hp;cases q:h.get? b with
 | none=>rw [q] at e;cases e
 | some o=>rw [q] at e;have e':(b,o)=p:=Option.some.inj e;subst e';exact ⟨hb,q⟩
theorem Inv.pinned(I:Inv X pins σ H s)(hf:∀b∈fp,kl X pins H b)(ho:∀b∈fp,∃o,s.heap.get? b=some o∧∀v,o.data≠.cell v):Inv X (pins++i5 fp s.heap) σ H s:=
 I.GU fun p hp=>(ik.mp hp).elim (fun z=>I.pin p (dS _ z)) fun z=>by obtain ⟨hb,e⟩:=Oi z;obtain ⟨f0,f1,f2,_⟩:=hf p.1 hb;obtain ⟨o,e',d⟩:=ho p.1 hb;rw [e] at e';cases e';exact ⟨e,f0,f1,f2,d⟩
theorem Inv.oS{pl:aZ}(I:Inv X (pins++pl) σ H s):Inv X pins σ H s:=I.GU fun p hp=>I.pin p (dS _ (List.mem_append_left _ hp))
theorem i6{iter:Expr}{body:List Stmt}{wi:TI}{g:TG}{tb:TS}(hp:PassesOwn (model X.prog X.w) X.A X.env X.xe)(hc:X.calm=true)(hi:PI X tg iter wi)(hg:PG X tg g)(hb:eU X body tb)
  (hs:∀x,foldedSetIterable iter X.env x=pure x:=by intro _;rfl):PS X (.For tg iter body [] pos) (Oh wi g tb):=by
 intro pins s σ H D I h;refine wpAny_For (aG (hi pins s σ H _ I h) fun v s1 h1=>aG h1 fun sE s2 h2=>?_) hs;obtain ⟨it,fp,tn,J,H2,e,I2,T,fZ,f2,W,⟨m0,w0⟩,turn⟩:=h2;subst e;have fh:∀{H':Hp},(∀b∈fp,H' b=none)→∀b∈fp,kl X pins H' b:=fun hn b hb=>⟨hn b hb,(f2 b hb).2⟩;refine codeAny_forLoop_any (fun n s'=>∃i σ' H',Inv X pins σ' H' s'∧tn i s'.heap∧(∀b∈fp,H' b=none)∧W i n σ' H') ?_ m0 ⟨0,σ,H2,I2,fZ,fun b hb=>(f2 b hb).1,w0⟩;rintro n s3 ⟨i,σ3,H3,I3,Hn,Ho,w3⟩;rcases turn i n σ3 H3 w3 with ⟨stop,qn⟩ | ⟨go,N,hN,step⟩
 ·refine oA hp (aG (T.done X rfl rfl rfl hc i pins s3 σ3 H3 X.xe I3 (fh Ho) Hn stop) fun r s4 ⟨hr,I4⟩=>?_)
  subst hr;exact yA ⟨σ3,H3,I4,qn⟩
 ·refine oA hp (aG (T.item X rfl rfl rfl hc i pins s3 σ3 H3 X.xe I3 (fh Ho) Hn go) fun r s4 ⟨u,hr,h4⟩=>?_)
  subst hr;refine oA hp (aG h4 fun _ s5 ⟨x,H5,I5,r5,y5,fi,lI⟩=>?_);have lJ:=I5.pinned (fh lI) (T.obj _ _ fi);refine oA hp (aG (hg _ s5 σ3 H5 x u _ lJ r5 (step x H5 y5)) fun _ s6 ⟨σ6,H6,I6,q6⟩=>?_);refine oA hp (aG (hb _ s6 σ6 H6 _ I6 q6) fun f s7 q7=>?_);have again:∀{σ7:St} {H7:Hp},Inv X (pins++i5 fp s5.heap) σ7 H7 s7→N σ7 H7→∃m,m<n∧∃i σ' H',Inv X pins σ' H' s7∧tn i s7.heap∧(∀b∈fp,H' b=none)∧W i m σ' H':=fun{σ7 H7} I7 n7=>by obtain ⟨m',hm,w7⟩:=hN σ7 H7 n7;refine ⟨m',hm,i+1,σ7,H7,I7.oS,T.keep _ _ _ fi fun b hb o e=>(I7.pin (b,o) (dS _ (dS _ (kn hb e)))).1,fun b hb=>?_,w7⟩;obtain ⟨o,e,d⟩:=T.obj _ _ fi b hb;exact (I7.pin (b,o) (dS _ (dS _ (kn hb e)))).2.1
  cases f with
  | next=>obtain ⟨σ7,H7,I7,n7⟩:=q7;exact again I7 n7
  | cont=>obtain ⟨σ7,H7,I7,n7⟩:=q7;exact again I7 n7
  | brk=>obtain ⟨σ7,H7,I7,q7⟩:=q7;exact ⟨σ7,H7,I7.oS,q7⟩
  | ret v=>obtain ⟨x7,σ7,H7,I7,r7,q7⟩:=q7;exact ⟨x7,σ7,H7,I7.oS,r7,q7⟩
end
variable {g:TG} {tb:TS} {D:Ends}
theorem Hq{a:Addr}(Pv:Nat→St→Hp→Prop)(h0:Pv 0 σ H)(hl:∀i σ H,i≤xs.length→Pv i σ H→bo K H a xs)
  (hs:∀i x σ H,xs[i]?=some x→Pv i σ H→g x σ H fun σ2 H2=>tb {D with nx:=Pv (i+1),ct:=Pv (i+1),bk:=D.nx} σ2 H2) (hd:∀σ H,Pv xs.length σ H→D.nx σ H) :
  ∃W:Nat→Nat→St→Hp→Prop,(∃m,W 0 m σ H)∧∀i m σ H,W i m σ H→
   ((sF K a).stop i H∧D.nx σ H)∨((sF K a).go i H∧∃N:St→Hp→Prop,(∀σ' H',N σ' H'→∃m',m'<m∧W (i+1) m' σ' H')∧∀x H',(sF K a).eW i H x H'→g x σ H' fun σ2 H2=>tb {D with nx:=N,ct:=N,bk:=D.nx} σ2 H2):=by
 refine ⟨fun i m σ H=>m=xs.length-i∧i≤xs.length∧Pv i σ H,⟨xs.length,by simp,b9 _,h0⟩,?_⟩
 rintro i m σ H ⟨rfl,hi,p⟩;have q:=hl i σ H hi p;by_cases cN:i<xs.length
 ·refine .inr ⟨⟨xs,xs[i],q,by simp [cN]⟩,Pv (i+1),fun σ' H' p'=>⟨xs.length-(i+1),by lia,rfl,cN,p'⟩,fun x H' y=>?_⟩
  obtain ⟨e,y⟩:=y;subst e;exact hs i x σ _ (y xs q) p
 ·have e:i=xs.length:=by lia
  subst e;exact .inl ⟨⟨xs,q,aJ _⟩,hd σ H p⟩
theorem Oj{a:Addr}(Pv:Nat→St→Hp→Prop)(h0:Pv 0 σ H)(hl:∀i σ H,i≤xs.length→Pv i σ H→eo K H a xs)
  (hs:∀i x σ H,xs[i]?=some x→Pv i σ H→g x σ H fun σ2 H2=>tb {D with nx:=Pv (i+1),ct:=Pv (i+1),bk:=D.nx} σ2 H2) (hd:∀σ H,Pv xs.length σ H→D.nx σ H) :
  ∃W:Nat→Nat→St→Hp→Prop,(∃m,W 0 m σ H)∧∀i m σ H,W i m σ H→
   ((wJ K a).stop i H∧D.nx σ H)∨((wJ K a).go i H∧∃N:St→Hp→Prop,(∀σ' H',N σ' H'→∃m',m'<m∧W (i+1) m' σ' H')∧∀x H',(wJ K a).eW i H x H'→g x σ H' fun σ2 H2=>tb {D with nx:=N,ct:=N,bk:=D.nx} σ2 H2):=by
 refine ⟨fun i m σ H=>m=xs.length-i∧i≤xs.length∧Pv i σ H,⟨xs.length,by simp,b9 _,h0⟩,?_⟩
 rintro i m σ H ⟨rfl,hi,p⟩;have q:=hl i σ H hi p;by_cases cN:i<xs.length
 ·refine .inr ⟨⟨xs,xs[i],q,by simp [cN]⟩,Pv (i+1),fun σ' H' p'=>⟨xs.length-(i+1),by lia,rfl,cN,p'⟩,fun x H' y=>?_⟩
  obtain ⟨e,y⟩:=y;subst e;exact hs i x σ _ (y xs q) p
 ·have e:i=xs.length:=by lia
  subst e;exact .inl ⟨⟨xs,q,aJ _⟩,hd σ H p⟩
variable {n:Nat}
theorem sG{lo:Int}(Pv:Nat→St→Hp→Prop)(h0:Pv 0 σ H)
  (hs:∀i σ H,i<n→Pv i σ H→g (.int (lo+i)) σ H fun σ2 H2=>tb {D with nx:=Pv (i+1),ct:=Pv (i+1),bk:=D.nx} σ2 H2) (hd:∀σ H,Pv n σ H→D.nx σ H) :
  ∃W:Nat→Nat→St→Hp→Prop,(∃m,W 0 m σ H)∧∀i m σ H,W i m σ H→
   ((mU lo n).stop i H∧D.nx σ H)∨((mU lo n).go i H∧∃N:St→Hp→Prop,(∀σ' H',N σ' H'→∃m',m'<m∧W (i+1) m' σ' H')∧∀x H',(mU lo n).eW i H x H'→g x σ H' fun σ2 H2=>tb {D with nx:=N,ct:=N,bk:=D.nx} σ2 H2):=by
 refine ⟨fun i m σ H=>m=n-i∧i≤n∧Pv i σ H,⟨n,by simp,b9 _,h0⟩,?_⟩
 rintro i m σ H ⟨rfl,hi,p⟩;by_cases cN:i<n
 ·refine .inr ⟨cN,Pv (i+1),fun σ' H' p'=>⟨n-(i+1),by lia,rfl,cN,p'⟩,fun x H' y=>?_⟩
  obtain ⟨e,y⟩:=y;subst e y;exact hs i σ _ cN p
 ·have e:i=n:=by lia
  subst e;exact .inl ⟨aJ _,hd σ H p⟩
abbrev R2:=V→V→Hp→VK→Prop
def cE(X:Cx)(f:Value→Value→Sem Value)(r:R2):Prop:=
 ∀(pins:aZ) (s:Shared) (σ:St) (H:Hp) (x y:V) (v u:Value) (Q:VK),Inv X pins σ H s→RelV x v→RelV y u→r x y H Q→
  wpAny (model X.prog X.w) X.A (f v u) (EP X pins σ Q) X.xe s
def CN(X:Cx)(f:Value→Sem Value)(r:V→Hp→VK→Prop):Prop:=
 ∀(pins:aZ) (s:Shared) (σ:St) (H:Hp) (x:V) (v:Value) (Q:VK),Inv X pins σ H s→RelV x v→r x H Q→
  wpAny (model X.prog X.w) X.A (f v) (EP X pins σ Q) X.xe s
def ko(X:Cx)(f:Value)(r:List V→Hp→VK→Prop):Prop:=
 ∀(pins:aZ) (s:Shared) (σ:St) (H:Hp) (xs:List V) (us:List Value) (Q:VK),Inv X pins σ H s→Vals xs us→r xs H Q→
  wpAny (model X.prog X.w) X.A (call f us) (EP X pins σ Q) X.xe s
def oT(r:R2)(ta tb:TE):TE:=fun σ H Q=>ta σ H fun x H1=>tb σ H1 fun y H2=>r x y H2 Q
def Ol(r:V→Hp→VK→Prop)(ta:TE):TE:=fun σ H Q=>ta σ H fun x H1=>r x H1 Q
def rI(C:Int→Int→Prop)(g:Int→Int→V):R2:=fun x y H Q=>∃i j,x=.int i∧y=.int j∧C i j∧Q (g i j) H
def mV(g:Int→Int→V):R2:=fun x y H Q=>∃i j,x=.int i∧y=.int j∧Q (g i j) H
def rU(g:Int→V):V→Hp→VK→Prop:=fun x H Q=>∃i,x=.int i∧Q (g i) H
section
variable {X:Cx} {a b c:Expr} {ta tb tc:TE} {pos:Pos}
variable {f:Value→Value→Sem Value}
theorem CO(ha:PE X a ta)(hb:PE X b tb){pins:aZ}{R:V→V→Hp→Prop}(I:Inv X pins σ H s)
  (h:ta σ H fun x H1=>tb σ H1 fun y H2=>R x y H2) {Q:b_}
  (hf:∀v u s2 x y H2,Inv X pins σ H2 s2→RelV x v→RelV y u→R x y H2→wpAny (model X.prog X.w) X.A (f v u) Q X.xe s2) :
  wpAny (model X.prog X.w) X.A (eval a X.env) (fun v s₁=>wpAny (model X.prog X.w) X.A (eval b X.env) (fun u s₂=>wpAny (model X.prog X.w) X.A (f v u) Q X.xe s₂) X.xe s₁) X.xe s:=by
 refine aG (ha pins s σ H _ I h) fun v s1 ⟨x,H1,I1,r1,q1⟩=>?_;refine aG (hb pins s1 σ H1 _ I1 q1) fun u s2 ⟨y,H2,I2,r2,q2⟩=>?_;exact hf v u s2 x y H2 I2 r1 r2 q2
theorem au{op:Operator}{r:R2}(ho:cE X (binaryOp op) r)(ha:PE X a ta)(hb:PE X b tb):PE X (.BinOp a op b pos) (oT r ta tb):=by intro pins s σ H Q I h;exact wpAny_BinOp (CO ha hb I h fun v u s2 x y H2 I2 rx ry q=>ho pins s2 σ H2 x y v u Q I2 rx ry q)
theorem jy{op:UnaryOp}{r:V→Hp→VK→Prop}(ho:CN X (unaryOp op) r)(ha:PE X a ta):PE X (.UnaryOp op a pos) (Ol r ta):=by intro pins s σ H Q I h;exact UnaryOp_ (aG (ha pins s σ H _ I h) fun v s1 ⟨x,H1,I1,r1,q1⟩=>ho pins s1 σ H1 x v Q I1 r1 q1)
theorem oU{C:Int→Int→Prop}{g:Int→Int→Int}
  (rule:∀(i j:Int) (t u:Tok) (s:Shared) (Q:b_) (E:b_),C i j→Q (.int (g i j) s.toks) {s with toks:=s.toks+1}→wpAny (model X.prog X.w) X.A (f (.int i t) (.int j u)) Q E s) :
  cE X f (rI C fun i j=>.int (g i j)):=by
 intro pins s σ H x y v u Q I rx ry h;obtain ⟨i,j,rfl,rfl,hc,q⟩:=h;obtain ⟨t,rfl⟩:=rx;obtain ⟨t',rfl⟩:=ry;exact rule i j t t' s _ _ hc ⟨.int (g i j),H,I.tok _,⟨_,rfl⟩,q⟩
theorem Hr{g:Int→Int→Int}
  (rule:∀(i j:Int) (t u:Tok) (s:Shared) (Q:b_) (E:b_),Q (.int (g i j) s.toks) {s with toks:=s.toks+1}→wpAny (model X.prog X.w) X.A (f (.int i t) (.int j u)) Q E s) :
  cE X f (mV fun i j=>.int (g i j)):=by
 intro pins s σ H x y v u Q I rx ry h;obtain ⟨i,j,rfl,rfl,q⟩:=h;obtain ⟨t,rfl⟩:=rx;obtain ⟨t',rfl⟩:=ry;exact rule i j t t' s _ _ ⟨.int (g i j),H,I.tok _,⟨_,rfl⟩,q⟩
theorem zb{g:Int→Int→Bool}
  (rule:∀(i j:Int) (t u:Tok) (s:Shared) (Q:b_) (E:b_),Q (.bool (g i j)) s→wpAny (model X.prog X.w) X.A (f (.int i t) (.int j u)) Q E s) :
  cE X f (mV fun i j=>.bl (g i j)):=by
 intro pins s σ H x y v u Q I rx ry h;obtain ⟨i,j,rfl,rfl,q⟩:=h;obtain ⟨t,rfl⟩:=rx;obtain ⟨t',rfl⟩:=ry;exact rule i j t t' s _ _ ⟨.bl (g i j),H,I,rfl,q⟩
def Om(i j:Int):Prop:=0<j∧j<1073741824
def Oo(i j:Int):Prop:=0≤j∧j≤1000000∧i.natAbs<2 ^ 64
def CP(i j:Int):Prop:=(-(2 ^ 64)<i∧i<2 ^ 64)∨(-(2 ^ 64)<j∧j<2 ^ 64)
theorem CP.ok{i j:Int}(h:CP i j):IntMulOk i j:=by
 rcases h with ⟨h1,h2⟩ | ⟨h1,h2⟩;·exact .of_left (intBits_le_64 h1 h2)
 ·exact .of_right (intBits_le_64 h1 h2)
theorem d8:cE X (binaryOp .Add) (mV fun i j=>.int (i+j)):=Hr fun _ _ _ _ _ _ _ q=>add_int q
theorem eF:cE X (binaryOp .Sub) (mV fun i j=>.int (i-j)):=Hr fun _ _ _ _ _ _ _ q=>sub_int q
theorem f9:cE X (binaryOp .Mult) (rI CP fun i j=>.int (i*j)):=oU fun _ _ _ _ _ _ _ hc q=>mul_int q hc.ok
theorem Oq:cE X (binaryOp .FloorDiv) (rI Om fun i j=>.int (i / j)):=oU fun i j _ _ _ _ _ hc q=>by have h1:(0:Int)<j:=hc.1;have h2:j<1073741824:=hc.2;exact floordiv_int (by lia) (by rw [vR i (by lia)];exact q) (.inl (PyProof.noPylong_small (by lia)))
theorem eX:cE X (binaryOp .Mod) (rI (fun _ j=>0<j) fun i j=>.int (i % j)):=oU fun i j _ _ _ _ _ hc q=>by have h1:(0:Int)<j:=hc;exact mod_int' (by lia) (by rw [Int.fmod_eq_emod_of_nonneg i (by lia)];exact q)
theorem CQ:cE X (binaryOp .Pow) (rI Oo fun i j=>.int (i ^ j.toNat)):=oU fun _ _ _ _ _ _ _ hc q=>pow_int_small hc.1 hc.2.1 hc.2.2 q
theorem Ot{f:Value→Sem Value}{g:Int→Int}
  (rule:∀(i:Int) (t:Tok) (s:Shared) (Q:b_) (E:b_),Q (.int (g i) s.toks) {s with toks:=s.toks+1}→wpAny (model X.prog X.w) X.A (f (.int i t)) Q E s) :
  CN X f (rU fun i=>.int (g i)):=by
 intro pins s σ H x v Q I rx h;obtain ⟨i,rfl,q⟩:=h;obtain ⟨t,rfl⟩:=rx;exact rule i t s _ _ ⟨.int (g i),H,I.tok _,⟨_,rfl⟩,q⟩
theorem jz:CN X (unaryOp .USub) (rU fun i=>.int (-i)):=Ot fun _ _ _ _ _ q=>neg_int q
end
def CS:V→V→Bool
 | .aV,.aV=>true | .aV,.int _=>true | .int _,.aV=>true | .aV,.bl _=>true | .bl _,.aV=>true | .aV,.str _=>true | .str _,.aV=>true
 | .int _,.int _=>true | .bl _,.bl _=>true | .str _,.str _=>true | .iZ _,.iZ _=>true
 | .int _,.str _=>true | .str _,.int _=>true | .bl _,.str _=>true | .str _,.bl _=>true
 | _,_=>false
def Hs:R2:=fun x y H Q=>CS x y=true∧Q (.bl (decide (x=y))) H
def Ou:R2:=fun x y H Q=>CS x y=true∧Q (.bl (!decide (x=y))) H
theorem Ht{i j:Int}:decide (V.int i=V.int j)=(i == j):=by rw [vS];simp
theorem Hu{i j:Bool}:decide (V.bl i=V.bl j)=(i == j):=by rw [vS];simp
theorem Hv{i j:Str}:decide (V.str i=V.str j)=(i == j):=by rw [vS];simp
theorem Hz{i j:Array UInt8}:decide (V.iZ i=V.iZ j)=(i.toList == j.toList):=by rw [vS];cases i;cases j;simp
section
variable {X:Cx} {a b c:Expr} {ta tb tc:TE} {pos:Pos}
theorem cO{pins:aZ}{Q:VK}{k k':Bool}(I:Inv X pins σ H s)(q:Q (.bl k) H)(e:k=k'):EP X pins σ Q (.bool k') s:=by subst e;exact ⟨.bl k,H,I,rfl,q⟩
theorem dW:cE X (compareOp .Eq) Hs:=by
 intro pins s σ H x y v u Q I rx ry h;obtain ⟨hs,q⟩:=h;cases x with
 | aV=>
  cases rx;cases y with
  | aV=>cases ry;exact PySem.EqNone.eq_none_none (cO I q (by simp))
  | bl j=>cases ry;exact PySem.EqNone.eq_none_bool (cO I q (by simp))
  | int j=>obtain ⟨t',rfl⟩:=ry;exact PySem.EqNone.eq_none_int (cO I q (by simp))
  | str j=>obtain ⟨t',rfl⟩:=ry;exact PySem.EqNone.eq_none_str (cO I q (by simp))
  | _=>exact absurd (show false=true from hs) dk
 | bl i=>
  cases rx;cases y with
  | aV=>cases ry;exact PySem.EqNone.eq_bool_none (cO I q (by simp))
  | bl j=>cases ry;exact eq_bool (cO I q Hu)
  | str j=>obtain ⟨t',rfl⟩:=ry;exact PySem.EqMixed.eq_bool_str (cO I q (by simp))
  | _=>exact absurd (show false=true from hs) dk
 | int i=>
  obtain ⟨t,rfl⟩:=rx;cases y with
  | aV=>cases ry;exact PySem.EqNone.eq_int_none (cO I q (by simp))
  | int j=>obtain ⟨t',rfl⟩:=ry;exact eq_int (cO I q Ht)
  | str j=>obtain ⟨t',rfl⟩:=ry;exact PySem.EqMixed.eq_int_str (cO I q (by simp))
  | _=>exact absurd (show false=true from hs) dk
 | str i=>
  obtain ⟨t,rfl⟩:=rx;cases y with
  | aV=>cases ry;exact PySem.EqNone.eq_str_none (cO I q (by simp))
  | bl j=>cases ry;exact PySem.EqMixed.eq_str_bool (cO I q (by simp))
  | int j=>obtain ⟨t',rfl⟩:=ry;exact PySem.EqMixed.eq_str_int (cO I q (by simp))
  | str j=>obtain ⟨t',rfl⟩:=ry;exact eq_str (cO I q Hv)
  | _=>exact absurd (show false=true from hs) dk
 | iZ i=>
  obtain ⟨t,rfl⟩:=rx;cases y with
  | iZ j=>obtain ⟨t',rfl⟩:=ry;exact PySem.W.eq_bytes (cO I q Hz)
  | _=>exact absurd (show false=true from hs) dk
 | _=>cases y <;> exact absurd (show false=true from hs) dk
theorem oV:cE X (compareOp .NotEq) Ou:=by
 intro pins s σ H x y v u Q I rx ry h;obtain ⟨hs,q⟩:=h;cases x with
 | aV=>
  cases rx;cases y with
  | aV=>cases ry;exact PySem.EqNone.ne_none_none (cO I q (by simp))
  | bl j=>cases ry;exact PySem.EqNone.ne_none_bool (cO I q (by simp))
  | int j=>obtain ⟨t',rfl⟩:=ry;exact PySem.EqNone.ne_none_int (cO I q (by simp))
  | str j=>obtain ⟨t',rfl⟩:=ry;exact PySem.EqNone.ne_none_str (cO I q (by simp))
  | _=>exact absurd (show false=true from hs) dk
 | bl i=>
  cases rx;cases y with
  | aV=>cases ry;exact PySem.EqNone.ne_bool_none (cO I q (by simp))
  | bl j=>cases ry;exact ne_bool (cO I q (fT not Hu))
  | str j=>obtain ⟨t',rfl⟩:=ry;exact PySem.EqMixed.ne_bool_str (cO I q (by simp))
  | _=>exact absurd (show false=true from hs) dk
 | int i=>
  obtain ⟨t,rfl⟩:=rx;cases y with
  | aV=>cases ry;exact PySem.EqNone.ne_int_none (cO I q (by simp))
  | int j=>obtain ⟨t',rfl⟩:=ry;exact ne_int (cO I q (fT not Ht))
  | str j=>obtain ⟨t',rfl⟩:=ry;exact PySem.EqMixed.ne_int_str (cO I q (by simp))
  | _=>exact absurd (show false=true from hs) dk
 | str i=>
  obtain ⟨t,rfl⟩:=rx;cases y with
  | aV=>cases ry;exact PySem.EqNone.ne_str_none (cO I q (by simp))
  | bl j=>cases ry;exact PySem.EqMixed.ne_str_bool (cO I q (by simp))
  | int j=>obtain ⟨t',rfl⟩:=ry;exact PySem.EqMixed.ne_str_int (cO I q (by simp))
  | str j=>obtain ⟨t',rfl⟩:=ry;exact ne_str (cO I q (fT not Hv))
  | _=>exact absurd (show false=true from hs) dk
 | iZ i=>
  obtain ⟨t,rfl⟩:=rx;cases y with
  | iZ j=>obtain ⟨t',rfl⟩:=ry;exact PySem.W.ne_bytes (cO I q (fT not Hz))
  | _=>exact absurd (show false=true from hs) dk
 | _=>cases y <;> exact absurd (show false=true from hs) dk
theorem kq:cE X (compareOp .Lt) (mV fun i j=>.bl (decide (i<j))):=zb fun _ _ _ _ _ _ _ q=>lt_int q
theorem sI:cE X (compareOp .LtE) (mV fun i j=>.bl (decide (i≤j))):=zb fun _ _ _ _ _ _ _ q=>le_int q
theorem jA:cE X (compareOp .Gt) (mV fun i j=>.bl (decide (j<i))):=zb fun _ _ _ _ _ _ _ q=>gt_int q
theorem CT:cE X (compareOp .GtE) (mV fun i j=>.bl (decide (j≤i))):=zb fun _ _ _ _ _ _ _ q=>ge_int q
theorem sJ:cE X (compareOp .Is) (fun x y H Q=>y=.aV∧Q (.bl (decide (x=.aV))) H):=by
 intro pins s σ H x y v u Q I rx ry h;obtain ⟨rfl,q⟩:=h;cases ry;refine is_none_gen (cO I q ?_)
 cases x <;> first
  | (cases rx;rfl)
  | (obtain ⟨t,rfl⟩:=rx;rfl)
theorem HA:cE X (compareOp .IsNot) (fun x y H Q=>y=.aV∧Q (.bl (!decide (x=.aV))) H):=by
 intro pins s σ H x y v u Q I rx ry h;obtain ⟨rfl,q⟩:=h;cases ry;refine isnot_none_gen (cO I q ?_)
 cases x <;> first
  | (cases rx;rfl)
  | (obtain ⟨t,rfl⟩:=rx;rfl)
variable {op:CmpOp}
theorem jB(b:Expr)(h:op≠.In:=by decide)(h2:op≠.NotIn:=by decide):behindInMarks op b=false:=by
 have e1:(op == CmpOp.In)=false:=by cases op <;> first | rfl | exact absurd rfl h
 have e2:(op == CmpOp.NotIn)=false:=by cases op <;> first | rfl | exact absurd rfl h2
 cases b <;> simp [behindInMarks,e1,e2]
variable {r:R2}
theorem Ov(ho:cE X (compareOp op) r)(ha:PE X a ta)(hb:PE X b tb)(hm:behindInMarks op b=false):PE X (.Compare a [op] [b] pos) (oT r ta tb):=by intro pins s σ H Q I h;exact wpAny_Compare1 (CO ha hb I h fun v u s2 x y H2 I2 rx ry q=>ho pins s2 σ H2 x y v u Q I2 rx ry q) hm
theorem mX{a:Expr}(ho:cE X (compareOp op) r)(ha:PE X a ta)(hb:PE X b tb)(hm:behindInMarks op b=false:=by exact jB _):PE X (.Compare a [op] [b] pos) (oT r ta tb):=Ov ho ha hb hm
def CU(t:TE):TT:=fun σ H Q=>t σ H fun x H'=>∃k,x=.bl k∧Q k H'
theorem kr{op:CmpOp}{r:R2}(ho:cE X (compareOp op) r)(ha:PE X a ta)(hb:PE X b tb)(hm:behindInMarks op b=false):PT X (.Compare a [op] [b] pos) (CU (oT r ta tb)):=by intro pins s σ H Q I h;refine wpAny_isTrue_Compare1 (aG (ha pins s σ H _ I h) fun v s1 ⟨x,H1,I1,r1,q1⟩=>aG (hb pins s1 σ H1 _ I1 q1) fun u s2 ⟨y,H2,I2,r2,q2⟩=>aG (ho pins s2 σ H2 x y v u _ I2 r1 r2 q2) fun c s3 ⟨z,H3,I3,r3,k,e,q3⟩=>?_) hm;subst e;cases r3;exact k4 ⟨H3,I3,q3⟩
theorem bG{a:Expr}(ho:cE X (compareOp op) r)(ha:PE X a ta)(hb:PE X b tb)(hm:behindInMarks op b=false:=by exact jB _):PT X (.Compare a [op] [b] pos) (CU (oT r ta tb)):=kr ho ha hb hm
def HB(r r':R2)(ta tb tc:TE):TE:=fun σ H Q=>ta σ H fun x H1=>tb σ H1 fun y H2=>r x y H2 fun z H3=>∃k,z=.bl k ∧
 (if k=true then tc σ H3 fun w' H4=>r' y w' H4 Q else Q (.bl false) H3)
variable {oW:CmpOp} {r':R2}
theorem HC(ho:cE X (compareOp op) r)(jv:cE X (compareOp oW) r')(ha:PE X a ta)(hb:PE X b tb)(hc:PE X c tc)
  (hm:lastMarks [op,oW] [b,c]=false:=by with_unfolding_all rfl):PE X (.Compare a [op,oW] [b,c] pos) (HB r r' ta tb tc):=by
 intro pins s σ H Q I h;refine Compare_chain (aG (ha pins s σ H _ I h) fun v s1 ⟨x,H1,I1,r1,q1⟩=>chain_link (aG (hb pins s1 σ H1 _ I1 q1) fun u s2 ⟨y,H2,I2,r2,q2⟩=>aG (ho pins s2 σ H2 x y v u _ I2 r1 r2 q2) fun d s3 ⟨z,H3,I3,r3,k,e,q3⟩=>?_)) hm;subst e;cases r3;refine k4 ?_;cases k with
 | false=>exact ite_ff ⟨.bl false,H3,I3,rfl,q3⟩
 | true=>exact ite_tt (chain_last (aG (hc pins s3 σ H3 _ I3 q3) fun w' s4 ⟨z',H4,I4,r4,q4⟩=>jv pins s4 σ H4 y z' u w' Q I4 r2 r4 q4))
theorem Ow(ho:cE X (compareOp op) r)(jv:cE X (compareOp oW) r')(ha:PE X a ta)(hb:PE X b tb)(hc:PE X c tc)
  (hm:lastMarks [op,oW] [b,c]=false:=by with_unfolding_all rfl):PT X (.Compare a [op,oW] [b,c] pos) (CU (HB r r' ta tb tc)):=by
 intro pins s σ H Q I h;refine isTrue_chain (aG (ha pins s σ H _ I h) fun v s1 ⟨x,H1,I1,r1,q1⟩=>test_link (aG (hb pins s1 σ H1 _ I1 q1) fun u s2 ⟨y,H2,I2,r2,q2⟩=>aG (ho pins s2 σ H2 x y v u _ I2 r1 r2 q2) fun d s3 ⟨z,H3,I3,r3,k,e,q3⟩=>?_)) hm;subst e;cases r3;refine k4 ?_;cases k with
 | false=>obtain ⟨k',e',q'⟩:=q3;cases e';exact ite_ff ⟨H3,I3,q'⟩
 | true=>refine ite_tt (test_last (aG (hc pins s3 σ H3 _ I3 q3) fun w' s4 ⟨z',H4,I4,r4,q4⟩=>aG (jv pins s4 σ H4 y z' u w' _ I4 r2 r4 q4) fun d' s5 ⟨z2,H5,I5,r5,k2,e2,q5⟩=>?_));subst e2;cases r5;exact k4 ⟨H5,I5,q5⟩
theorem wK:(sizeLine:Nat)<2 ^ 63:=by rw [sizeLine_eq];decide
theorem vals1(r:Vals [x] us):∃u,us=[u]∧RelV x u:=by
 cases r with
 | cons r1 r2=>cases r2;exact ⟨_,rfl,r1⟩
theorem vals2{y:V}(r:Vals [x,y] us):∃u w',us=[u,w']∧RelV x u∧RelV y w':=by
 cases r with
 | cons r1 r2=>
  cases r2 with
  | cons r3 r4=>cases r4;exact ⟨_,_,rfl,r1,r3⟩
theorem zc:ko X (.builtin "abs") (fun xs H Q=>∃i,xs=[.int i]∧Q (.int (if i<0 then -i else i)) H):=by intro pins s σ H xs us Q I r h;obtain ⟨i,rfl,q⟩:=h;obtain ⟨u,rfl,t,rfl⟩:=vals1 r;exact call_abs_int fun u tk=>⟨.int (if i<0 then -i else i),H,I.tok _,⟨_,rfl⟩,q⟩
theorem HD(hc:X.calm=true):ko X (.builtin "max") (fun xs H Q=>∃i j,xs=[.int i,.int j]∧Q (.int (if j>i then j else i)) H):=by
 intro pins s σ H xs us Q I r h;obtain ⟨i,j,rfl,q⟩:=h;obtain ⟨u,w',rfl,⟨t,rfl⟩,⟨t',rfl⟩⟩:=vals2 r;refine max_two_ints (I.ok.hd hc) fun h' tk k=>⟨_,H,I.kept k,?_,q⟩;by_cases hj:j>i;·rw [ar hj,ar hj];exact ⟨_,rfl⟩
 ·rw [ao hj,ao hj];exact ⟨_,rfl⟩
theorem Ox(hc:X.calm=true):ko X (.builtin "min") (fun xs H Q=>∃i j,xs=[.int i,.int j]∧Q (.int (if j<i then j else i)) H):=by
 intro pins s σ H xs us Q I r h;obtain ⟨i,j,rfl,q⟩:=h;obtain ⟨u,w',rfl,⟨t,rfl⟩,⟨t',rfl⟩⟩:=vals2 r;refine min_two_ints (I.ok.hd hc) fun h' tk k=>⟨_,H,I.kept k,?_,q⟩;by_cases hj:j<i;·rw [ar hj,ar hj];exact ⟨_,rfl⟩
 ·rw [ao hj,ao hj];exact ⟨_,rfl⟩
theorem Oy:ko X (.type "int") (fun xs H Q=>(∃i,xs=[.int i]∧Q (.int i) H)∨∃k,xs=[.bl k]∧Q (.int (if k then 1 else 0)) H):=by
 intro pins s σ H xs us Q I r h;rcases h with ⟨i,rfl,q⟩ | ⟨k,rfl,q⟩
 ·obtain ⟨u,rfl,t,rfl⟩:=vals1 r
  exact call_int_int ⟨.int i,H,I,⟨_,rfl⟩,q⟩
 ·obtain ⟨u,rfl,r1⟩:=vals1 r
  cases r1;exact call_int_bool ⟨.int (if k then 1 else 0),H,I.tok _,⟨_,rfl⟩,q⟩
end
structure oX (h:Heap) (x dx C:Addr) (mA:dn):Prop where
 obj:h.get? x=some (PySem.W.instObj C dx)
 ns:h.Ns1 dx mA
 ne:dx≠x
variable {dx:Addr} {mA:dn}
theorem Oz(n:h.Ns1 dx mA):∃od,h.get? dx=some od∧∀name,PySem.W.lookIn name od=some (mA name):=by
 obtain ⟨o,es,ep,ho,hd,hk,_,hm⟩:=n;refine ⟨o,ho,fun name=>?_⟩;have e:=hm name;unfold nsFind findBy at e;rw [←Array.find?_toList] at e;unfold PySem.W.lookIn;rw [hd];dsimp only
 split
 ·rename_i y q
  rw [q] at e;exact fT some e
 ·rename_i q
  rw [q] at e;have a:es.toList.any (·.refKey)=false:=by rw [List.any_eq_false];intro y hy;obtain ⟨z,t,OA⟩:=hk y (Array.mem_toList_iff.mp hy);simp [DictEntry.refKey,OA]
  have a':¬es.toList.any (·.refKey)=true:=by rw [a];exact dk
  rw [ao a'];exact fT some e
variable {C:Addr}
theorem oX.look{x:Addr}(I:oX h x dx C mA):∃od,PySem.W.InstAt h x (PySem.W.instObj C dx) C (some od)∧∀name,PySem.W.lookIn name od=some (mA name):=
 let ⟨od,ho,hl⟩:=Oz I.ns
 ⟨od,⟨I.obj,rfl,rfl,ho⟩,hl⟩
section
variable {prog:Program} {w:World} {A:Around} {E:b_} {s:Shared} {K:aF} {x dx C f:Addr} {mA:dn} {name:Str} {v:Value}
theorem get_map{expr:Bool}{Q:b_}(X:K.In s.heap)(I:oX s.heap x dx C mA)(hg:PySem.W.plainGet K C name=true)(hh:PySem.W.hasDictIn K C=true)
  (ha:PySem.W.findIn K (.ref C) name=some none) (hv:mA name=some v) (sL:PySem.W.handedIn v=true) (h:Q v {s with toks:=s.toks+1}) :
  wpAny (model prog w) A (getAttr (.ref x) name expr) Q E s:=by
 obtain ⟨od,J,hl⟩:=I.look;exact PySem.W.get_value X J (PySem.W.plainGet_of hg).1 (PySem.W.findObj_own hh ha rfl (by rw [hl,hv])) sL h
theorem OB{pl:Sem Bool}{Q:Value×List Value→Shared→Prop}(X:K.In s.heap)(I:oX s.heap x dx C mA)(hg:PySem.W.plainGet K C name=true)
  (hf:PySem.W.findIn K (.ref C) name=some (some (.ref f))) (ht:PySem.W.isFn K (.ref f)=true) (hv:mA name=none) (h:Q (.ref f,[.ref x]) s) :
  wpAny (model prog w) A (getMethod (.ref x) name pl) Q E s:=by
 obtain ⟨od,J,hl⟩:=I.look;exact PySem.W.method_fn X J (PySem.W.plainGet_of hg).1 (PySem.W.plainGet_of hg).2 hf (jZ.mp ht) (by show (PySem.W.lookIn name od).map (·.isSome)=some false;rw [hl,hv];rfl) h
theorem OC{ns:List Str}{Q:Unit→Shared→Prop}(X:K.In s.heap)(I:oX s.heap x dx C mA)
  (hs:PySem.W.findIn K (.ref C) "__setattr__"=some (some (.builtin "object.__setattr__"))) (hp:PySem.W.plainOver K C=true) (ht:PySem.W.takerIn K C name=some none) (hh:PySem.W.hasDictIn K C=true)
  (hw:PySem.Within mA ns) (HE:ns.length≤sizeLine)
  (h:∀h',oX h' x dx C (fun y=>if y=name then some v else mA y)→Heap.SameBut dx s.heap h'→Q () {s with heap:=h',toks:=s.toks+2}) :
  wpAny (model prog w) A (setAttr (.ref x) name v) Q E s:=by
 obtain ⟨od,J,hl⟩:=I.look;refine PySem.W.set_plain X J hs (PySem.W.osa_open (s:={s with toks:=s.toks+1}) (r:=none) X J hp ht fun b=>?_);obtain ⟨cd,hc,lD⟩:=PySem.W.any_some hh;have hx:s.heap.get? x=some ⟨.ref C,some dx,.plain,#[]⟩:=I.obj;refine cC (d_ (cC (cC (wpAny_loadPart hx (cC (PySem.W.Looks.here (s:={s with toks:=s.toks+1}) (PySem.W.looks_clsIn X hc) ?_))))));rw [lD];refine d_ (a:=some dx) (cC (d_ (cC ?_)));refine wpAny_nsSet1 (s:={s with toks:=s.toks+1}) I.ns fun h' sM ku=>?_;obtain ⟨oD,esD,epD,OD,OE,OF⟩:=sM.count (PySem.Within.cons name v hw);refine cC (wpAny_lookBehind OD (by rw [OE];exact pastItsLine_dict (ae OF (by rw [eQ];lia))) ?_)
 exact d_ (h _ ⟨(ku.2 _ (Ne.symm I.ne)).trans I.obj,sM,I.ne⟩ ku)
theorem OG{R:Result→Shared→Prop}{vs:List Value}{kw:List (Str×Value)}(X:K.In s.heap)(hm:PySem.W.makesIn K C=true)
  (hi:PySem.W.findIn K (.ref C) "__init__"=some (some (.ref f))) (hf:PySem.W.typeIn K (.ref f)=some (.type "function"))
  (h:codeAny (model prog w) (A.under (.builtin "type.__call__" ⟨.ref C::vs,kw⟩)) (.call (.ref f) ⟨.ref (s.heap.objs.size+1)::vs,kw⟩) (PySem.W.InitBack (s.heap.objs.size+1) R)
   {s with heap:=(s.heap.push PySem.W.emptyDict).push (PySem.W.instObj C s.heap.objs.size)}) :
  codeAny (model prog w) A (.call (.ref C) ⟨vs,kw⟩) R s:=by
 obtain ⟨hh,g,d,t,os⟩:=s;exact PySem.W.make_core (PySem.W.makes_of X hm) (yB X hi) (fun self=>PySem.W.bind_fn X self hf) (.inl rfl) h
end
def gr(f:Str)(v:V):List (Str×V)→List (Str×V)
 | []=>[(f,v)]
 | (g,x)::r=>if g=f then (g,v)::r else (g,x)::gr f v r
theorem HF(f g:Str)(v:V):∀fs:List (Str×V),(gr f v fs).lookup g=if g=f then some v else fs.lookup g
 | []=>by
  show List.lookup g [(f,v)]=_;by_cases h:g=f
  ·have hb:(g == f)=true:=jZ.mpr h
   simp only [List.lookup,hb,ar h]
  ·have hb:(g == f)=false:=vK.mpr h
   simp only [List.lookup,hb,ao h]
 | (k,x)::r=>by
  have ih:=HF f g v r;rw [show gr f v ((k,x)::r)=(if k=f then (k,v)::r else (k,x)::gr f v r) from rfl]
  by_cases hk:k=f
  ·rw [ar hk]
   by_cases h:g=k
   ·have hb:(g == k)=true:=jZ.mpr h
    simp only [List.lookup,hb,ar (h.trans hk)]
   ·have hb:(g == k)=false:=vK.mpr h
    simp only [List.lookup,hb,ao (fun e:g=f=>h (e.trans hk.symm))]
  ·rw [ao hk]
   by_cases h:g=k
   ·have hb:(g == k)=true:=jZ.mpr h
    simp only [List.lookup,hb,ao (fun e:g=f=>hk (h.symm.trans e))]
   ·have hb:(g == k)=false:=vK.mpr h
    simp only [List.lookup,hb];exact ih
theorem CV(f:Str)(v:V):∀fs:List (Str×V),f∈(gr f v fs).map (·.1)∧∀g,g∈fs.map (·.1)→g∈(gr f v fs).map (·.1)
 | []=>⟨by simp [gr],fun g h=>by simp at h⟩
 | (k,x)::r=>by
  obtain ⟨i1,i2⟩:=CV f v r;rw [show gr f v ((k,x)::r)=(if k=f then (k,v)::r else (k,x)::gr f v r) from rfl]
  by_cases hk:k=f
  ·rw [ar hk]
   subst hk;exact ⟨by simp,fun g h=>by simpa using h⟩
  ·rw [ao hk]
   refine ⟨?_,fun g h=>?_⟩
   ·rw [rQ]
    exact gZ _ i1
   ·rw [rQ] at h ⊢
    rcases dR.mp h with e | e;·exact dR.mpr (.inl e)
    ·exact gZ _ (i2 g e)
theorem HG(f:Str)(v:V):∀fs:List (Str×V),(gr f v fs).length≤fs.length+1
 | []=>by simp [gr]
 | (k,x)::r=>by
  have ih:=HG f v r;rw [show gr f v ((k,x)::r)=(if k=f then (k,v)::r else (k,x)::gr f v r) from rfl]
  by_cases hk:k=f;·rw [ar hk,eQ,eQ];lia
  ·rw [ao hk,eQ,eQ];lia
variable {v:V}
theorem ke.some_of{o:Option Value}(r:ke (some v) o):∃u,o=some u∧RelV v u:=by
 cases o with
 | none=>exact (show False from r).elim
 | some u=>exact ⟨u,rfl,r⟩
theorem ke.none_of{o:Option Value}(r:ke none o):o=none:=by
 cases o with
 | none=>rfl
 | some u=>exact (show False from r).elim
theorem OH{u:Value}(r:RelV v u):PySem.W.handedIn u=true:=by
 cases v with
 | aV=>cases (show u=Value.none from r);rfl
 | bl b=>cases (show u=Value.bool b from r);rfl
 | int i=>obtain ⟨t,e⟩:=(show ∃t,u=Value.int i t from r);cases e;rfl
 | str x=>obtain ⟨t,e⟩:=(show ∃t,u=Value.str x t from r);cases e;rfl
 | iZ b=>obtain ⟨t,e⟩:=(show ∃t,u=Value.bytes b t from r);cases e;rfl
 | oK b=>obtain ⟨t,e⟩:=(show ∃t,u=Value.float b t from r);cases e;rfl
 | ref a=>cases (show u=Value.ref a from r);rfl
 | ty n=>cases (show u=Value.type n from r);rfl
section
variable {P:Program} {w:World} {H H':Hp} {h h':Heap} {a C dx:Addr} {fs Nz:List (Str×V)}
theorem zd(aC:cL P w H h)(e:H a=some (.ins C dx fs)):∃mA,oX h a dx C mA∧(∀f,ke (fs.lookup f) (mA f))∧PySem.Within mA (fs.map (·.1))∧fs.length≤1000∧H dx=some (.own a):=by obtain ⟨d,z,ne,ob,mA,n,r,q⟩:=(show ej P w H h a (.ins C dx fs) from aC a _ e);exact ⟨mA,⟨ob,n,ne⟩,r,q,z,d⟩
end
structure jC (K:aF) (C:Addr):Prop where
 pg:PySem.W.plainGet K C Str.empty=true
 hd:PySem.W.hasDictIn K C=true
 po:PySem.W.plainOver K C=true
 sa:PySem.W.findIn K (.ref C) "__setattr__"=some (some (.builtin "object.__setattr__"))
theorem jC.get{K:aF}{C:Addr}(c:jC K C)(f:Str):PySem.W.plainGet K C f=true:=c.pg
def oY(K:aF)(C:Addr)(f:Str):Prop:=PySem.W.findIn K (.ref C) f=some none
theorem oY.OI{f:Str}(n:oY K C f):PySem.W.takerIn K C f=some none:=by unfold PySem.W.takerIn;rw [show PySem.W.findIn K (.ref C) f=some none from n];rfl
structure Meth (K:aF) (C:Addr) (m:Str) (f:Addr):Prop where
 at_:PySem.W.findIn K (.ref C) m=some (some (.ref f))
 fn:PySem.W.isFn K (.ref f)=true
 kp:PySem.W.keepIn K (.ref f)=true
section
variable {X:Cx} {pins:aZ} {σ:St} {H:Hp} {s:Shared} {a C dx:Addr} {fs:List (Str×V)} {f:Str} {v:V} {A:Around} {E:b_}
variable {Q:b_}
theorem OJ{b:Bool}(I:Inv X pins σ H s)(e:H a=some (.ins C dx fs))(c:jC X.K C)(n:oY X.K C f)(l:fs.lookup f=some v)
  (h:∀u s',Inv X pins σ H s'→RelV v u→Q u s'):wpAny (model X.prog X.w) A (getAttr (.ref a) f b) Q E s:=by
 obtain ⟨mA,O,r,_,_,_⟩:=zd I.aC e;obtain ⟨u,hu,ru⟩:=ke.some_of (v:=v) (o:=mA f) (by rw [←l];exact r f)
 exact get_map I.dC O (c.get f) c.hd n hu (OH ru) (h u _ (I.tok _) ru)
theorem HH{m:Str}{g:Addr}{pl:Sem Bool}{Q:Value×List Value→Shared→Prop}(I:Inv X pins σ H s)(e:H a=some (.ins C dx fs))(c:jC X.K C)(k:Meth X.K C m g)(l:fs.lookup m=none)
  (h:Q (.ref g,[.ref a]) s):wpAny (model X.prog X.w) A (getMethod (.ref a) m pl) Q E s:=by
 obtain ⟨mA,O,r,_,_,_⟩:=zd I.aC e;have hn:mA m=none:=ke.none_of (by rw [←l];exact r m)
 exact OB I.dC O (c.get m) k.at_ k.fn hn h
theorem OK{y:V}{u:Value}{Q:Unit→Shared→Prop}(I:Inv X pins σ H s)(e:H a=some (.ins C dx fs))(c:jC X.K C)(n:oY X.K C f)(hl:fs.length<1000)(ry:RelV y u)
  (h:∀s',Inv X pins σ (upd H a (.ins C dx (gr f y fs))) s'→Q () s'):wpAny (model X.prog X.w) A (setAttr (.ref a) f u) Q E s:=by
 obtain ⟨mA,O,r,wi,_,ho⟩:=zd I.aC e;have hz:(fs.map (·.1)).length≤sizeLine:=by rw [aT,sizeLine_eq];lia
 refine OC I.dC O c.sa c.po n.OI c.hd wi hz fun h' O' sb=>h _ ?_;have hd:∃o,h'.get? dx=some o:=let ⟨o,_,_,e',_⟩:=O'.ns;⟨o,e'⟩
 refine I.write (x:=a) (e:=dx) (by rw [e];exact True.intro) (.inr ho) (fun b q hb z=>(sb.2 b hb).trans z) hd ?_
 refine ⟨by rw [b7 O.ne];exact ho,?_,O.ne,O'.obj,_,O'.ns,fun g=>?_,fun g hg=>?_⟩
 ·have:=HG f y fs;lia
 ·show ke ((gr f y fs).lookup g) (if g=f then some u else mA g)
  rw [HF];by_cases q:g=f;·rw [ar q,ar q];exact ry
  ·rw [ao q,ao q];exact r g
 ·by_cases q:g=f
  ·rw [q];exact (CV f y fs).1
  ·refine (CV f y fs).2 g (wi g fun z=>hg ?_)
   show (if g=f then some u else mA g)=none
   rw [ao q];exact z
theorem Inv.made(I:Inv X pins σ H s):Inv X pins σ (upd (upd H s.heap.objs.size (.own (s.heap.objs.size+1))) (s.heap.objs.size+1) (.ins C s.heap.objs.size []))
  {s with heap:=(s.heap.push PySem.W.emptyDict).push (PySem.W.instObj C s.heap.objs.size)}:=by
 have e1:(s.heap.push PySem.W.emptyDict).get? s.heap.objs.size=some PySem.W.emptyDict:=gC s.heap rfl;have e2:((s.heap.push PySem.W.emptyDict).push (PySem.W.instObj C s.heap.objs.size)).get? (s.heap.objs.size+1)=some (PySem.W.instObj C s.heap.objs.size):=by
  have:=gC (s.heap.push PySem.W.emptyDict) (o:=PySem.W.instObj C s.heap.objs.size) rfl
  rwa [Heap.size_push] at this
 have e3:(s.heap.push PySem.W.emptyDict).Ns s.heap.objs.size (fun _=>none):=⟨PySem.W.emptyDict,#[],_,e1,rfl,(fun e he=>absurd he (by simp)),fun _=>rfl⟩
 have I1:=I.laid (a:=s.heap.objs.size) (o:=.own (s.heap.objs.size+1)) (h':=s.heap.push PySem.W.emptyDict) (t':=s.toks) (fun b u q=>dj _ q) (aJ _) ⟨_,e1⟩;refine I1.laid (a:=s.heap.objs.size+1) (o:=.ins C s.heap.objs.size []) (t':=s.toks) (fun b u q=>dj _ q) (iT (Heap.size_push _ _)) ?_;have ne:s.heap.objs.size≠s.heap.objs.size+1:=d9 (Nat.lt_succ_self _);refine ⟨by rw [b7 ne,av],b9 _,ne,e2,fun _=>none,(Heap.Ns1.of_empty e3).at fun o q=>dj _ q,fun _=>True.intro,fun y hy=>absurd rfl hy⟩
theorem OL{prog:Program}{env:Env}{e:Expr}{pos:Pos}(hb:attributeBase e f env (eval e env)=eval e env)
  (h:wpAny (model prog w) A (eval e env) (fun o s₁=>wpAny (model prog w) A (getAttr o f true) Q E s₁) E s):wpAny (model prog w) A (eval (.Attribute e f pos) env) Q E s:=
 Attribute_any_ h (by rw [arm_eval_Attribute,hb])
end
def HI(K:aF)(ta:TE)(f:Str):TE:=fun σ H Q=>ta σ H fun x H1=>∃a C dx fs v,x=.ref a∧H1 a=some (.ins C dx fs)∧jC K C∧oY K C f∧fs.lookup f=some v∧Q v H1
def OM(K:aF)(ta tv:TE)(f:Str):TS:=fun D σ H=>tv σ H fun y H1=>ta σ H1 fun x H2=>∃a C dx fs,x=.ref a∧H2 a=some (.ins C dx fs)∧jC K C∧oY K C f∧fs.length<1000 ∧
 D.nx σ (upd H2 a (.ins C dx (gr f y fs)))
section
variable {X:Cx} {o e value:Expr} {f:Str} {pos pos' sC:Pos} {ta tv:TE}
theorem oZ(he:PE X e ta)(hb:attributeBase e f X.env (eval e X.env)=eval e X.env):PE X (.Attribute e f pos) (HI X.K ta f):=by intro pins s σ H Q I h;refine OL hb (aG (he pins s σ H _ I h) fun u s1 ⟨x,H1,I1,rx,a,C,dx,fs,v,ex,ea,c,n,l,q⟩=>?_);subst ex;obtain rfl:u=Value.ref a:=rx;exact OJ I1 ea c n l fun u' s2 I2 ru=>⟨v,H1,I2,ru,q⟩
theorem HJ(ha:PE X o ta)(hv:PE X value tv)(hs:swapsWith value (some (.Attribute o f pos')) pos.line X.env=pure false):PS X (.Assign [.Attribute o f pos'] value pos) (OM X.K ta tv f):=by intro pins s σ H D I h;refine plainObj_wpAny_Assign_Attribute (aG (hv pins s σ H _ I h) fun u s1 ⟨y,H1,I1,ry,q⟩=>aG (ha pins s1 σ H1 _ I1 q) fun ov s2 ⟨x,H2,I2,rx,a,C,dx,fs,ex,ea,c,n,l,q2⟩=>?_) hs;subst ex;obtain rfl:ov=Value.ref a:=rx;exact OK I2 ea c n l ry fun s3 I3=>⟨σ,_,I3,q2⟩
theorem abC{pl:Sem Bool}{m:Str}{apos:Pos}{args:List Expr}{pins:aZ}{Q:b_}{te:TE}(he:PE X e te)(I:Inv X pins σ H s)
  (h:te σ H fun x H1=>∃a C dx fs g,x=.ref a∧H1 a=some (.ins C dx fs)∧jC X.K C∧Meth X.K C m g∧fs.lookup m=none ∧
   ∀s1,Inv X pins σ H1 s1→wpAny (model X.prog X.w) X.A (callWith pos (.ref g) [.ref a] (backTo pos (starEach args X.env)) (backToKw pos (keywordEach [] X.env))) Q X.xe s1)
  (ht:eval (.Call (.Attribute e m apos) args [] pos) X.env=(do
   let ov ←eval e X.env
   standAt apos.atName
   let (f,first) ←holding [ov] (getMethod ov m pl)
   callWith pos f first (backTo pos (starEach args X.env)) (backToKw pos (keywordEach [] X.env)))) :
  wpAny (model X.prog X.w) X.A (eval (.Call (.Attribute e m apos) args [] pos) X.env) Q X.xe s:=by
 refine PySem.W.methodCall_KW (pl:=pl) (aG (he pins s σ H _ I h) fun u s1 ⟨x,H1,I1,rx,a,C,dx,fs,g,ex,ea,c,k,l,q⟩=>?_) ht
 subst ex
 obtain rfl:u=Value.ref a:=rx
 exact HH I1 ea c k l (q s1 I1)
end
section
variable {X:Cx} {pins:aZ} {σ:St} {H:Hp} {s:Shared} {A:Around} {E:b_} {Q:b_} {c:Value} {b:Bool}
inductive iz (K:aF) (H:Hp):V→Value→Prop where
 | aV:iz K H .aV (.type "NoneType")
 | bl (x:Bool):iz K H (.bl x) (.type "bool")
 | int (i:Int):iz K H (.int i) (.type "int")
 | str (x:Str):iz K H (.str x) (.type "str")
 | oK (x:UInt64):iz K H (.oK x) (.type "float")
 | lst {a:Addr} {xs:List V} (e:H a=some (.lst xs)):iz K H (.ref a) (.type "list")
 | gj {a:Addr} {o:Obj} {xs:List V} (e:H a=some (.gj o (.lst xs))):iz K H (.ref a) (.type "list")
 | tup {a:Addr} {xs:List V} (e:H a=some (.tup xs)):iz K H (.ref a) (.type "tuple")
 | dK {a:Addr} {dH:List (Key×V)} (e:H a=some (.dK dH)):iz K H (.ref a) (.type "dict")
 | dT {a:Addr} {dH:List (List Key×V)} (e:H a=some (.dT dH)):iz K H (.ref a) (.type "dict")
 | ins {a C dx:Addr} {fs:List (Str×V)} (e:H a=some (.ins C dx fs)) (cl:jC K C) (ha:PySem.W.findIn K (.ref C) "__class__"=some (some (.builtin "object.__class__")))
   (hn:PySem.W.specialIn K (.builtin "object.__class__") "__get__"=some (some (.builtin "getset_descriptor.__get__"))) (HK:PySem.W.takesIn K (.builtin "object.__class__")=some true)
   (hm:PySem.W.mroIn K C (.type "object")=some true):iz K H (.ref a) (.ref C)
theorem ON{u t:Value}(I:Inv X pins σ H s)(rx:RelV x u)(ty:iz X.K H x t)(e:PySem.W.kitOne X.K t c=some b)(h:∀tk,Q (.bool b) {s with toks:=tk}) :
  wpAny (model X.prog X.w) A (call (.builtin "isinstance") [u,c]) Q E s:=by
 cases ty with
 | aV=>cases (show u=Value.none from rx);exact il PySem.W.kitx_none I.dC True.intro e (fun z=>nomatch z) h
 | bl y=>cases (show u=Value.bool y from rx);exact il PySem.W.kitx_bool I.dC True.intro e (fun z=>nomatch z) h
 | int i=>obtain ⟨t,q⟩:=(show ∃t,u=Value.int i t from rx);cases q;exact il PySem.W.kitx_int I.dC True.intro e (fun z=>nomatch z) h
 | str y=>obtain ⟨t,q⟩:=(show ∃t,u=Value.str y t from rx);cases q;exact il PySem.W.kitx_str I.dC True.intro e (fun z=>nomatch z) h
 | oK y=>obtain ⟨t,q⟩:=(show ∃t,u=Value.float y t from rx);cases q;exact il PySem.W.kitx_float I.dC True.intro e (fun z=>nomatch z) h
 | @lst a xs ea=>cases (show u=Value.ref a from rx);obtain ⟨_,_,n,_,h1⟩:=(show ej X.prog X.w H s.heap a (.lst xs) from I.aC a _ ea);exact il PySem.W.kitx_list I.dC ⟨_,h1,rfl⟩ e (fun z=>nomatch z) h
 | @gj a ob xs ea=>cases (show u=Value.ref a from rx);obtain ⟨_,_,_,n,_,h1⟩:=(show ej X.prog X.w H s.heap a (.gj ob (.lst xs)) from I.aC a _ ea);exact il PySem.W.kitx_list I.dC ⟨_,h1,rfl⟩ e (fun z=>nomatch z) h
 | @tup a xs ea=>cases (show u=Value.ref a from rx);obtain ⟨_,_,_,p⟩:=(show ej X.prog X.w H s.heap a (.tup xs) from I.aC a _ ea);obtain ⟨o,h1,h2,_⟩:=p;exact il PySem.W.kitx_tuple I.dC ⟨o,h1,h2⟩ e (fun z=>nomatch z) h
 | @dK a dH ea=>cases (show u=Value.ref a from rx);obtain ⟨_,_,vs,_,p⟩:=(show ej X.prog X.w H s.heap a (.dK dH) from I.aC a _ ea);obtain ⟨o,es,ep,h1,h2,_⟩:=p;exact il PySem.W.kitx_dict I.dC ⟨o,h1,h2.1⟩ e (fun z=>nomatch z) h
 | @dT a dH ea=>cases (show u=Value.ref a from rx);obtain ⟨_,_,xs,_,o,es,ep,h1,h2,_⟩:=(show ej X.prog X.w H s.heap a (.dT dH) from I.aC a _ ea);exact il PySem.W.kitx_dict I.dC ⟨o,h1,h2.1⟩ e (fun z=>nomatch z) h
 | @ins a C dx fs ea cl ha hn HK hm=>cases (show u=Value.ref a from rx);obtain ⟨mA,O,_⟩:=zd I.aC ea;obtain ⟨od,J,_⟩:=O.look;exact il (PySem.W.kitx_own (cl.get _) cl.hd ha hn HK hm) I.dC J e (fun z=>nomatch z) h
end
structure cW (k:Nat) (A:Around):Prop where
 hd:A.handled=none
 dp:A.depth+3*k+5<recursionLimit
 un:A.units+16*k+200<cLine
variable {k:Nat}
theorem cW.mono{j:Nat}(r:cW k A)(h:j≤k):cW j A:=⟨r.hd,by have:=r.dp;lia,by have:=r.un;lia⟩
theorem cW.deeper(r:cW (k+1) A)(env:Env):cW k (A.deeper env):=
 ⟨r.hd,by have:=r.dp;show A.depth+1+3*k+5<_;lia,by have:=r.un;show A.units+3+16*k+200<_;lia⟩
variable {kw:List (Str×Value)}
theorem OO:(A.under (.builtin "type.__call__" ⟨.ref C::us,kw⟩)).depth=A.depth+1:=by first | rfl | simp [Around.under,Code.weight,Code.isCreation,Code.isGuard,Code.isCaller,Code.frames,Code.isFrame,guardIds]
theorem OP:(A.under (.builtin "type.__call__" ⟨.ref C::us,kw⟩)).units=A.units+1:=by first | rfl | simp [Around.under,Code.cUnits,Code.frames,Code.isFrame]
theorem cW.make(r:cW (k+1) A)(C:Addr)(us:List Value)(kw:List (Str×Value)):cW k (A.under (.builtin "type.__call__" ⟨.ref C::us,kw⟩)):=
 ⟨r.hd,by have:=r.dp;rw [OO];lia,by have:=r.un;rw [OP];lia⟩
theorem cW.depth(r:cW k A):A.depth<recursionLimit:=by have:=r.dp;lia
theorem cW.units(r:cW k A):A.units+64<cLine:=by have:=r.un;lia
theorem cW.wL(r:cW k A):A.units<cLine:=by have:=r.un;lia
def fH:TA:=fun _ H Q=>Q [] H
def cX(ta:TE)(tr:TA):TA:=fun σ H Q=>ta σ H fun x H1=>tr σ H1 fun xs H2=>Q (x::xs) H2
section
variable {X:Cx} {e:Expr} {es:List Expr} {te:TE} {t:TA} {pos:Pos}
theorem af:PA X [] fH:=fun _ _ _ _ H Q I h=>Calls.spliced_nil ⟨[],H,I,.nil,h⟩
theorem OQ(ha:PE X e te)(hr:PA X es t)(hs:starEach (e::es) X.env=(false,eval e X.env)::starEach es X.env:=by rfl):PA X (e::es) (cX te t):=by intro pos pins s σ H Q I h;rw [hs];show wpAny _ _ (spliced ((false,eval e X.env)::backTo pos (starEach es X.env))) _ _ s;refine Calls.spliced_cons (aG (ha pins s σ H _ I h) fun u s1 ⟨x,H1,I1,r1,q1⟩=>?_);exact aG (hr pos pins s1 σ H1 _ I1 q1) fun us s2 ⟨xs,H2,I2,r2,q2⟩=>⟨x::xs,H2,I2,.cons r1 r2,q2⟩
def HL(t:TA):TE:=fun σ H Q=>t σ H fun xs H1=>xs.length≤sizeLine∧∀p,H1 p=none→Q (.ref p) (upd H1 p (.tup xs))
def o4(t:TA):TE:=fun σ H Q=>t σ H fun xs H1=>xs.length≤sizeLine∧∀p,H1 p=none→Q (.ref p) (upd H1 p (.lst xs))
theorem fI{x1}(h:PA X es t):PE X (.Tuple es x1 pos) (HL t):=by
 intro pins s σ H Q I hq;refine wpAny_Tuple_spliced (aG (h pos pins s σ H _ I hq) fun us s1 ⟨xs,H1,I1,r,z,q⟩=>⟨by rw [←r.length];exact z,?_⟩)
 have hf:H1 s1.heap.objs.size=none:=I1.aC.fresh (aJ _);refine ⟨.ref s1.heap.objs.size,upd H1 s1.heap.objs.size (.tup xs),I1.laid (t':=s1.toks) (fun b u e=>dj _ e) (aJ _) ?_,rfl,q _ hf⟩;exact ⟨z,us,r,⟨_,gC _ rfl,rfl,_,rfl⟩⟩
theorem cy(h:PA X es t):PE X (.List es pos) (o4 t):=by
 intro pins s σ H Q I hq;refine wpAny_List_spliced (aG (h pos pins s σ H _ I hq) fun us s1 ⟨xs,H1,I1,r,z,q⟩=>⟨by rw [←r.length];exact z,?_⟩)
 have hf:H1 s1.heap.objs.size=none:=I1.aC.fresh (aJ _);refine ⟨.ref s1.heap.objs.size,upd H1 s1.heap.objs.size (.lst xs),I1.laid (t':=s1.toks) (fun b u e=>dj _ e) (aJ _) ?_,rfl,q _ hf⟩;exact ⟨z,us,0,r,gC _ rfl⟩
end
abbrev Sp:=List V→Hp→VK→XK→Prop
abbrev iA:=List Env→Hp→Shared→XK→Value→Shared→Prop
structure o5 (P:Program) (w:World) (K:aF) (mg:dn) (base:Heap) (A:Around) (outer:List Env) (s:Shared) (H:Hp):Prop where
 frames:A.frames=some outer
 mod:Mod K mg base
 bs:∀b o,base.get? b=some o→s.heap.get? b=some o∧H b=none
 gK:base.objs.size≤s.heap.objs.size
 i3:s.heap.FunFrames base outer
 lC:∀b∈cD outer,H b=none
 aC:cL P w H s.heap
 bare:AllBare s.gens
def CE(outer:List Env)(P:Program)(w:World)(H:Hp)(s:Shared)(Q:VK)(u:Value)(s':Shared):Prop:=
 ∃v H',s'.os=s.os∧AllBare s'.gens∧Un (cD outer) [] H H' s.heap s'.heap∧cL P w H' s'.heap∧RelV v u∧Q v H'
def CR(CX:iA)(outer:List Env)(P:Program)(w:World)(H:Hp)(s:Shared)(Q:VK)(E:XK)(r:Result)(s':Shared):Prop:=
 match r with
 | .ok (.ret u)=>CE outer P w H s Q u s'
 | .ok _=>False
 | .error e=>CX outer H s E e s'
structure aW (P:Program) (w:World) (K:aF) (mg:dn) (base:Heap) (CX:iA) (k:Nat) (f:Addr) (fd:FuncData) (ps:List Str) (sp:Sp):Prop where
 len:∀vs H Q E,sp vs H Q E→vs.length=ps.length
 run:∀(A:Around) (outer:List Env) (s:Shared) (H:Hp) (args:Args) (us:List Value) (vs:List V) (Q:VK) (E:XK),cW k A→o5 P w K mg base A outer s H→BindsTo s fd args (ps.zip us)→Vals vs us→sp vs H Q E→
  codeAny (model P w) A (.call (.ref f) args) (CR CX outer P w H s Q E) s
variable {mg:dn} {base:Heap} {outer:List Env}
theorem o5.make(e:o5 P w K mg base A outer s H)(C:Addr)(us:List Value)(kw:List (Str×Value)) :
  o5 P w K mg base (A.under (.builtin "type.__call__" ⟨.ref C::us,kw⟩)) outer s H:=⟨by first | exact e.frames | (simpa [Around.under,Code.envs,Code.isFrame,pushEnvs] using e.frames),e.mod,e.bs,e.gK,e.i3,e.lC,e.aC,e.bare⟩
section
variable {X:Cx} {pins:aZ} {σ:St} {H:Hp} {s s':Shared}
theorem Inv.HM(I:Inv X pins σ H s):o5 X.prog X.w X.K X.mg X.base X.A X.stack s H:=
 ⟨I.ok.frames,I.ok.mod,I.bs,ae I.ok.gK I.sz,I.stack,I.so,I.aC,I.bare⟩
theorem Inv.after{Q:VK}{u:Value}(I:Inv X pins σ H s)(h:CE X.stack X.prog X.w H s Q u s'):EP X pins σ Q u s':=by obtain ⟨v,H',os,bare,un,aC,r,q⟩:=h;obtain ⟨hh,g,d,t,OR⟩:=s';obtain rfl:OR=s.os:=os;exact ⟨v,H',I.call (h':=hh) (g':=g) (d':=d) (t':=t) (ch:=[]) un aC bare (fun b z=>absurd z (by simp)),r,q⟩
end
def o6(sp:Sp)(eY:List V)(E:XK)(t:TA):TE:=fun σ H Q=>t σ H fun vs H1=>sp (vs++eY) H1 Q E
def OS(C:Addr)(m:Str)(sp:Sp)(eY:List V)(E:XK)(ta:TE)(t:TA):TE:=fun σ H Q=>ta σ H fun x H1=>∃a dx fs,x=.ref a∧H1 a=some (.ins C dx fs)∧fs.lookup m=none ∧
 t σ H1 fun vs H2=>sp (x::(vs++eY)) H2 Q E
def OT(C:Addr)(sp:Sp)(eY:List V)(E:XK)(t:TA):TE:=fun σ H Q=>t σ H fun vs H1=>∀x dx,H1 x=none→H1 dx=none→dx≠x→
 sp (.ref x::(vs++eY)) (upd (upd H1 dx (.own x)) x (.ins C dx [])) (fun v H2=>v=.aV∧Q (.ref x) H2) E
def Binds(K:aF)(fd:FuncData)(ps:List Str)(ds:List Value):Prop:=
 ∀(s:Shared) (us:List Value),K.In s.heap→(us++ds).length=ps.length→BindsTo s fd ⟨us,[]⟩ (ps.zip (us++ds))
variable {ps:List Str}
theorem Binds.all{fd:FuncData}(h:∀us:List Value,us.length=ps.length→bindArgs fd ⟨us,[]⟩=pure (ps.zip us)):Binds K fd ps []:=fun s us _ hl=>by rw [oB] at hl ⊢;exact .of_eq (h us hl)
def Passes(CX:iA)(X:Cx)(E:XK):Prop:=∀(pins:aZ) (σ:St) (H:Hp) (s:Shared) (e:Value) (s':Shared),Inv X pins σ H s→CX X.stack H s E e s'→X.xe e s'
section
variable {X:Cx} {CX:iA} {k:Nat} {f C:Addr} {fd:FuncData} {ps:List Str} {sp:Sp} {eY:List V} {ds:List Value} {E:XK} {x m:Str} {p pos apos:Pos} {e o:Expr} {es:List Expr} {ta:TE} {t:TA}
variable {pins:aZ} {Q:VK}
theorem HN{vs:List V}(F:aW X.prog X.w X.K X.mg X.base CX k f fd ps sp)(hr:cW k X.A)(hb:Binds X.K fd ps ds)(hd:Vals eY ds)(hx:Passes CX X E)
  (I:Inv X pins σ H s) (r:Vals vs us) (h:sp (vs++eY) H Q E):wpAny (model X.prog X.w) X.A (call (.ref f) us) (EP X pins σ Q) X.xe s:=by
 have r2:Vals (vs++eY) (us++ds):=r.append hd;have hl:(us++ds).length=ps.length:=by rw [←r2.length];exact F.len _ _ _ _ h
 refine wpAny_call (codeAny_mono (F.run X.A X.stack s H ⟨us,[]⟩ (us++ds) (vs++eY) Q E hr I.HM (hb s us I.dC hl) r2 h) fun r s' hq=>?_);cases r with
 | error e=>exact hx pins σ H s e s' I hq
 | ok fl=>
  cases fl with
  | ret u=>exact I.after hq
  | next=>exact False.elim hq
  | brk=>exact False.elim hq
  | cont=>exact False.elim hq
theorem gu(F:aW X.prog X.w X.K X.mg X.base CX k f fd ps sp)(hr:cW k X.A)(hg:Gl X x)(hm:X.mg x=some (.ref f))(hk:PySem.W.keepIn X.K (.ref f)=true)(hb:Binds X.K fd ps ds)(hd:Vals eY ds)(hx:Passes CX X E)
  (ha:PA X (e::es) t) (lK:(x == ("__debug__":Str))=false:=by decide) (he:starEach (e::es) X.env=(false,eval e X.env)::starEach es X.env:=by rfl) (hJ:(backTo pos (starEach es X.env)).any (·.1)=false:=by rfl) :
  PE X (.Call (.Name x p) (e::es) [] pos) (o6 sp eY E t):=by
 intro pins s σ H Q I h;refine yC (yX I hg hm ?_ lK);refine PySem.W.callWith_K (h₀:=X.base) I.ok.mod.cT hk (aG (ha pos pins s σ H _ I h) fun us s1 ⟨vs,H1,I1,r,q⟩=>⟨I1.dC,?_⟩) he hJ;exact HN F hr hb hd hx I1 r q
theorem aD{j:Nat}(F:aW X.prog X.w X.K X.mg X.base CX k f fd ps sp)(hr:cW j X.A)(hm:X.mg x=some (.ref f))(hk:PySem.W.keepIn X.K (.ref f)=true)(hb:Binds X.K fd ps [])(hx:Passes CX X E)
  (ha:PA X (e::es) t) (hj:k≤j:=by decide) (hg:Gl X x:=by exact rfl) (lK:(x == ("__debug__":Str))=false:=by decide) (he:starEach (e::es) X.env=(false,eval e X.env)::starEach es X.env:=by rfl) (hJ:(backTo pos (starEach es X.env)).any (·.1)=false:=by rfl) :
  PE X (.Call (.Name x p) (e::es) [] pos) (o6 sp [] E t):=gu F (hr.mono hj) hg hm hk hb .nil hx ha lK he hJ
theorem fJ{pl:Sem Bool}(he:PE X o ta)(c:jC X.K C)(hm:Meth X.K C m f)(F:aW X.prog X.w X.K X.mg X.base CX k f fd ps sp)(hr:cW k X.A)(hb:Binds X.K fd ps ds)(hd:Vals eY ds)(hx:Passes CX X E)(ha:PA X (e::es) t)
  (CK:starEach (e::es) X.env=(false,eval e X.env)::starEach es X.env:=by rfl) (hJ:(backTo pos (starEach es X.env)).any (·.1)=false:=by rfl)
  (ht:eval (.Call (.Attribute o m apos) (e::es) [] pos) X.env=(do
   let ov ←eval o X.env
   standAt apos.atName
   let (f,first) ←holding [ov] (getMethod ov m pl)
   callWith pos f first (backTo pos (starEach (e::es) X.env)) (backToKw pos (keywordEach [] X.env))):=by rfl) :
  PE X (.Call (.Attribute o m apos) (e::es) [] pos) (OS C m sp eY E ta t):=by
 intro pins s σ H Q I h
 refine PySem.W.methodCall_KW (pl:=pl) (aG (he pins s σ H _ I h) fun u s1 ⟨x,H1,I1,rx,a,dx,fs,ex,ea,l,q⟩=>?_) ht
 subst ex
 obtain rfl:u=Value.ref a:=rx
 refine HH I1 ea c hm l ?_
 refine PySem.W.callWith_K (first:=[.ref a]) (h₀:=X.base) I.ok.mod.cT hm.kp (aG (ha pos pins s1 σ H1 _ I1 q) fun us s2 ⟨vs,H2,I2,r,q2⟩=>⟨I2.dC,?_⟩) CK hJ
 exact HN (us:=.ref a::us) (vs:=.ref a::vs) F hr hb hd hx I2 (.cons rfl r) q2
structure Mk (K:aF) (C f:Addr):Prop where
 makes:PySem.W.makesIn K C=true
 init:PySem.W.findIn K (.ref C) "__init__"=some (some (.ref f))
 fn:PySem.W.isFn K (.ref f)=true
 kp:PySem.W.keepIn K (.ref C)=true
theorem OU{vs:List V}(M:Mk X.K C f)(F:aW X.prog X.w X.K X.mg X.base CX k f fd ps sp)(hr:cW (k+1) X.A)(hb:Binds X.K fd ps ds)(hd:Vals eY ds)
  (hx:Passes CX X E) (I:Inv X pins σ H s) (r:Vals vs us)
  (h:∀x dx,H x=none→H dx=none→dx≠x→sp (.ref x::(vs++eY)) (upd (upd H dx (.own x)) x (.ins C dx [])) (fun v H2=>v=.aV∧Q (.ref x) H2) E) :
  wpAny (model X.prog X.w) X.A (call (.ref C) us) (EP X pins σ Q) X.xe s:=by
 have hq:=h (s.heap.objs.size+1) s.heap.objs.size (I.aC.fresh (Nat.le_succ _)) (I.aC.fresh (aJ _)) (d9 (Nat.lt_succ_self _));have I2:=Inv.made (C:=C) I;have r2:Vals (V.ref (s.heap.objs.size+1)::(vs++eY)) (Value.ref (s.heap.objs.size+1)::(us++ds)):=.cons rfl (r.append hd);have hl:(Value.ref (s.heap.objs.size+1)::us++ds).length=ps.length:=by have e:=r2.length;rw [F.len _ _ _ _ hq] at e;exact e.symm
 refine wpAny_call (OG (f:=f) I.dC M.makes M.init (jZ.mp M.fn) (codeAny_mono (F.run _ X.stack _ _ ⟨Value.ref (s.heap.objs.size+1)::us,[]⟩ (Value.ref (s.heap.objs.size+1)::(us++ds)) _ _ E (hr.make C us [])
  (I2.HM.make C us []) (hb _ (Value.ref (s.heap.objs.size+1)::us) I2.dC hl) r2 hq) fun r s' o7=>?_))
 cases r with
 | error e=>exact hx pins σ _ _ e s' I2 o7
 | ok fl=>
  cases fl with
  | ret u=>obtain ⟨v,H',I3,rv,ev,q3⟩:=I2.after o7;subst ev;exact ⟨rv,⟨V.ref (s.heap.objs.size+1),H',I3,rfl,q3⟩⟩
  | next=>exact False.elim o7
  | brk=>exact False.elim o7
  | cont=>exact False.elim o7
theorem OV(M:Mk X.K C f)(F:aW X.prog X.w X.K X.mg X.base CX k f fd ps sp)(hr:cW (k+1) X.A)(hg:Gl X x)(hm:X.mg x=some (.ref C))(hb:Binds X.K fd ps ds)(hd:Vals eY ds)(hx:Passes CX X E)
  (ha:PA X (e::es) t) (lK:(x == ("__debug__":Str))=false:=by decide) (he:starEach (e::es) X.env=(false,eval e X.env)::starEach es X.env:=by rfl) (hJ:(backTo pos (starEach es X.env)).any (·.1)=false:=by rfl) :
  PE X (.Call (.Name x p) (e::es) [] pos) (OT C sp eY E t):=by
 intro pins s σ H Q I h;refine yC (yX I hg hm ?_ lK);refine PySem.W.callWith_K (h₀:=X.base) I.ok.mod.cT M.kp (aG (ha pos pins s σ H _ I h) fun us s1 ⟨vs,H1,I1,r,q⟩=>⟨I1.dC,?_⟩) he hJ;exact OU M F hr hb hd hx I1 r q
end
section
variable {X:Cx} {CX:iA} {k:Nat} {f C:Addr} {fd:FuncData} {ps ks:List Str} {sp:Sp} {E:XK} {x m:Str} {p pos apos OW:Pos} {e o:Expr} {es:List Expr} {kws:List Keyword} {te ta:TE} {t tk:TA} {nm:Option Str}
variable {g:List Value→List Value→List Value} {gV:List V→List V→List V}
end
structure bp (N P:List Str) (sc:Scope):Prop where
 kind:sc.kind=.function
 co:sc.isCoroutine=false
 gen:sc.isGenerator=false
 nd:N.Nodup
 pre:N.take P.length=P
 par:∀x∈P,sc.names.lookup x=some .local∨sc.names.lookup x=some .cell
 OX:∀y∈sc.names,y.2≠.free
variable {N:List Str} {sc:Scope}
theorem bJ{P:List Str}(h1:sc.kind=.function:=by rfl)(h2:sc.isCoroutine=false:=by rfl)(h3:sc.isGenerator=false:=by rfl)(h4:N.Nodup:=by decide +kernel)(h5:N.take P.length=P:=by rfl)(h6:∀x∈P,sc.names.lookup x=some .local∨sc.names.lookup x=some .cell:=by decide +kernel)(h7:∀y∈sc.names,y.2≠.free:=by decide +kernel):bp N P sc:=⟨h1,h2,h3,h4,h5,h6,h7⟩
theorem HP{kindOf:Str→Option NameKind}{x:Str}:∀{binds:List (Str×Value)} {m:dn},(∀v,(x,v)∉binds)→bindL kindOf binds m x=m x
 | [],_,_=>rfl
 | (n,v)::r,m,h=>by
  unfold bindL;rw [HP fun w hw=>h w (gZ _ hw)]
  split
  ·have:x≠n:=by rintro rfl;exact h v kZ
   simp [this]
  ·rfl
theorem HQ{kindOf:Str→Option NameKind}{x:Str}:∀{binds:List (Str×Value)} {m:dn},(∀v,(x,v)∉binds)→bindC kindOf binds m x=m x
 | [],_,_=>rfl
 | (n,v)::r,m,h=>by
  unfold bindC;rw [HQ fun w hw=>h w (gZ _ hw)]
  split
  ·rfl
  ·have:x≠n:=by rintro rfl;exact h v kZ
   simp [this]
theorem HR{kindOf:Str→Option NameKind}{x:Str}{v:Value}:∀{P:List Str} {vs:List Value} {i:Nat} {m:dn},P.Nodup→P[i]?=some x→vs[i]?=some v→kindOf x=some .local→
  bindL kindOf (P.zip vs) m x=some v
 | [],_,_,_,_,h,_,_=>by simp at h
 | _::_,[],_,_,_,_,h,_=>by simp at h
 | p::P,w::vs,0,m,nd,h1,h2,hk=>by simp at h1 h2;subst h1;subst h2;show bindL kindOf ((p,w)::P.zip vs) m p=_;unfold bindL;rw [HP fun v hv=>(yE.mp nd).1 (rR hv).1,ar hk];simp
 | p::P,w::vs,i+1,m,nd,h1,h2,hk=>by show bindL kindOf ((p,w)::P.zip vs) m x=_;unfold bindL;exact HR (i:=i) (yE.mp nd).2 (by simpa using h1) (by simpa using h2) hk
theorem HS{kindOf:Str→Option NameKind}{x:Str}{v:Value}:∀{P:List Str} {vs:List Value} {i:Nat} {m:dn},P.Nodup→P[i]?=some x→vs[i]?=some v→kindOf x≠some .local→
  bindC kindOf (P.zip vs) m x=some v
 | [],_,_,_,_,h,_,_=>by simp at h
 | _::_,[],_,_,_,_,h,_=>by simp at h
 | p::P,w::vs,0,m,nd,h1,h2,hk=>by simp at h1 h2;subst h1;subst h2;show bindC kindOf ((p,w)::P.zip vs) m p=_;unfold bindC;rw [HQ fun v hv=>(yE.mp nd).1 (rR hv).1,ao hk];simp
 | p::P,w::vs,i+1,m,nd,h1,h2,hk=>by show bindC kindOf ((p,w)::P.zip vs) m x=_;unfold bindC;exact HS (i:=i) (yE.mp nd).2 (by simpa using h1) (by simpa using h2) hk
def start(N:List Str)(vs:List V):St:=vs.map some++List.replicate (N.length-vs.length) none
def iB(CX:iA)(P:Program)(w:World)(K:aF)(mg:dn)(base:Heap)(N:List Str)(qual:Str)(scope:Scope)(f:Addr)(cd:Value)(A:Around)(outer:List Env)(s:Shared)(H:Hp)(E:XK):Cx where
 prog:=P
 w:=w
 K:=K
 mg:=mg
 base:=base
 A:=A.deeper (envOfC qual scope s.heap.objs.size f cd)
 N:=N
 s₀:=s
 H₀:=H
 env:=envOfC qual scope s.heap.objs.size f cd
 outer:=outer
 stack:=envOfC qual scope s.heap.objs.size f cd::outer
 ex:=[]
 calm:=true
 fn:=fun _=>true
 pn:=[]
 xe:=fun e s'=>wpAny (model P w) (A.deeper (envOfC qual scope s.heap.objs.size f cd)) (leaving (envOfC qual scope s.heap.objs.size f cd) e) (fun _ eI=>CX outer H s E e eI) (fun e' eI=>CX outer H s E e' eI) s'
theorem HU{x:Str}(h:sc.names.lookup x=some .cell):∃c,(cellsFrom n sc.names []).lookup x=some c:=by have q:=PySem.W.cellsFrom_some sc.names n [] (.inl h);exact Option.isSome_iff_exists.mp q
variable {CX:iA} {qual:Str} {scope:Scope} {f:Addr}
theorem OY{cd:Value}{s1:Shared}{E:XK}{vs:List V}
  (S:bp N ps scope) (hd:A.handled=none) (e0:o5 P w K mg base A outer s H) (hl:vs.length=ps.length) (r:Vals vs us)
  (x:InCallC s s.heap.objs.size (bindL (envOfC qual scope s.heap.objs.size f cd).kindOf (ps.zip us) fun _=>none) (cellsFrom (s.heap.objs.size+1) scope.names []) (bindC (envOfC qual scope s.heap.objs.size f cd).kindOf (ps.zip us) fun _=>none) s1) :
  Inv (iB CX P w K mg base N qual scope f cd A outer s H E) [] (start N vs) H s1:=by
 have hJ:ps.length≤N.length:=by have:=fT List.length S.pre;rw [mD] at this;lia
 obtain ⟨h1,tk,rfl,hk⟩:=x.done;have wN:∀b:Addr,b∉(iB CX P w K mg base N qual scope f cd A outer s H E).ex:=fun b z=>absurd (show b∈([]:List Addr) from z) (by simp)
 refine ⟨⟨e0.mod,S.kind,rfl,rfl,aJ _,fun y z c h1 h2=>?_,fun y hy=>?_,fun y c _ h=>?_,fun _=>hd,Around.frames_deeper e0.frames,.inr ⟨rfl,rfl⟩,fun b z=>absurd z (wN b),e0.bs,e0.gK,fun b _ _=>wN b,fun b z=>absurd z (wN b),e0.i3,e0.lC⟩,
  rfl,e0.bare,Un.kept hk,⟨_,x.toInCall.ns,fun i y v h1 h2 h3=>?_⟩,fun y c h=>⟨_,x.cell y c h⟩,e0.aC.fresh (aJ _),fun y c h=>?_,fun p hp=>absurd (show p∈([]:aZ) from hp) (by simp),e0.aC.kept hk,?_⟩
 ·exact name_of_addr x.apart (j4 h1) (j4 h2)
 ·have hy:scope.names.lookup y=some .cell∨scope.names.lookup y=some .free:=hy
  rcases hy with hy | hy;·exact HU hy
  ·exact absurd rfl (S.OX _ (j4 hy))
 ·exact Nat.le_of_lt (x.above y c (j4 h))
 ·have hi:i<vs.length:=by
   unfold start at h2;by_cases hi:i<vs.length;·exact hi
   ·rw [g8 (by simpa using hi)] at h2
    rw [k6] at h2
    split at h2 <;> cases h2
  have ha:vs[i]?=some v:=by
   unfold start at h2;rw [ip (by simpa using hi),fV] at h2
   cases e:vs[i]? with
   | none=>rw [e] at h2;cases h2
   | some a=>rw [e] at h2;cases h2;rfl
  obtain ⟨u,hu,rv⟩:=r.get ha;have hp:ps[i]?=some y:=by rw [←S.pre,Cf (by lia)];exact h1
  have HV:ps.Nodup:=by rw [←S.pre];exact S.nd.sublist (List.take_sublist _ _)
  refine ⟨u,rv,?_⟩;rcases S.par y (List.mem_of_getElem? hp) with k | k;·exact .inl ⟨k,HR HV hp hu k⟩
  ·obtain ⟨c,e⟩:=HU (n:=s.heap.objs.size+1) k
   refine .inr ⟨.inl k,c,e,?_⟩;have q:=x.cell y c e;rw [HS HV hp hu (by show scope.names.lookup y≠_;rw [k];decide)] at q
   exact q
 ·exact e0.aC.fresh (Nat.le_of_lt (x.above y c (j4 h)))
 ·unfold start
  show _=N.length;rw [jo,aT,g9];lia
theorem CW{name:Str}{params:Arguments}{body:List Stmt}{dV kV doc pm aU ct oc:Value}{an od:Option Addr}
  {fj:Array (Option Value)} {sp:Sp} (lk:K.lookup f=some ⟨oc,od,.func (PySem.W.fnOf name qual params body scope dV kV doc pm an aU ct),fj⟩) (fe:PySem.W.codeIn K aU qual=true) (S:bp N ps scope)
  (len:∀vs H Q E,sp vs H Q E→vs.length=ps.length)
  (jD:∀(A:Around) (outer:List Env) (s:Shared) (H:Hp) (vs:List V) (Q:VK) (E:XK),cW k (A.deeper (envOfC qual scope s.heap.objs.size f aU))→sp vs H Q E→
   ∃t,eU (iB CX P w K mg base N qual scope f aU A outer s H E) body t∧t {nx:=fun _ H'=>Q .aV H',rt:=Q} (start N vs) H) :
  aW P w K mg base CX (k+1) f (PySem.W.fnOf name qual params body scope dV kV doc pm an aU ct) ps sp:=by
 refine ⟨len,fun A outer s H args us vs Q E hr e0 hb r i7=>?_⟩;have hl:=len _ _ _ _ i7;have KX:K.In s.heap:=e0.mod.cT.keeps fun b o e=>(e0.bs b o e).1;have lim:s.heap.NoLimit:=e0.mod.nolimit.keeps fun b o e=>(e0.bs b o e).1;have OZ:∀y∈ps.zip us,scope.names.lookup y.1=some .local∨(scope.names.lookup y.1=some .cell∧((cellsFrom (s.heap.objs.size+1) scope.names []).lookup y.1).isSome=true):=fun⟨n,v⟩ hy=>by
  rcases S.par n (rR hy).1 with q | q;·exact .inl q
  ·exact .inr ⟨q,PySem.W.cellsFrom_some _ _ _ (.inl q)⟩
 refine codeAny_call_function hr.depth (KX _ _ lk) rfl S.co S.gen rfl (PySem.W.codeRec_of KX fe) (hb _ _ _ _ ?_);refine wpAny_newFunctionEnv_cells S.kind OZ fun env he s1 x=>?_;subst he;refine ⟨lim.keeps x.toInCall.keep,codeAny_func ?_⟩;obtain ⟨t,ht,hq⟩:=jD A outer s H vs Q E (hr.deeper _) i7;have I:Inv (iB CX P w K mg base N qual scope f aU A outer s H E) [] (start N vs) H s1:=OY S hr.hd e0 hl r x;refine cm (ht [] s1 (start N vs) H _ I hq) (fun fl s' hs=>?_) fun e s' hs=>hs;have fin:∀{σ':St} {H':Hp} {v:V} {u:Value},Inv (iB CX P w K mg base N qual scope f aU A outer s H E) [] σ' H' s'→RelV v u→Q v H'→CE outer P w H s Q u s':=
  fun{σ' H' v u} J rv q=>⟨v,H',J.os,J.bare,J.base,J.aC,rv,q⟩
 cases fl with
 | ret u=>obtain ⟨v,σ',H',J,rv,q⟩:=hs;exact fin J rv q
 | next=>obtain ⟨σ',H',J,q⟩:=hs;exact fin (v:=V.aV) (u:=Value.none) J rfl q
 | brk=>obtain ⟨_,_,_,q⟩:=hs;exact False.elim q
 | cont=>obtain ⟨_,_,_,q⟩:=hs;exact False.elim q
section
variable {X:Cx} {x:Str} {p pos:Pos} {e:Expr} {es:List Expr} {t:TA} {id T:String} {r:List V→Hp→VK→Prop}
def CY(r:List V→Hp→VK→Prop)(t:TA):TE:=fun σ H Q=>t σ H fun vs H1=>r vs H1 Q
theorem bq(hc:ko X (.builtin id) r)(hg:Gl X x)(hm:X.mg x=none)(hv:bootBuiltins x=some (.builtin id))(ha:PA X (e::es) t)(hn:x ≠ "__name__":=by decide)(lK:(x == ("__debug__":Str))=false:=by decide)
  (he:starEach (e::es) X.env=(false,eval e X.env)::starEach es X.env:=by rfl) (hJ:(backTo pos (starEach es X.env)).any (·.1)=false:=by rfl):PE X (.Call (.Name x p) (e::es) [] pos) (CY r t):=by
 intro pins s σ H Q I h;refine yC (oO I hg hm hv ?_ hn lK);exact PyProof.Rows.callWith_builtin1 (aG (ha pos pins s σ H _ I h) fun us s1 ⟨vs,H1,I1,r1,q1⟩=>hc pins s1 σ H1 vs us Q I1 r1 q1) he hJ
theorem o8(hc:ko X (.type T) r)(hg:Gl X x)(hm:X.mg x=none)(hv:bootBuiltins x=some (.type T))(ha:PA X (e::es) t)(hn:x ≠ "__name__":=by decide)(lK:(x == ("__debug__":Str))=false:=by decide)
  (he:starEach (e::es) X.env=(false,eval e X.env)::starEach es X.env:=by rfl) (hJ:(backTo pos (starEach es X.env)).any (·.1)=false:=by rfl):PE X (.Call (.Name x p) (e::es) [] pos) (CY r t):=by
 intro pins s σ H Q I h;refine yC (oO I hg hm hv ?_ hn lK);exact vQ (aG (ha pos pins s σ H _ I h) fun us s1 ⟨vs,H1,I1,r1,q1⟩=>hc pins s1 σ H1 vs us Q I1 r1 q1) he hJ
end
end L2
namespace HT
open PySem PyProof.Rows
section
open PySem.SeqAt
open PySem.AutoSeq1 (wpAny_loadPart')
open PySem.MeetsSeq PySem.MeetsSeq2 PySem.MeetsSeq3
end
section
variable {prog:Program} {w:World} {A:Around} {E:b_} {s:Shared}
def eJ(n d:Nat):Option Int→Nat
 | none=>d
 | some v=>if v<0 then (v+(n:Int)).toNat else min v.toNat n
theorem O0(n d k:Nat):eJ n d (some (k:Int))=min k n:=by
 show (if (k:Int)<0 then ((k:Int)+(n:Int)).toNat else min (k:Int).toNat n)=min k n
 rw [ao (by lia),dM]
end
end HT
namespace L2
open PySem PySem.Spec PyProof.Rows
abbrev TO:=St→Hp→(Option Int→Hp→Prop)→Prop
def PO(X:Cx)(e:Option Expr)(t:TO):Prop:=
 ∀(pins:aZ) (s:Shared) (σ:St) (H:Hp) (Q:Option Int→Hp→Prop),Inv X pins σ H s→t σ H Q→
  wpAny (model X.prog X.w) X.A (evalPart e X.env) (fun u s'=>∃o H',Inv X pins σ H' s'∧IsPart u o∧Q o H') X.xe s
def O1:TO:=fun _ H Q=>Q none H
def O2(t:TE):TO:=fun σ H Q=>t σ H fun x H1=>∃i,x=.int i∧Q (some i) H1
section
variable {X:Cx} {e:Expr} {te:TE} {lo hi:Option Expr} {tl th:TO} {pos p2:Pos}
theorem sN:PO X none O1:=by intro pins s σ H Q I h;rw [evalPart_none];exact d_ ⟨none,H,I,.none,h⟩
theorem sO(h:PE X e te):PO X (some e) (O2 te):=by intro pins s σ H Q I hw;rw [evalPart_some];refine aG (h pins s σ H _ I hw) fun u s1 ⟨x,H1,I1,r1,q1⟩=>?_;obtain ⟨i,rfl,q⟩:=q1;obtain ⟨t,rfl⟩:=r1;exact ⟨some i,H1,I1,.int i t,q⟩
def HW(X:Cx)(r:V→Option Int→Option Int→Hp→VK→Prop):Prop:=
 ∀(pins:aZ) (s:Shared) (σ:St) (H:Hp) (x:V) (v vl vu:Value) (lo hi:Option Int) (sl:Addr) (Q:VK),Inv X pins σ H s→RelV x v→s.heap.IsSliceOf sl vl vu .none→IsPart vl lo→IsPart vu hi→r x lo hi H Q→
  ∃T id,typeLookup (.type T) "__getitem__"=pure (some (.builtin id))∧s.TypeIs v T∧wpAny (model X.prog X.w) X.A (getItem v (.ref sl)) (EP X pins σ Q) X.xe s
def O3(r:V→Option Int→Option Int→Hp→VK→Prop)(te:TE)(tl th:TO):TE:=fun σ H Q=>te σ H fun x H1=>tl σ H1 fun l H2=>th σ H2 fun u H3=>r x l u H3 Q
theorem sP{r:V→Option Int→Option Int→Hp→VK→Prop}(hr:HW X r)(he:PE X e te)(hl:PO X lo tl)(hu:PO X hi th):PE X (.Subscript e (.Slice lo hi none p2) pos) (O3 r te tl th):=by intro pins s σ H Q I h;refine Subscript_ (aG (he pins s σ H _ I h) fun v s1 ⟨x,H1,I1,r1,q1⟩=>?_);refine wpAny_Slice (aG (hl pins s1 σ H1 _ I1 q1) fun vl s2 ⟨l,H2,I2,pl,q2⟩=>aG (hu pins s2 σ H2 _ I2 q2) fun vu s3 ⟨u,H3,I3,pu,q3⟩=>?_);rw [evalPart_none];refine d_ ?_;have I4:Inv X pins σ H3 {s3 with heap:=s3.heap.push {cls:=.type "slice",data:=.fields #[vl,vu,.none]}}:=I3.kept (t':=s3.toks) fun b ob q=>dj _ q;obtain ⟨T,id,hT,ht,hg⟩:=hr pins {s3 with heap:=s3.heap.push {cls:=.type "slice",data:=.fields #[vl,vu,.none]}} σ H3 x v vl vu l u s3.heap.objs.size Q I4 r1 (Heap.IsSliceOf.new ..) pl pu q3;show wpAny (model X.prog X.w) X.A (subscriptTail e (.Slice lo hi none p2) v (.ref s3.heap.objs.size)) (EP X pins σ Q) X.xe {s3 with heap:=s3.heap.push {cls:=.type "slice",data:=.fields #[vl,vu,.none]}};exact tail_any (ops:=[.ref s3.heap.objs.size,v]) ht hT hg (by with_unfolding_all rfl)
def mY(xs:List V)(lo hi:Option Int):List V:=(xs.drop (HT.eJ xs.length 0 lo)).take (HT.eJ xs.length xs.length hi-HT.eJ xs.length 0 lo)
theorem O4(xs:List V)(lo hi:Option Int):(mY xs lo hi).length≤xs.length:=by unfold mY;rw [mD,List.length_drop];lia
end
def hV(n:Nat)(i:Int):Option Nat:=if 0≤i then (if i<n then some i.toNat else none) else if -(n:Int)≤i then some (i+n).toNat else none
def dD{α:Type}(xs:List α)(i:Int):Option α:=(hV xs.length i).bind fun j=>xs[j]?
variable {i:Int} {j:Nat}
theorem HX{n:Nat}(h:hV n i=some j):seqIndex? i n=some j∧j<n∧-(n:Int)≤i∧i<n:=by
 unfold hV at h;by_cases h0:0≤i
 ·rw [ar h0] at h
  by_cases h1:i<n
  ·rw [ar h1] at h
   have e:i.toNat=j:=Option.some.inj h;exact ⟨by rw [seqIndex_of h0 h1,e],by lia,by lia,h1⟩
  ·rw [ao h1] at h;cases h
 ·rw [ao h0] at h
  by_cases h1:-(n:Int)≤i
  ·rw [ar h1] at h
   have e:(i+n).toNat=j:=Option.some.inj h;exact ⟨by rw [seqIndex_neg (by lia) h1,e],by lia,h1,by lia⟩
  ·rw [ao h1] at h;cases h
theorem CZ{α:Type}{xs:List α}{v:α}(h:dD xs i=some v):∃j,seqIndex? i xs.length=some j∧xs[j]?=some v∧j<xs.length∧-(xs.length:Int)≤i∧i<xs.length:=by
 unfold dD at h;cases e:hV xs.length i with
 | none=>rw [e] at h;cases h
 | some j=>rw [e] at h;obtain ⟨h1,h2,h3,h4⟩:=HX e;exact ⟨j,h1,h,h2,h3,h4⟩
theorem i8{α:Type}{xs:List α}{v:α}(h:xs[j]?=some v):dD xs (j:Int)=some v:=by
 have hj:j<xs.length:=(cV.mp h).1;have e:hV xs.length (j:Int)=some j:=by unfold hV;rw [ar (by lia),ar (by lia)];simp
 unfold dD;rw [e];exact h
variable {α:Type}
theorem O5(xs:List α)(v:α):dD (xs++[v]) (-1)=some v:=by
 have hl:(xs++[v]).length=xs.length+1:=by simp
 have e:hV (xs++[v]).length (-1)=some xs.length:=by
  unfold hV;rw [hl,ao (by decide),ar (by lia)]
  congr 1
  lia
 unfold dD;rw [e];show (xs++[v])[xs.length]?=some v;simp
def HY(b:Expr):Prop:=∀o i,subscripted b false o i=operate [o,i] (getItem o i)
def sQ(X:Cx)(r:R2):Prop:=
 ∀(value slice:Expr) (pins:aZ) (s:Shared) (σ:St) (H:Hp) (x y:V) (v u:Value) (Q:VK),Inv X pins σ H s→RelV x v→RelV y u→r x y H Q→
  subscripted slice false v u=operate [v,u] (getItem v u)→wpAny (model X.prog X.w) X.A (subscriptTail value slice v u) (EP X pins σ Q) X.xe s
def C1(X:Cx)(id:String)(r:V→List V→Hp→VK→Prop):Prop:=
 ∀(pins:aZ) (s:Shared) (σ:St) (H:Hp) (x:V) (xs:List V) (v:Value) (us:List Value) (Q:VK),Inv X pins σ H s→RelV x v→Vals xs us→r x xs H Q→
  wpAny (model X.prog X.w) X.A (call (.builtin id) (v::us)) (EP X pins σ Q) X.xe s
section
variable {X:Cx} {a b:Expr} {ta tb:TE} {pos:Pos}
theorem jE{r:R2}(hr:sQ X r)(ha:PE X a ta)(hb:PE X b tb)(hs:HY b):PE X (.Subscript a b pos) (oT r ta tb):=by intro pins s σ H Q I h;exact Subscript_ (CO ha hb I h fun v u s2 x y H2 I2 rx ry q=>hr a b pins s2 σ H2 x y v u Q I2 rx ry q (hs _ _))
theorem aA{a:Expr}{r:R2}(hr:sQ X r)(ha:PE X a ta)(hb:PE X b tb)(hs:HY b:=by exact fun _ _=>rfl):PE X (.Subscript a b pos) (oT r ta tb):=jE hr ha hb hs
def HZ(K:aF):R2:=fun x y H Q=>∃p xs i v,x=.ref p∧y=.int i∧bo K H p xs∧dD xs i=some v∧Q v H
def H_(K:aF):R2:=fun x y H Q=>∃p xs i v,x=.ref p∧y=.int i∧eo K H p xs∧dD xs i=some v∧Q v H
theorem bQ:sQ X (HZ X.K):=by
 intro value slice pins s σ H x y v u Q I rx ry h hs;obtain ⟨p,xs,i,z,rfl,rfl,hq,he,q⟩:=h;cases rx;obtain ⟨t,rfl⟩:=ry;obtain ⟨aq,r,pl,hz⟩:=I.list hq;obtain ⟨j,h1,h2,h3,h4,h5⟩:=CZ he;obtain ⟨w,ew,oR⟩:=r.get h2;have hl:=r.length;have hn:=wK;have fin:EP X pins σ Q w s:=⟨z,H,I,oR,q⟩;by_cases h0:0≤i
 ·have hj:i.toNat=j:=by rw [seqIndex_of h0 h5] at h1;exact Option.some.inj h1
  exact item_listR pl.isList h0 (by lia) (by rw [hj];simpa using ew) fin hs
 ·have hj:(i+(aq.toArray.size:Int)).toNat=j:=by
   rw [seqIndex_neg (by lia) h4] at h1
   rw [dU,←hl];exact Option.some.inj h1
  exact subscriptTail_builtinR (x:=w) pl.isList.typeIs slot_list_getitem.lookup
   (wpAny_getItem_list_neg (Q:=fun r s'=>r=w∧EP X pins σ Q r s') pl.isList (by lia) (by rw [dU] <;> lia) (by lia) (by rw [hj];simpa using ew) ⟨rfl,fin⟩) hs
theorem a9:sQ X (H_ X.K):=by
 intro value slice pins s σ H x y v u Q I rx ry h hs;obtain ⟨p,xs,i,z,rfl,rfl,hq,he,q⟩:=h;cases rx;obtain ⟨t,rfl⟩:=ry;obtain ⟨aq,r,pl,hz⟩:=I.tuple hq;obtain ⟨j,h1,h2,h3,h4,h5⟩:=CZ he;obtain ⟨w,ew,oR⟩:=r.get h2;have hl:=r.length;have hn:=wK;have fin:EP X pins σ Q w s:=⟨z,H,I,oR,q⟩
 exact subscriptTail_builtinR (x:=w) pl.typeIs slot_tuple_getitem.lookup
  (getItem_tuple (j:=j) (Q:=fun r s'=>r=w∧EP X pins σ Q r s') pl (by lia) (by lia) (by rw [dU,←hl];exact h1) (by simpa using ew) ⟨rfl,fin⟩) hs
theorem O6(aq:List Value)(n j:Nat)(u:Value):Obj.mapSeq (·.setIfInBounds j u) {cls:=.type "list",data:=.seq aq.toArray n}={cls:=.type "list",data:=.seq (aq.set j u).toArray n}:=by simp [Obj.mapSeq]
theorem Inv.lst{pins:aZ}{σ:St}{H:Hp}{s:Shared}{p:Addr}{xs:List V}(I:Inv X pins σ H s)(h:H p=some (.lst xs)) :
  ∃(aq:List Value) (n:Nat),Vals xs aq∧s.heap.get? p=some {cls:=.type "list",data:=.seq aq.toArray n}∧xs.length≤sizeLine:=by
 obtain ⟨z,aq,n,r,e⟩:=I.aC p _ h;exact ⟨aq,n,r,e,z⟩
variable {pins:aZ} {σ:St} {H:Hp} {s:Shared}
theorem Inv.O7{p:Addr}{xs ys:List V}{aq its':List Value}{n n':Nat}{f:Obj→Obj}(I:Inv X pins σ H s)(h:H p=some (.lst xs))
  (ho:s.heap.get? p=some {cls:=.type "list",data:=.seq aq.toArray n}) (hf:f {cls:=.type "list",data:=.seq aq.toArray n}={cls:=.type "list",data:=.seq its'.toArray n'}) (r:Vals ys its') (hz:ys.length≤sizeLine) (t:Nat) :
  Inv X pins σ (upd H p (.lst ys)) {s with heap:=s.heap.update p f,toks:=t}:=by
 have e:(s.heap.update p f).get? p=some {cls:=.type "list",data:=.seq its'.toArray n'}:=by rw [Heap.get?_update_self f ho (by rw [hf] <;> rfl),hf]
 refine I.write (x:=p) (e:=p) (by rw [h];trivial) (.inl rfl) (fun b u hb q=>(Heap.get?_update_other _ _ (Ne.symm hb)).trans q) ⟨_,e⟩ ?_
 exact ⟨hz,its',n',r,e⟩
def O8:V→V→V→Hp→(Hp→Prop)→Prop:=fun o i v H Q=>∃p xs k j,o=.ref p∧i=.int k∧H p=some (.lst xs)∧hV xs.length k=some j∧Q (upd H p (.lst (xs.set j v)))
theorem set_list:CF X O8:=by
 intro pins s σ H o i v ov iv u Q I ro ri rv h;obtain ⟨p,xs,k,j,rfl,rfl,hp,hj,q⟩:=h;cases ro;obtain ⟨t,rfl⟩:=ri;obtain ⟨aq,n,r,ho,hz⟩:=I.lst hp;obtain ⟨h1,h2,h3,h4⟩:=HX hj;have hl:=r.length;have hn:=wK;have I':Inv X pins σ (upd H p (.lst (xs.set j v))) {s with heap:=s.heap.update p (Obj.mapSeq (·.setIfInBounds j u))}:=
  I.O7 hp ho (O6 aq n j u) (r.set rv j) (by rw [List.length_set];exact hz) s.toks
 by_cases h0:0≤k
 ·have hk:k.toNat=j:=by rw [seqIndex_of h0 h4] at h1;exact Option.some.inj h1
  exact PySem.W.ki_setAt ho h0 (by lia) (by rw [dU,←hl];exact h4) (by rw [hk];exact ⟨_,I',q⟩)
 ·have hk:(k+(aq.toArray.size:Int)).toNat=j:=by
   rw [seqIndex_neg (by lia) h3] at h1
   rw [dU,←hl];exact Option.some.inj h1
  exact PySem.W.ki_setBack ho (by lia) (by rw [dU,←hl];exact h3) (by lia) (by rw [hk];exact ⟨_,I',q⟩)
theorem O9(lo hi:Option Int)(n:Nat):(sliceBounds lo hi none n).1=((HT.eJ n 0 lo:Nat):Int)∧(sliceBounds lo hi none n).2.1=((HT.eJ n n hi:Nat):Int)∧(sliceBounds lo hi none n).2.2=1:=by
 refine ⟨?_,?_,rfl⟩
 ·cases lo with
  | none=>simp [sliceBounds,HT.eJ]
  | some i=>
   simp only [sliceBounds,HT.eJ,Option.getD_none,show (1:Int)>0 by decide,if_true]
   by_cases h:i<0;·simp only [h,if_true] <;> lia
   ·simp only [h,if_false] <;> lia
 ·cases hi with
  | none=>simp [sliceBounds,HT.eJ]
  | some i=>
   simp only [sliceBounds,HT.eJ,Option.getD_none,show (1:Int)>0 by decide,if_true]
   by_cases h:i<0;·simp only [h,if_true] <;> lia
   ·simp only [h,if_false] <;> lia
theorem O_(aq:List Value)(lo hi:Option Int):slicePick aq.toArray lo hi none=((aq.drop (HT.eJ aq.length 0 lo)).take (HT.eJ aq.length aq.length hi-HT.eJ aq.length 0 lo)).toArray:=by obtain ⟨h1,h2,h3⟩:=O9 lo hi aq.toArray.size;unfold slicePick;rw [h1,h2,h3];simp only [sliceRange_one,pick_run,dU] <;> rfl
def Pa(K:aF):V→Option Int→Option Int→Hp→VK→Prop:=fun x lo hi H Q=>∃a xs,x=.ref a∧bo K H a xs∧∀p,H p=none→Q (.ref p) (upd H p (.lst (mY xs lo hi)))
theorem sR:HW X (Pa X.K):=by
 intro pins s σ H x v vl vu lo hi sl Q I rx hs pl pu h;obtain ⟨a,xs,rfl,hx,q⟩:=h;cases rx;obtain ⟨aq,r,ht,hz⟩:=I.list hx;have hlen:=r.length;refine ⟨"list",_,slot_list_getitem.lookup,ht.isList.typeIs,?_⟩;refine wpAny_getItem_list_slice ht.isList hs pl pu .none (by simp) ?_ (by rw [dU] <;> lia)
 rw [O_,←hlen];refine ⟨.ref s.heap.objs.size,_,I.laid (t':=s.toks) (o:=.lst (mY xs lo hi)) (fun b ob q=>dj _ q) (aJ _) ?_,rfl,q _ (I.aC.fresh (aJ _))⟩;exact ⟨ae (O4 xs lo hi) hz,_,0,(r.drop (HT.eJ xs.length 0 lo)).take (HT.eJ xs.length xs.length hi-HT.eJ xs.length 0 lo),gC _ rfl⟩
def kv:V→Bool
 | .aV=>true
 | .bl _=>true
 | .int _=>true
 | .str _=>true
 | _=>false
def sS:V→V→Bool
 | .aV,.aV=>true
 | .bl a,.bl b=>a == b
 | .bl a,.int b=>(if a then 1 else 0) == b
 | .int a,.bl b=>a == (if b then 1 else 0)
 | .int a,.int b=>a == b
 | .str a,.str b=>a == b
 | _,_=>false
variable {x:V} {v:Value}
theorem C2{A:Around}{y:V}{u:Value}(ry:RelV y u)(rx:RelV x v)(fy:kv y=true)(fx:kv x=true):SeqAt.EqAt A s u v (sS y x):=by
 cases y with
 | aV=>
  cases ry;cases x with
  | aV=>cases rx;exact SeqAt.EqAt.same _
  | bl b=>cases rx;exact SeqAt.EqAt.none_bool b
  | int b=>obtain ⟨t,rfl⟩:=rx;exact SeqAt.EqAt.none_int b t
  | str b=>obtain ⟨t,rfl⟩:=rx;exact SeqAt.EqAt.none_str b t
  | _=>exact absurd (show false=true from fx) dk
 | bl a=>
  cases ry;cases x with
  | aV=>cases rx;exact SeqAt.EqAt.bool_none a
  | bl b=>cases rx;exact SeqAt.EqAt.bool_bool a b
  | int b=>obtain ⟨t,rfl⟩:=rx;exact SeqAt.EqAt.bool_int a b t
  | str b=>obtain ⟨t,rfl⟩:=rx;exact SeqAt.EqAt.bool_str a b t
  | _=>exact absurd (show false=true from fx) dk
 | int a=>
  obtain ⟨t',rfl⟩:=ry;cases x with
  | aV=>cases rx;exact SeqAt.EqAt.int_none a t'
  | bl b=>cases rx;exact SeqAt.EqAt.int_bool a t' b
  | int b=>obtain ⟨t,rfl⟩:=rx;exact SeqAt.EqAt.int_int a t' b t
  | str b=>obtain ⟨t,rfl⟩:=rx;exact SeqAt.EqAt.int_str a t' b t
  | _=>exact absurd (show false=true from fx) dk
 | str a=>
  obtain ⟨t',rfl⟩:=ry;cases x with
  | aV=>cases rx;exact SeqAt.EqAt.str_none a t'
  | bl b=>cases rx;exact SeqAt.EqAt.str_bool a t' b
  | int b=>obtain ⟨t,rfl⟩:=rx;exact SeqAt.EqAt.str_int a t' b t
  | str b=>obtain ⟨t,rfl⟩:=rx;exact SeqAt.EqAt.str_str a t' b t
  | _=>exact absurd (show false=true from fx) dk
 | _=>exact absurd (show false=true from fy) dk
theorem cq:ko X (.builtin "len") (fun xs H Q=>∃p ys,xs=[.ref p]∧(bo X.K H p ys∨eo X.K H p ys)∧Q (.int ys.length) H):=by
 intro pins s σ H xs us Q I r h;obtain ⟨p,ys,rfl,hq,q⟩:=h;obtain ⟨u,rfl,rx⟩:=vals1 r;cases rx;have hn:=wK;rcases hq with hq | hq
 ·obtain ⟨aq,r',pl,hz⟩:=I.list hq
  have hlen:=r'.length;exact Calls.call_len_list pl.isList (by simp only [dU] <;> lia) ⟨.int ys.length,H,I.tok _,⟨s.toks+1,by rw [dU,hlen]⟩,q⟩
 ·obtain ⟨aq,r',pl,hz⟩:=I.tuple hq
  have hlen:=r'.length;exact len_tuple pl (by simp only [dU] <;> lia) ⟨.int ys.length,H,I.tok _,⟨s.toks+1,by rw [dU,hlen]⟩,q⟩
theorem sU:ko X (.type "list") (fun xs H Q=>∃p ys,xs=[.ref p]∧(bo X.K H p ys∨eo X.K H p ys)∧∀l,H l=none→Q (.ref l) (upd H l (.lst ys))):=by
 intro pins s σ H xs us Q I r h;obtain ⟨p,ys,rfl,hq,q⟩:=h;obtain ⟨u,rfl,rx⟩:=vals1 r;cases rx
 have fin:∀(aq:List Value),Vals ys aq→ys.length≤sizeLine→∀(h':Heap) (c':Nat),(∀b o',s.heap.get? b=some o'→h'.get? b=some o')→
   h'.get? s.heap.objs.size=some {cls:=.type "list",dict:=none,data:=.seq aq.toArray c',slots:=#[]}→EP X pins σ Q (.ref s.heap.objs.size) {s with heap:=h'}:=fun aq r' hz h' c' kp e=>
  ⟨.ref s.heap.objs.size,_,I.laid (t':=s.toks) kp (aJ _) (show ej X.prog X.w _ h' _ (.lst ys) from ⟨hz,aq,c',r',e⟩),rfl,q _ (I.aC.fresh (aJ _))⟩
 rcases hq with hq | hq
 ·obtain ⟨aq,r',pl,hz⟩:=I.list hq
  have hlen:=r'.length;obtain ⟨o,ho,hc,n,hd⟩:=pl.isList;exact call_list_seq p (.inl rfl) ho hc hd (fun h' c' kp e=>fin aq r' hz h' c' kp e) (by simp only [dU] <;> lia)
 ·obtain ⟨aq,r',pl,hz⟩:=I.tuple hq
  have hlen:=r'.length;obtain ⟨o,ho,hc,n,hd⟩:=pl;exact call_list_seq p (.inr rfl) ho hc hd (fun h' c' kp e=>fin aq r' hz h' c' kp e) (by simp only [dU] <;> lia)
def C3(K:aF)(T:String)(x:V)(H:Hp):Prop:=match x with
 | .str _=>T="str"
 | .int _=>T="int"
 | .ref p=>(T="list"∧∃xs,bo K H p xs)∨(T="tuple"∧∃o,K.lookup p=some o∧o.cls=.type "tuple"∧o.dict=none) ∨
   (T="dict"∧((∃dH,H p=some (.dK dH))∨∃dH,H p=some (.dT dH)))∨(T="set"∧∃S n,H p=some (.set S n))
 | _=>False
theorem Ia{T:String}(I:Inv X pins σ H s)(r:RelV x v)(ty:C3 X.K T x H) :
  s.TypeIs v T∧∀a,v=.ref a→∃ob,s.heap.get? a=some ob∧ob.dict=none:=by
 cases x with
 | str z=>obtain ⟨t,rfl⟩:=r;cases (show T="str" from ty);exact ⟨typeIs_str s z t,fun _ e=>nomatch e⟩
 | int i=>obtain ⟨t,rfl⟩:=r;cases (show T="int" from ty);exact ⟨typeIs_int s i t,fun _ e=>nomatch e⟩
 | ref p=>
  cases r;rcases ty with ⟨rfl,xs,hq⟩ | ⟨rfl,o,hk,hc,hd⟩ | ⟨rfl,hk⟩ | ⟨rfl,S,n,hk⟩
  ·obtain ⟨aq,_,pl,_⟩:=I.list hq
   refine ⟨pl.isList.typeIs,fun a e=>?_⟩;cases e;obtain ⟨o,n,e,c,hd,_⟩:=pl;exact ⟨o,e,hd⟩
  ·refine ⟨⟨o,I.dC p o hk,hc⟩,fun a e=>?_⟩
   cases e;exact ⟨o,I.dC _ o hk,hd⟩
  ·have z:∃o,s.heap.get? p=some o∧o.ExactDict:=by
    rcases hk with ⟨dH,hk⟩ | ⟨dH,hk⟩
    ·obtain ⟨_,_,_,_,o,_,_,e,ex,_⟩:=I.aC p _ hk
     exact ⟨o,e,ex⟩
    ·obtain ⟨_,_,_,_,o,_,_,e,ex,_⟩:=I.aC p _ hk
     exact ⟨o,e,ex⟩
   obtain ⟨o,e,ex⟩:=z;refine ⟨⟨o,e,ex.1⟩,fun a e2=>?_⟩;cases e2;exact ⟨o,e,ex.2.1⟩
  ·obtain ⟨o,_,_,_,e,ex,_⟩:=I.aC p _ hk
   refine ⟨⟨o,e,ex.1⟩,fun a e2=>?_⟩;cases e2;exact ⟨o,e,ex.2.1⟩
 | _=>exact False.elim ty
def Pb(K:aF)(T:String)(r:V→List V→Hp→VK→Prop)(to:TE):TE:=fun σ H Q=>to σ H fun x H1=>C3 K T x H1∧r x [] H1 Q
def Pc(K:aF)(T:String)(r:V→List V→Hp→VK→Prop)(to:TE)(t:TA):TE:=fun σ H Q=>to σ H fun x H1=>C3 K T x H1∧t σ H1 fun xs H2=>r x xs H2 Q
variable {o e:Expr} {es:List Expr} {to:TE} {t:TA} {name:Str} {apos h_:Pos} {T id:String} {r:V→List V→Hp→VK→Prop}
theorem Pd(pa:PlainAttrs T)(slot:Slot T name id)(C4:typeOf (.builtin id)=pure (.type "method_descriptor"))(hm:C1 X id r)(ho:PE X o to)
  (C5:attributeBase o name X.env (eval o X.env)=eval o X.env:=by rfl) (C6:(apos.endLine == h_.line)=true:=by rfl):PE X (.Call (.Attribute o name apos) [] [] h_) (Pb X.K T r to):=by
 intro pins s σ H Q I h;refine wpAny_Call_method0_late C5 C6 (aG (ho pins s σ H _ I h) fun v s1 ⟨x,H1,I1,r1,ty,q1⟩=>?_);obtain ⟨h1,h2⟩:=Ia I1 r1 ty;exact ⟨T,id,pa,slot,C4,h1,h2,Calls.callWith_builtin rfl (PySem.evalArgs_none (hm pins s1 σ H1 x [] v [] Q I1 r1 .nil q1))⟩
theorem Pe(pa:PlainAttrs T)(slot:Slot T name id)(C4:typeOf (.builtin id)=pure (.type "method_descriptor"))(hm:C1 X id r)(ho:PE X o to)(ha:PA X (e::es) t)
  (C5:attributeBase o name X.env (eval o X.env)=eval o X.env:=by rfl)
  (Pf:((backTo h_ (starEach (e::es) X.env)).all (fun x=>!x.1) && (backToKw h_ (keywordEach [] X.env)).all (fun x=>x.1.isSome)
   && decide ((e::es).length+([]:List Keyword).length+(if ([]:List Keyword).isEmpty then 0 else 1)<30))=true:=by rfl)
  (C6:(apos.endLine == h_.line)=true:=by rfl) (hs:starEach (e::es) X.env=(false,eval e X.env)::starEach es X.env:=by rfl) (Pg:(backTo h_ (starEach es X.env)).any (·.1)=false:=by rfl) :
  PE X (.Call (.Attribute o name apos) (e::es) [] h_) (Pc X.K T r to t):=by
 intro pins s σ H Q I h;refine wpAny_Call_method_late C5 Pf C6 rfl (aG (ho pins s σ H _ I h) fun v s1 ⟨x,H1,I1,r1,ty,q1⟩=>?_);obtain ⟨h1,h2⟩:=Ia I1 r1 ty;refine ⟨T,id,pa,slot,C4,h1,h2,?_⟩;have hA:=ha h_ pins s1 σ H1 _ I1 q1;rw [hs] at hA ⊢;refine Calls.callWith_builtin (by show (false || (backTo h_ (starEach es X.env)).any (·.1))=false;rw [Pg] <;> rfl) (Calls.evalArgs_plain ?_)
 exact aG hA fun us s2 ⟨vs,H2,I2,r2,q2⟩=>hm pins s2 σ H2 x vs v us Q I2 r1 r2 q2
end
def Ib(X:Cx)(id:String)(r:V→List V→Hp→VK→Prop):Prop:=
 ∀(pins:aZ) (s:Shared) (σ:St) (H:Hp) (x:V) (xs:List V) (v:Value) (us:List Value) (Q:VK),Inv X pins σ H s→RelV x v→Vals xs us→r x xs H Q→
  wpAny (model X.prog X.w) X.A (call (.builtin id) (v::us)) (EP X pins σ Q) X.xe s
theorem Vals.one:∀{x:V} {us:List Value},Vals [x] us→∃u,us=[u]∧RelV x u
 | _,_,.cons r .nil=>⟨_,rfl,r⟩
theorem Vals.zero:∀{us:List Value},Vals [] us→us=[]
 | _,.nil=>rfl
theorem Vals.rep{xs:List V}{us:List Value}(h:Vals xs us):∀k:Nat,Vals (List.replicate k xs).flatten (List.replicate k us).flatten
 | 0=>.nil
 | k+1=>by rw [k7,k7,vT,vT];exact Vals.append h (Vals.rep h k)
theorem foldl_rep(aq:List Value):∀(k:Nat) (acc:List Value),
  List.foldl (fun x1 x2=>x1++x2) acc.toArray (List.replicate k aq.toArray)=(acc++(List.replicate k aq).flatten).toArray
 | 0,acc=>by simp
 | k+1,acc=>by
  have e:acc.toArray++aq.toArray=(acc++aq).toArray:=by simp
  have e2:(acc++aq)++(List.replicate k aq).flatten=acc++(List.replicate (k+1) aq).flatten:=by rw [k7,vT,iq]
  rw [←e2,←foldl_rep aq k (acc++aq),←e,k7,List.foldl_cons]
section
variable {X:Cx} {pins:aZ} {σ:St} {H:Hp} {s:Shared} {l b:Addr} {xs ys zs:List V}
variable {aq:List Value} {n t':Nat}
theorem Inv.Ic{its':List Value}{f:Array Value→Array Value}(I:Inv X pins σ H s)(hH:H l=some (.lst xs))
  (e:s.heap.get? l=some {cls:=.type "list",data:=.seq aq.toArray n}) (hf:f aq.toArray=its'.toArray) (hv:Vals ys its') (hz:ys.length≤sizeLine) :
  Inv X pins σ (upd H l (.lst ys)) {s with heap:=s.heap.update l (Obj.mapSeq f),toks:=t'}:=by
 have q:=PySem.IsL.update e f;rw [hf] at q;refine I.write (x:=l) (e:=l) (by rw [hH];exact trivial) (.inl rfl) (fun b' u hb hu=>(Heap.get?_update_other s.heap (Obj.mapSeq f) (Ne.symm hb)).trans hu) ⟨_,q⟩ ?_
 exact ⟨hz,its',_,hv,q⟩
theorem Inv.Ie(I:Inv X pins σ H s)(hv:Vals ys aq)(hz:ys.length≤sizeLine) :
  Inv X pins σ (upd H s.heap.objs.size (.lst ys)) {s with heap:=s.heap.push {cls:=.type "list",data:=.seq aq.toArray},toks:=t'}:=
 I.laid (fun _ _ q=>dj _ q) (aJ _) ⟨hz,aq,0,hv,gC _ rfl⟩
theorem Inv.fresh(I:Inv X pins σ H s):H s.heap.objs.size=none:=I.aC.fresh (aJ _)
theorem Inv.sV(I:Inv X pins σ H s)(hH:H l=some (.lst xs)):xs.length≤sizeLine∧∃(aq:List Value) (n:Nat),Vals xs aq∧xs.length=aq.length∧s.heap.get? l=some {cls:=.type "list",data:=.seq aq.toArray n}:=by obtain ⟨z,aq,n,r,e⟩:=I.aC l _ hH;exact ⟨z,aq,n,r,r.length,e⟩
theorem Ig(h:n≤sizeLine):Builtin.List.listTooLong n=false:=by unfold Builtin.List.listTooLong;exact fS (by lia)
end
section
variable {X:Cx}
def Ph:V→List V→Hp→VK→Prop:=fun x vs H Q=>∃l xs y,x=.ref l∧vs=[y]∧H l=some (.lst xs)∧xs.length<sizeLine∧Q .aV (upd H l (.lst (xs++[y])))
theorem wO:Ib X "list.append" Ph:=by
 intro pins s σ H x vs v us Q I rx rv h;obtain ⟨l,xs,y,rfl,rfl,hH,hz,q⟩:=h;cases rx;obtain ⟨u,rfl,ru⟩:=rv.one;obtain ⟨z,aq,n,r,hl,e⟩:=I.sV hH;refine call_meets F.slot_list_append ⟨_,e,rfl⟩ F.entry_list_append (F.args_list_append_2 _ _) (PySem.list_append l aq.toArray n u (by rw [dU];lia)) ⟨e,?_⟩
 refine ⟨.aV,_,I.Ic (its':=aq++[u]) hH e (by simp) (r.append (.cons ru .nil)) ?_,rfl,q⟩
 rw [jo,Ci];lia
def Pj:V→List V→Hp→VK→Prop:=fun x vs H Q=>∃l b xs zs,x=.ref l∧vs=[.ref b]∧H l=some (.lst xs)∧H b=some (.lst zs)∧xs.length+zs.length≤sizeLine∧Q .aV (upd H l (.lst (xs++zs)))
theorem abE:Ib X "list.extend" Pj:=by
 intro pins s σ H x vs v us Q I rx rv h;obtain ⟨l,b,xs,zs,rfl,rfl,hH,hB,hz,q⟩:=h;cases rx;obtain ⟨u,rfl,ru⟩:=rv.one;cases ru;obtain ⟨z,aq,n,r,hl,e⟩:=I.sV hH;obtain ⟨z2,o9,n2,r2,Pk,e2⟩:=I.sV hB;have HE:aq.toArray.size+o9.toArray.size≤sizeLine:=by rw [dU,dU];lia
 have C7:¬(!aq.toArray.isEmpty && Builtin.List.listTooLong (aq.toArray.size+o9.toArray.size))=true:=by rw [Ig HE,Bool.and_false];exact dk
 refine call_meets F.slot_list_extend ⟨_,e,rfl⟩ F.entry_list_extend (F.args_list_extend_2 _ _)
  (AutoSeq1.list_extend_list_list_0 l aq.toArray n b o9.toArray n2 C7 (by rw [dU];lia) (by lia)) ⟨e,e2,?_⟩
 refine ⟨.aV,_,I.Ic (its':=aq++o9) hH e (by simp) (r.append r2) ?_,rfl,q⟩
 rw [jo];lia
def Pl:R2:=fun x y H Q=>∃l b xs zs,x=.ref l∧y=.ref b∧H l=some (.lst xs)∧H b=some (.lst zs)∧xs.length+zs.length≤sizeLine∧∀p,H p=none→Q (.ref p) (upd H p (.lst (xs++zs)))
theorem lL:cE X (binaryOp .Add) Pl:=by
 intro pins s σ H x y v u Q I rx ry h;obtain ⟨l,b,xs,zs,rfl,rfl,hH,hB,hz,q⟩:=h;cases rx;cases ry;obtain ⟨z,aq,n,r,hl,e⟩:=I.sV hH;obtain ⟨z2,o9,n2,r2,Pk,e2⟩:=I.sV hB;refine PySem.P.add_list e e2 ?_ (by rw [dU,dU];lia)
 have ea:aq.toArray++o9.toArray=(aq++o9).toArray:=by simp
 rw [ea];exact ⟨.ref _,_,I.Ie (t':=s.toks) (r.append r2) (by rw [jo];lia),rfl,q _ I.fresh⟩
def Pm:R2:=fun x y H Q=>∃l k xs,x=.ref l∧y=.int k∧H l=some (.lst xs)∧-(2 ^ 63)≤k∧k<2 ^ 63∧xs.length*k.toNat≤sizeLine ∧
 ∀p,H p=none→Q (.ref p) (upd H p (.lst (List.replicate k.toNat xs).flatten))
theorem len_rep(xs:List α)(k:Nat):(List.replicate k xs).flatten.length=k*xs.length:=by
 induction k with
 | zero=>simp
 | succ k ih=>rw [k7,vT,jo,ih,Nat.succ_mul,Nat.add_comm]
theorem wQ:cE X (binaryOp .Mult) Pm:=by
 intro pins s σ H x y v u Q I rx ry h;obtain ⟨l,k,xs,rfl,rfl,hH,h1,h2,hz,q⟩:=h;cases rx;obtain ⟨t,rfl⟩:=ry;obtain ⟨z,aq,n,r,hl,e⟩:=I.sV hH;have hlen:aq.toArray.size*k.toNat≤sizeLine:=by rw [dU,←hl];exact hz
 have Pn:¬aq.toArray.size*k.toNat>(2 ^ 63-1) / 8:=by
  have:(sizeLine:Nat)≤(2 ^ 63-1) / 8:=by decide
  lia
 have Po:¬(!Builtin.List.listFitsIndex k)=true:=by rw [fitsIndex_both h1 h2];exact dk
 have C7:¬Builtin.List.listTooLong (aq.toArray.size*k.toNat)=true:=by rw [Ig hlen];exact dk
 have Pp:List.foldl (fun x1 x2=>x1++x2) #[] (List.replicate (if aq.toArray.isEmpty=true then 0 else k.toNat) aq.toArray)=(List.replicate k.toNat aq).flatten.toArray:=by
  have f0:∀m:Nat,List.foldl (fun x1 x2=>x1++x2) #[] (List.replicate m aq.toArray)=(List.replicate m aq).flatten.toArray:=fun m=>by have:=foldl_rep aq m [];rw [fC] at this;exact this
  rw [f0];cases aq with
  | nil=>simp
  | cons a r'=>rw [ao (by simp)]
 refine wpAny_binaryOp_repeat_ref (T:="list") (U:="int") (by decide) ⟨_,e,rfl⟩ (fun s'=>typeIs_int s' k t) noFill_list_mul F.fills_int_mul F.slot_int_rmul repeat_list F.slot_int_index.lookup
  (call_meets F.slot_int_rmul (typeIs_int s k t) F.entry_int_rmul (F.args_int_rmul_2 _ _) (int___rmul___int_list k t l aq.toArray n)
   ⟨e,rfl,⟨_,e,rfl⟩,call_meets F.slot_list_mul ⟨_,e,rfl⟩ F.entry_list_mul (F.args_list_mul_2 _ _) (AutoListH.list___mul___list_int_3 l aq.toArray n k t Po Pn C7) ⟨e,?_⟩⟩)
 rw [Pp];exact ⟨.ref _,_,I.Ie (t':=s.toks) (r.rep k.toNat) (by rw [len_rep,jq];exact hz),rfl,q _ I.fresh⟩
end
section
variable {prog:Program} {w:World} {A:Around} {E:b_} {s:Shared}
end
section
variable {X:Cx}
end
end L2
namespace Ih
open PySem PySem.W PySem.Calls PyProof.Rows
variable {P:Params} {h:Heap}
theorem Pq:∀(ns:List Int) (vs:List Value),WellAll P h vs (ns.map WData.int)→IntsAre vs ns:=by
 intro ns
 induction ns with
 | nil=>intro vs w;rw [List.map_nil] at w;cases w;exact .nil
 | cons n ns ih=>
  intro vs w;rw [rQ] at w;cases w with
  | cons a b=>cases a;exact .cons _ _ (ih _ b)
variable {l:OpenLaw} {n:Nat}
theorem Pt(hn:l.most=some n){args:List WData}{vals:List Value}
  (ze:l.row.toRowW.claim.pre args=true) (C8:WellAll P h vals args) :
  ∃a vs ns,vals=[Value.ref a]∧args=[WData.list (ns.map WData.int)]∧h.get? a=some {cls:=.type "list",data:=.seq vs.toArray}∧IntsAre vs ns∧ns.length≤n:=by
 have Pu:WShape.hasAll [] args [.list .int]=true:=(pre_splitW ze).1;have hc:l.pre.holds [] {args:=args}=true:=(pre_splitW ze).2;obtain ⟨d,r,rfl,h1,h2⟩:=hasAllW_cons Pu;obtain rfl:=hasAllW_nil h2;obtain ⟨xs,rfl,h3⟩:=hasW_list h1;obtain ⟨ns,rfl⟩:=items_int h3;have hlen:ns.length≤n:=by
  unfold OpenLaw.pre at hc;have h4:(WTm.not (.lt (.lit (.int (n:Int))) (.len (.arg 0)))).holds [] {args:=[.list (ns.map .int)]}=true:=by have h4:=(holds_andW hc).1;rw [hn] at h4;exact h4
  have h5:=condW_of h4 (w_not (w_lt w_lit (w_len_list (w_arg rfl))));rw [aT] at h5;refine Nat.le_of_not_lt fun q=>?_;have q':(n:Int)<((ns.length:Nat):Int):=by lia
  first
   | (rw [dG q'] at h5;exact absurd h5 (by decide))
   | (simp at h5;lia)
 cases C8 with
 | cons w1 w2=>
  cases w2;cases w1 with
  | list ho Pw=>exact ⟨_,_,ns,rfl,rfl,ho,Pq ns _ Pw,hlen⟩
theorem Px(l:OpenLaw)(args:List WData):l.row.toRowW.claim.post args (.bool true) args=true:=
 postW_of (r:=l.row.toRowW) (X:=(true == true))
  (show WShape.has [] (.bool true) .bool=true by first | rfl | decide | simp [WShape.has,WShape.arms,WShape.armsAll])
  (show (WTm.eq .res (.lit (.bool true))).value [] {args:=args,res:=some (.bool true),after:=args}=some (.bool (true == true)) from w_eq_bool (w_res rfl) w_lit) rfl
theorem Py{q:Program}{loose:List Str}{XP:(Str→Option Value)→Heap→Prop}{YP:World→Heap→Prop}{d:DefRec}
  (hn:l.most=some n) (mZ:d.params.defaults=[])
  (call:∀(w:World) (s₀ s₁:Shared) (mg mb:dn) (fa:Addr) (o:Obj) (pm cd doc:Value) (a:Addr) (vs:List Value) (ns:List Int),
   Ground q loose [] XP w s₀ mg mb s₁.heap→YP w s₁.heap→
   s₁.heap.get? fa=some o→o.data=.func (docDef d.name d.params d.body d.scope pm cd doc)→s₁.heap.CodeRec cd d.name→mg d.name=some (.ref fa)→
   s₁.heap.get? a=some {cls:=.type "list",data:=.seq vs.toArray}→IntsAre vs ns→ns.length≤n→s₁.gens = #[]→
   codeAny (model l.prog w) callerA (.call (.ref fa) ⟨[.ref a],[]⟩) (fun r s'=>r=.ok (.ret (.bool true))∧OldK s₁.heap s'.heap∧s'.os=s₁.os∧AllBare s'.gens) s₁) :
  WalkO q loose XP YP l.row.toRowW d [] (fun f vs=>PySem.call f vs):=by
 intro w s₀ s₁ mg mb G Y fa o pm cd doc dV kV ho hd fe hD wR hg args vals as ze abF hrd C8 hlo;obtain rfl:dV=.none:=Dflts.none hD mZ;obtain rfl:kV=.none:=Dflts.noKw hD;obtain ⟨a,vs,ns,rfl,rfl,C9,hints,hlen⟩:=Pt hn ze C8;refine enter_call (codeAny_mono (call w s₀ s₁ mg mb fa o pm cd doc a vs ns G Y ho (fd_plain hd) fe wR C9 hints hlen hg) fun r s' hq=>?_);obtain ⟨rfl,h2,h3,h4⟩:=hq;exact ⟨.inl ⟨.bool true,.bool true,[],rfl,fun _=>rfl,.bool true,Px l _,fun _=>⟨List.Pairwise.nil,fun _ hm=>(nomatch hm)⟩⟩,h2,h3,h4⟩
section
variable {prog:Program} {w:World} {A:Around} {E:b_} {s:Shared} {K:Frag}
end
end Ih
namespace L2
open PySem PySem.Spec PyProof.Rows
theorem Ii:∀{vs:List Value} {ns:List Int},IntsAre vs ns→Vals (ns.map V.int) vs
 | _,_,.nil=>.nil
 | _,_,.cons n t h=>.cons ⟨t,rfl⟩ (Ii h)
def C_(H:Hp):Prop:=∀b,H b=none∨∃o xs,H b=some (.gj o (.lst xs))
variable {K:aF} {k:Nat} {x:Str}
theorem Pz{P:Program}{w:World}{mg mb:dn}{CX:iA}{fa a:Addr}{fd:FuncData}{sp:Sp}{s₁:Shared}{vs:List Value}{ns:List Int}
  (KX:K.In s₁.heap) (Ij:s₁.heap.Ns mainGlobals mg) (hb:s₁.heap.Ns builtinsNs mb) (PB:∀x:Str,x ≠ "__name__"→mb x=bootBuiltins x) (PD:s₁.heap.NoLimit) (hg:s₁.gens = #[])
  (ha:s₁.heap.get? a=some {cls:=.type "list",data:=.seq vs.toArray}) (hi:IntsAre vs ns) (hl:ns.length≤sizeLine) (hr:cW k callerA)
  (F:∀base:Heap,K.In base→base.Ns mainGlobals mg→aW P w K mg base CX k fa fd [x] sp) (PF:∀(s:Shared) (u:Value),BindsTo s fd ⟨[u],[]⟩ [(x,u)])
  (i7:∀H:Hp,C_ H→bo K H a (ns.map V.int)→sp [.ref a] H (fun v _=>v=.bl true) fun _ _ _=>False)
  (Dc:∀H e s',CX [] H s₁ (fun _ _ _=>False) e s'→False) :
  codeAny (model P w) callerA (.call (.ref fa) ⟨[.ref a],[]⟩) (fun r s'=>r=.ok (.ret (.bool true))∧OldK s₁.heap s'.heap∧s'.os=s₁.os∧AllBare s'.gens) s₁:=by
 have rv:=Ii hi;have PH:=hi.length
 have core:∀H:Hp,C_ H→bo K H a (ns.map V.int)→cL P w H s₁.heap→(∀b,H b≠none→b=a)→(H a≠none→K.lookup a=none)→
   codeAny (model P w) callerA (.call (.ref fa) ⟨[.ref a],[]⟩) (fun r s'=>r=.ok (.ret (.bool true))∧OldK s₁.heap s'.heap∧s'.os=s₁.os∧AllBare s'.gens) s₁:=by
  intro H hO hS aC hA hK;have Ik:∀{b:Addr} {o:Obj},s₁.heap.get? b=some o→H b=none→(lB s₁.heap H).get? b=some o:=fun e n=>NB e n;have wN:∀{b:Addr} {o:Obj} {es:Array DictEntry} {ep:Nat},s₁.heap.get? b=some o→o.data=.dict es ep→H b=none:=fun{b o es ep} e d=>by
   cases q:H b with
   | none=>rfl
   | some u=>
    have e':b=a:=hA b (by rw [q];simp)
    subst e';rw [ha] at e;cases e;have d':Data.seq vs.toArray _=Data.dict es ep:=d;cases d'
  have zf:∀{b:Addr} {m:dn},s₁.heap.Ns b m→(lB s₁.heap H).Ns b m:=fun{b m} ⟨o,es,ep,e,d,r⟩=>⟨o,es,ep,Ik e (wN e d),d,r⟩;have Il:K.In (lB s₁.heap H):=fun b o e=>Ik (KX b o e) (by
   cases q:H b with
   | none=>rfl
   | some u=>
    have e':b=a:=hA b (by rw [q];simp)
    subst e';rw [hK (by rw [q];simp)] at e;cases e)
  have hM:Mod K mg (lB s₁.heap H):=⟨Il,zf Ij,⟨mb,zf hb,PB⟩,let ⟨mc,h1,h2⟩:=PD;⟨mc,zf h1,h2⟩⟩
  have e0:o5 P w K mg (lB s₁.heap H) callerA [] s₁ H:=⟨rfl,hM,fun b o e=>NC e,iT (NA _ _),trivial,fun b hb=>absurd (show b∈([]:List Addr) from hb) (by simp),aC,.of_eq hg⟩
  refine codeAny_mono ((F _ Il (zf Ij)).run callerA [] s₁ H ⟨[.ref a],[]⟩ [.ref a] [.ref a] _ _ hr e0 (PF s₁ (.ref a)) (.cons rfl .nil) (i7 H hO hS)) fun r s' h=>?_;cases r with
  | error e=>exact (Dc H e s' h).elim
  | ok fl=>
   cases fl with
   | next=>exact False.elim h
   | brk=>exact False.elim h
   | cont=>exact False.elim h
   | ret u=>
    obtain ⟨v,H',os,bare,un,PJ,r',q⟩:=h;have q':v=.bl true:=q;subst q';obtain rfl:u=Value.bool true:=r';refine ⟨rfl,OldK.of_keep fun b o e=>?_,os,bare⟩;cases q:H b with
    | none=>exact un.keep b o e q (by intro z;exact absurd (show b∈([]:List Addr) from z) (by simp)) (by simp)
    | some u=>
     rcases hO b with z | ⟨ob,xs,z⟩;·rw [q] at z;cases z
     ·have z2:=un.fY b ob _ z
      obtain ⟨e1,_⟩:=aC b _ z;obtain ⟨e2,_⟩:=PJ b _ z2;rw [e] at e1;cases e1;exact e2
 cases hk:K.lookup a with
 | some o=>have e:=KX a o hk;rw [ha] at e;cases e;refine core (fun _=>none) (fun _=>.inl rfl) (.inr ⟨_,vs.toArray,_,hk,rfl,rfl,rfl,by rw [dU,PH];exact hl,by simpa using rv⟩) (fun b u z=>by have z':(none:Option HO)=some u:=z;cases z') (fun b z=>absurd rfl z) fun z=>absurd rfl z
 | none=>
  refine core (fun b=>if b=a then some (.gj {cls:=.type "list",data:=.seq vs.toArray} (.lst (ns.map V.int))) else none) (fun b=>?_) (.inl (.inr ⟨{cls:=.type "list",data:=.seq vs.toArray},ar rfl⟩)) (fun b u z=>?_) (fun b z=>?_) fun _=>hk
  ·by_cases hb:b=a
   ·exact .inr ⟨_,_,ar hb⟩
   ·exact .inl (ao hb)
  ·by_cases hb:b=a
   ·have z':=(ar hb).symm.trans z
    cases z';subst hb;exact ⟨ha,by rw [aT];exact hl,vs,_,rv,ha⟩
   ·have z':=(ao hb).symm.trans z
    cases z'
  ·by_cases hb:b=a
   ·exact hb
   ·exact absurd (ao hb) z
abbrev Im {K:aF} {h:Heap} (_:K.In h):PySem.W.Frag:=K
variable {n:Nat}
theorem PK{l:PySem.W.OpenLaw}{q:Program}{loose:List Str}{XP:(Str→Option Value)→Heap→Prop}{YP:World→Heap→Prop}{d:DefRec}{K:Params→PySem.W.Frag}{CX:World→iA}{sp:World→Sp}
  (hn:l.most=some n) (sM:n≤sizeLine) (mZ:d.params.defaults=[]) (hr:cW k callerA)
  (hY:∀(w:World) (h:Heap),YP w h→(K w.params).In h)
  (F:∀(w:World) (mg:dn) (fa:Addr) (h:Heap),(K w.params).In h→h.Ns mainGlobals mg→mg d.name=some (.ref fa)→
   ∃fd:FuncData,(∀(s:Shared) (u:Value),BindsTo s fd ⟨[u],[]⟩ [(x,u)]) ∧
    ∀base:Heap,(K w.params).In base→base.Ns mainGlobals mg→aW l.prog w (K w.params) mg base (CX w) k fa fd [x] (sp w))
  (i7:∀(w:World) (H:Hp) (a:Addr) (ns:List Int),ns.length≤n→C_ H→bo (K w.params) H a (ns.map V.int)→sp w [.ref a] H (fun v _=>v=.bl true) fun _ _ _=>False)
  (Dc:∀(w:World) (H:Hp) (s:Shared) (e:Value) (s':Shared),CX w [] H s (fun _ _ _=>False) e s'→False) :
  PySem.W.WalkO q loose XP YP l.row.toRowW d [] (fun f vs=>PySem.call f vs):=by
 refine Ih.Py hn mZ fun w s₀ s₁ mg mb fa o pm cd doc a vs ns G Y ho hd fe wR C9 hints hlen hg=>?_;have KX:=hY w _ Y;obtain ⟨fd,hb,hF⟩:=F w mg fa _ KX G.T.g wR;exact Pz KX G.T.g G.T.b G.T.builtins G.T.nolimit hg C9 hints (ae hlen sM) hr hF hb (fun H hO hS=>i7 w H a ns hlen hO hS) fun H e s'=>Dc w H s₁ e s'
def inClass(s:Stmt)(j:Nat):Stmt:=match s with
 | .ClassDef _ _ _ body _ _ _ _ _ _ _=>body.getD j (.Pass ⟨0,0,0,0⟩)
 | _=>.Pass ⟨0,0,0,0⟩
def iC(s:Stmt):Arguments:=match s with
 | .FunctionDef _ a _ _ _ _ _ _ _ _=>a
 | _=>{posonlyargs:=[],args:=[],vararg:=none,kwonlyargs:=[],kw_defaults:=[],kwarg:=none,defaults:=[]}
def fK(s:Stmt):List Stmt:=match s with
 | .FunctionDef _ _ b _ _ _ _ _ _ _=>b
 | _=>[]
def aM(s:Stmt):Scope:=match s with
 | .FunctionDef _ _ _ _ _ _ sc _ _ _=>sc
 | _=>{kind:=.function,names:=[],isGenerator:=false,isCoroutine:=false}
abbrev bR:iA:=fun _ _ _ _ _ _=>False
abbrev E0:XK:=fun _ _ _=>False
theorem ay{X:Cx}:Passes bR X E0:=fun _ _ _ _ _ _ _ h=>h.elim
structure eZ (K:aF) (x qual:Str) (st:Stmt) (f:Addr) (fd:FuncData):Prop where
 ex:∃(oc:Value) (od:Option Addr) (kV doc pm:Value) (an:Option Addr) (aU ct:Value) (fj:Array (Option Value)),
  fd=PySem.W.fnOf x qual (iC st) (fK st) (aM st) .none kV doc pm an aU ct∧K.lookup f=some ⟨oc,od,.func fd,fj⟩∧PySem.W.codeIn K aU qual=true
 kp:PySem.W.keepIn K (.ref f)=true
abbrev aH (K:aF) (x:Str) (st:Stmt) (f:Addr) (fd:FuncData):Prop:=eZ K x x st f fd
section
variable {P:Program} {w:World} {K:aF} {mg:dn} {base:Heap}
variable {qual:Str} {st:Stmt} {f:Addr} {fd:FuncData} {N ps:List Str} {sp:Sp}
theorem eZ.ok(F:eZ K x qual st f fd)(S:bp N ps (aM st))(len:∀vs H Q E,sp vs H Q E→vs.length=ps.length)
  (jD:∀(aU:Value) (A:Around) (outer:List Env) (s:Shared) (H:Hp) (vs:List V) (Q:VK) (E:XK),cW k (A.deeper (envOfC qual (aM st) s.heap.objs.size f aU))→sp vs H Q E→
   ∃t,eU (iB bR P w K mg base N qual (aM st) f aU A outer s H E).oP (fK st) t∧t {nx:=fun _ H'=>Q .aV H',rt:=Q} (start N vs) H):aW P w K mg base bR (k+1) f fd ps sp:=by
 obtain ⟨oc,od,kV,doc,pm,an,aU,ct,fj,rfl,lk,fe⟩:=F.ex;refine CW lk fe S len fun A outer s H vs Q E hr i7=>?_;obtain ⟨t,h,q⟩:=jD aU A outer s H vs Q E hr i7;exact ⟨t,h.oP,q⟩
theorem eZ.cw(F:eZ K x qual st f fd)(S:bp N ps (aM st))
  (jD:∀(aU:Value) (A:Around) (outer:List Env) (s:Shared) (H:Hp) (vs:List V) (Q:VK) (E:XK),cW k (A.deeper (envOfC qual (aM st) s.heap.objs.size f aU))→sp vs H Q E→
   ∃t,eU (iB bR P w K mg base N qual (aM st) f aU A outer s H E).oP (fK st) t∧t {nx:=fun _ H'=>Q .aV H',rt:=Q} (start N vs) H)
  (len:∀vs H Q E,sp vs H Q E→vs.length=ps.length:=by intro vs H Q E h;repeat first | (obtain ⟨rfl,_⟩:=h;rfl) | (subst h;rfl) | obtain ⟨_,h⟩:=h):aW P w K mg base bR (k+1) f fd ps sp:=F.ok S len jD
theorem eZ.binds(F:eZ K x qual st f fd)
  (h:∀(kV doc pm:Value) (an:Option Addr) (aU ct:Value) (us:List Value),us.length=ps.length→bindArgs (PySem.W.fnOf x qual (iC st) (fK st) (aM st) .none kV doc pm an aU ct) ⟨us,[]⟩=pure (ps.zip us)):Binds K fd ps []:=by
 obtain ⟨oc,od,kV,doc,pm,an,aU,ct,fj,rfl,lk,fe⟩:=F.ex;exact .all (h kV doc pm an aU ct)
theorem eZ.bO(F:eZ K x qual st f fd)
  (h:∀(kV doc pm:Value) (an:Option Addr) (aU ct:Value) (us:List Value),us.length=ps.length→bindArgs (PySem.W.fnOf x qual (iC st) (fK st) (aM st) .none kV doc pm an aU ct) ⟨us,[]⟩=pure (ps.zip us):=by intro _ _ _ _ _ _ us hl;rcases us with _ | ⟨_,_ | ⟨_,_ | ⟨_,_ | ⟨_,_ | ⟨_,_ | ⟨_,_ | ⟨_,_⟩⟩⟩⟩⟩⟩⟩ <;> first | rfl | (simp at hl;done)):Binds K fd ps []:=F.binds h
theorem bP{oc:Value}{od an:Option Addr}{fj:Array (Option Value)}{kV doc pm aU ct:Value}(l:K.lookup f=some ⟨oc,od,.func (PySem.W.fnOf x qual (iC st) (fK st) (aM st) .none kV doc pm an aU ct),fj⟩)
  (c:PySem.W.codeIn K aU qual=true) (k:PySem.W.keepIn K (.ref f)=true):eZ K x qual st f (PySem.W.fnOf x qual (iC st) (fK st) (aM st) .none kV doc pm an aU ct):=⟨⟨oc,od,kV,doc,pm,an,aU,ct,fj,rfl,l,c⟩,k⟩
end
theorem jF(h:n≤1000):n<sizeLine:=gh h (by decide)
section
variable {X:Cx}
theorem pv(i:Nat){pos:Pos}(hN:X.N[i]?=some x:=by rfl)(hv:mO X.env.scope x:=by first | exact Or.inl rfl | exact Or.inr (Or.inl rfl) | exact Or.inr (Or.inr rfl))(hd:(x == ("__debug__":Str))=false:=by decide)
  (fe:(x == ("__classdict__":Str))=false:=by decide):PE X (.Name x pos) (gL i):=NK hN hv hd fe
end
variable {A B:Prop}
theorem cQ(h:B):if false=true then A else B:=by rw [ao dk];exact h
theorem dI(h:A):if true=true then A else B:=by rw [ar rfl];exact h
theorem b5{c:Prop}[Decidable c](h1:c→A)(h2:¬c→B):if c then A else B:=by
 by_cases h:c
 ·rw [ar h]
  exact h1 h
 ·rw [ao h]
  exact h2 h
def ai(H H':Hp):Prop:=∀b o,H b=some o→H' b=some o
theorem ai.refl(H:Hp):ai H H:=fun _ _ h=>h
variable {H:Hp}
theorem ai.trans{H1 H2:Hp}(a:ai H H1)(b:ai H1 H2):ai H H2:=fun c o h=>b c o (a c o h)
theorem ai.seq{H':Hp}{a:Addr}{xs:List V}(e:ai H H')(h:bo K H a xs):bo K H' a xs:=by
 rcases h with (h | ⟨o,h⟩) | h;·exact .inl (.inl (e _ _ h))
 ·exact .inl (.inr ⟨o,e _ _ h⟩)
 ·exact .inr h
end L2
set_option maxHeartbeats 4000000
namespace L2
open PySem PySem.Spec PyProof.Rows
structure zg (P:Program) (w:World) (outer:List Env) (H:Hp) (s:Shared) (H':Hp) (ea C:Addr) (B:Heap) (t:Addr) (s':Shared):Prop where
 os:s'.os=s.os
 bare:AllBare s'.gens
 fl:Heap.FlyingW B outer ea (.ref C) (.ref t) s'.heap
 aC:cL P w H' B
 kb:∀b o,s.heap.get? b=some o→H b=none→b∉cD outer→B.get? b=some o
 tb:∀b o,s.heap.get? b=some o→b∉cD outer→∃o',B.get? b=some o'
 sl:∀b o,s.heap.get? b=some o→H b=none→b∈cD outer→∃l,s'.heap.get? b=some {o with slots:=l}
 frh:∀b∈cD outer,H b=none
 PL:∀b o,s.heap.get? b=some o→H b=none→H' b=none
 gk:∀b xs,H b=some (.tup xs)→H' b=some (.tup xs)
 fY:∀b o u,H b=some (.gj o u)→H' b=some (.gj o u)
 gq:∀b ps,H b=some (.lA ps)→∃more,H' b=some (.lA (ps++more))
def dX(P:Program)(w:World):iA:=fun outer H s E e s'=>∃ea C H' B t,e=.ref ea∧zg P w outer H s H' ea C B t s'∧E (.ref C) none H'
section
variable {P:Program} {w:World} {outer:List Env} {H H':Hp} {s s':Shared} {ea C t:Addr} {B:Heap}
def ExcAt(ea C:Addr)(h:Heap):Prop:=∃oe,h.get? ea=some oe∧oe.cls=.ref C∧PySem.W.notCls oe=true
def PM(ea C:Addr):HO:=.ext (ExcAt ea C)
end
section
variable {X:Cx} {pins:aZ} {σ:St} {H H':Hp} {s s':Shared} {ea C t:Addr} {B:Heap}
structure sW (X:Cx) (E:XK):Prop where
 iw:X.stack=X.env::X.outer
 fr:X.env.frame=some X.env.locals
 ex:X.ex=[]
 xe:X.xe=fun e s'=>wpAny (model X.prog X.w) X.A (leaving X.env e) (fun _ eI=>dX X.prog X.w X.outer X.H₀ X.s₀ E e eI) (fun e' eI=>dX X.prog X.w X.outer X.H₀ X.s₀ E e' eI) s'
theorem zh{env:Env}{outer:List Env}{L:Addr}(h:env.frame=some L):cD (env::outer)=L::cD outer:=by unfold cD;rw [yz,h]
variable {E:XK}
theorem zg.leave(L:sW X E)(I:Inv X pins σ H s)(f:zg X.prog X.w X.stack H s H' ea C B t s'){h:Heap}(x:Heap.FlyingW B X.outer ea (.ref C) (.ref t) h)(up:s'.heap.UpToSlots h):zg X.prog X.w X.outer X.H₀ X.s₀ H' ea C B t {s' with heap:=h}:=by
 have nL:∀b o,X.s₀.heap.get? b=some o→b≠X.env.locals:=fun b o e=>d9 (dQ (bV e) I.ok.above);have ns:∀b o,X.s₀.heap.get? b=some o→b∉cD X.outer→b∉cD X.stack:=fun b o e nb z=>by
  rw [L.iw,zh L.fr] at z;rcases dR.mp z with z | z;·exact nL b o e z
  ·exact nb z
 have nx:∀b:Addr,b∉X.ex:=fun b z=>by rw [L.ex] at z;cases z
 refine ⟨f.os.trans I.os,f.bare,x,f.aC,fun b o e n nb=>?_,fun b o e nb=>?_,fun b o e n hb=>?_,I.ok.lC,fun b o e n=>?_,fun b xs e=>f.gk b xs (I.base.gk b xs e),fun b o u e=>f.fY b o u (I.base.fY b o u e),fun b ps e=>?_⟩;·exact f.kb b o (I.base.keep b o e n nb (nx b)) (I.base.free b o e n (nx b)) (ns b o e nb)
 ·obtain ⟨o',e'⟩:=I.base.there b o e (nx b)
  exact f.tb b o' e' (ns b o e nb)
 ·obtain ⟨l,q⟩:=I.base.slot b o e n hb (nx b)
  have hs:b∈cD X.stack:=by rw [L.iw,zh L.fr];exact gZ _ hb
  obtain ⟨l2,q2⟩:=f.sl b _ q (I.base.free b o e n (nx b)) hs;obtain ⟨_,o2,q3,nf⟩:=f.fl.2.2.1.mem hs;rw [q2] at q3;cases q3;obtain ⟨l3,q4⟩:=up b _ q2 nf;exact ⟨l3,q4⟩
 ·obtain ⟨o',e'⟩:=I.base.there b o e (nx b)
  exact f.PL b o' e' (I.base.free b o e n (nx b))
 ·obtain ⟨m1,e1⟩:=I.base.gq b ps e
  obtain ⟨m2,e2⟩:=f.gq b _ e1;exact ⟨m1++m2,by rw [e2,Array.append_assoc]⟩
theorem i9:Passes (dX X.prog X.w) X (fun _ _ _=>False):=fun pins σ H s e s' I h=>by obtain ⟨_,_,_,_,_,_,_,q⟩:=h;exact q.elim
theorem m4(L:sW X E):Passes (dX X.prog X.w) X E:=fun pins σ H s e s' I h=>by
 obtain ⟨ea,C,H',B,t,rfl,f,q⟩:=h;rw [L.xe];refine wpAny_leaves_onW (by rw [I.ok.frames,L.iw]) L.fr (by have z:=f.fl;rw [L.iw] at z;exact z) fun h' x up=>?_
 exact ⟨ea,C,H',B,t,rfl,f.leave L I x up,q⟩
end
variable {K:aF} {h:Heap}
theorem PN{C:Addr}{sX:List Value}{newId:String}(cT:K.In h)(hq:PySem.W.excIn K C sX newId=true) :
  ∃bm N nm qn bs hdct sn sub ab col dd k0 k1 k2 k3 k5 mN,h.get? C=some (excClassObj nm qn C N bs bm hdct sn sub ab col dd k0 k1 k2 k3 k5 newId)∧h.Ns N mN∧mN "__init__"=none∧OwnTail h sX bm∧PySem.W.mroIn K C=fun b=>some ((Value.ref C::bm).contains b):=by
 unfold PySem.W.excIn at hq
 split at hq
 ·rename_i sY cls slt look
  split at hq
  ·rename_i CC rest a0 a1 a2 a3 nn a5 em es
   simp only [yF,jZ,Bool.not_eq_true'] at hq;obtain ⟨⟨⟨⟨⟨e1,e2⟩,e3⟩,e4⟩,e5⟩,e6⟩:=hq;subst e1 e2;have PQ:PySem.W.mroIn K CC=fun b=>some ((Value.ref CC::rest).contains b):=by
    funext b
    unfold PySem.W.mroIn PySem.W.clsIn;rw [look];simp [em]
   obtain ⟨c1,c2,c3,c4,c5,c6,c7,c8,c9,PR,c11⟩:=cls;dsimp only at em e3 e5 e6;subst em e3;have PU:slt = #[a0,a1,a2,a3,some (.builtin nn),a5]:=by obtain ⟨ll⟩:=slt;simp only at es;rw [es]
   subst PU;exact ⟨rest,c4,c1,c5,c2,c6,c7,c8,c9,PR,sY,a0,a1,a2,a3,a5,_,cT _ _ look,.of_isNs (PySem.W.isNs_of_in cT e5),PySem.W.nsMap_none_of_in cT e5 e6,PySem.W.tail_of_in cT e4,PQ⟩
  ·cases hq
 ·cases hq
section
variable {X:Cx} {E:XK} {x:Str} {C:Addr} {np h_ pos:Pos} {e:Expr} {es:List Expr} {ta:TA} {B newId PV:String} {sX:List Value}
def PX(C:Addr)(E:XK)(ta:TA):TS:=fun _ σ H=>ta σ H fun vs H1=>vs.length≤sizeLine∧E (.ref C) none H1
theorem sZ(L:sW X E)(hc:X.calm=true)(FB:ExcBaseFacts B newId PV sX)(hq:PySem.W.excIn X.K C sX newId=true)(hg:Gl X x)(hm:X.mg x=some (.ref C))(ha:PA X (e::es) ta)
  (hs:starEach (e::es) X.env=(false,eval e X.env)::starEach es X.env:=by rfl) (hp:(backTo h_ (starEach es X.env)).any (·.1)=false:=by rfl) (hd:(x == ("__debug__":Str))=false:=by decide) :
  PS X (.Raise (some (.Call (.Name x np) (e::es) [] h_)) none pos) (PX C E ta):=by
 intro pins s σ H D I h;obtain ⟨bm,N,nm,qn,bs,hdct,sn,sub,ab,col,dd,k0,k1,k2,k3,k5,mN,hC,hN,PY,T,_⟩:=PN I.ok.mod.cT hq
 refine wpAny_Raise_call_subT (C:=C) (nm:=nm) (q:=qn) (N:=N) (bs:=bs) (bm:=bm) (hdct:=hdct) (sn:=sn) (sub:=sub) (ab:=ab) (col:=col) (dd:=dd) (k0:=k0) (k1:=k1) (k2:=k2) (k3:=k3) (k5:=k5) FB (mN:=mN) (T.hasType FB.hasBase) (I.ok.hd hc)
  (by rw [hs];show (false || (backTo h_ (starEach es X.env)).any (·.1))=false;rw [hp];rfl) PY (yX I hg hm ⟨rfl,?_⟩ hd)
 have h1:=ha h_ pins s σ H _ I h;rw [hs] at h1 ⊢;refine Calls.evalArgs_plain (aG h1 fun us s2 ⟨vs,H1,I1,r,hl,q⟩=>⟨rfl,by rw [←r.length];exact hl,I1.bk _ _ hC,hN.keeps I1.bk,T.keeps I1.bk,fun h' ea mk=>?_⟩)
 rw [L.xe];have nL:∀b o,X.s₀.heap.get? b=some o→b≠X.env.locals:=fun b o q=>d9 (dQ (bV q) I1.ok.above);have ns:∀b o,X.s₀.heap.get? b=some o→b∉cD X.outer→b∉cD X.stack:=fun b o q nb z=>by
  rw [L.iw,zh L.fr] at z;rcases dR.mp z with z | z;·exact nL b o q z
  ·exact nb z
 have nx:∀b:Addr,b∉X.ex:=fun b z=>by rw [L.ex] at z;cases z
 have ff:s2.heap.FunFrames (PySem.W.hideAll s2.heap (cD X.stack)) (X.env::X.outer):=by have z:=I1.stack;rw [←L.iw];exact PySem.W.funFrames_hide z fun env he a hf=>List.mem_filterMap.mpr ⟨env,he,hf⟩
 refine wpAny_leaves_madeW (base:=PySem.W.hideAll s2.heap (cD X.stack)) (h:=s2.heap) (by rw [I1.ok.frames,L.iw]) L.fr (fun b o q=>PySem.W.of_hideAll _ q) ff mk fun h2 t fl _ _ up=>?_
 refine ⟨ea,C,H1,_,t,rfl,⟨I1.os,I1.bare,fl,fun a o e1=>?_,fun b o e1 n nb=>?_,fun b o e1 nb=>?_,fun b o e1 n hb=>?_,I1.ok.lC,fun b o e1 n=>?_,I1.base.gk,I1.base.fY,I1.base.gq⟩,q⟩
 ·refine (I1.aC a o e1).g_ (fun b u hb e2=>yy _ e2 fun z=>?_) (fun _ z=>z) fun _ _ z=>z
  have n0:=I1.so b z;rcases hb with hb | hb
  ·subst hb
   rw [e1] at n0;cases n0
  ·rw [hb] at n0
   cases n0
 ·exact yy _ (I1.base.keep b o e1 n nb (nx b)) (ns b o e1 nb)
 ·obtain ⟨o',e2⟩:=I1.base.there b o e1 (nx b)
  exact ⟨o',yy _ e2 (ns b o e1 nb)⟩
 ·obtain ⟨l,e2⟩:=I1.base.slot b o e1 n hb (nx b)
  have ku:b∈cD X.stack:=by rw [L.iw,zh L.fr];exact gZ _ hb
  obtain ⟨_,o2,e3,nf⟩:=I1.stack.mem ku;rw [e2] at e3;cases e3;obtain ⟨l2,e4⟩:=up b _ (mk.keeps _ _ e2) nf;exact ⟨l2,e4⟩
 ·obtain ⟨o',e2⟩:=I1.base.there b o e1 (nx b)
  exact I1.base.free b o e1 n (nx b)
end
section
variable {X:Cx} {k:Nat} {f C:Addr} {fd:FuncData} {ps:List Str} {sp:Sp} {eY:List V} {ds:List Value} {x m:Str} {p pos apos:Pos} {e o:Expr} {es:List Expr} {ta:TE} {t:TA}
variable {te:TX} {i:Nat} {pos':Pos}
end
section
variable {X:Cx} {pins:aZ} {σ:St} {H:Hp} {s:Shared} {ea:Addr}
end
section
variable {M:Model} {A:Around} {E:b_} {h:Heap} {g:Array GenState} {d:Drawn} {t:Nat} {os:OsState} {e:Addr} {oe:Obj} {Q:Bool→Shared→Prop}
variable {nm q nm' q':Str} {C N D N':Addr} {bs bm bs' m6:List Value} {hdct abM:Bool} {sn sn':List Str} {sub abO:List Value} {ab ab':Bool} {col abQ:Option Bool} {dd dd':Option Addr} {k0 k1 k2 k3 k5 j0 j1 j2 j3 j5:Option Value} {newId abS:String}
end
section
variable {X:Cx} {body:List Stmt} {b₀:Stmt} {abT:List Stmt} {np abU pos:Pos} {x n:Str} {D:Addr} {tb:TSX} {ts:TS} {sX:List Value} {newId:String} {i:Nat}
end
section
variable {P:Program} {w:World} {K:aF} {mg:dn} {base:Heap}
variable {x qual:Str} {st:Stmt} {f:Addr} {fd:FuncData} {N ps:List Str} {k:Nat} {sp:Sp}
theorem eZ.Dd(F:eZ K x qual st f fd)(S:bp N ps (aM st))(len:∀vs H Q E,sp vs H Q E→vs.length=ps.length)
  (jD:∀(aU:Value) (A:Around) (outer:List Env) (s:Shared) (H:Hp) (vs:List V) (Q:VK) (E:XK),cW k (A.deeper (envOfC qual (aM st) s.heap.objs.size f aU))→sp vs H Q E→
   sW (iB (dX P w) P w K mg base N qual (aM st) f aU A outer s H E) E→
   ∃t,eU (iB (dX P w) P w K mg base N qual (aM st) f aU A outer s H E) (fK st) t∧t {nx:=fun _ H'=>Q .aV H',rt:=Q} (start N vs) H):aW P w K mg base (dX P w) (k+1) f fd ps sp:=by
 obtain ⟨oc,od,kV,doc,pm,an,aU,ct,fj,rfl,lk,fe⟩:=F.ex;exact CW lk fe S len fun A outer s H vs Q E hr i7=>jD aU A outer s H vs Q E hr i7 ⟨rfl,rfl,rfl,rfl⟩
theorem eZ.eK(F:eZ K x qual st f fd)(S:bp N ps (aM st))
  (jD:∀(aU:Value) (A:Around) (outer:List Env) (s:Shared) (H:Hp) (vs:List V) (Q:VK) (E:XK),cW k (A.deeper (envOfC qual (aM st) s.heap.objs.size f aU))→sp vs H Q E→
   sW (iB (dX P w) P w K mg base N qual (aM st) f aU A outer s H E) E→
   ∃t,eU (iB (dX P w) P w K mg base N qual (aM st) f aU A outer s H E) (fK st) t∧t {nx:=fun _ H'=>Q .aV H',rt:=Q} (start N vs) H)
  (len:∀vs H Q E,sp vs H Q E→vs.length=ps.length:=by intro vs H Q E h;repeat first | (obtain ⟨rfl,_⟩:=h;rfl) | (subst h;rfl) | obtain ⟨_,h⟩:=h):aW P w K mg base (dX P w) (k+1) f fd ps sp:=F.Dd S len jD
end
structure o_ (K:aF) (C:Addr):Prop where
 ci:PySem.W.hasDictIn K C=true
 ga:PySem.W.findIn K (.ref C) "__getattribute__"=some (some (.builtin "BaseException.__getattribute__"))
 gn:PySem.W.findIn K (.ref C) "__getattr__"=some none
 ca:PySem.W.findIn K (.ref C) "__class__"=some (some (.builtin "object.__class__"))
 mo:PySem.W.mroIn K C (.type "object")=some true
 mb:PySem.W.mroIn K C (.type "BaseException")=some true
section
variable {prog:Program} {w:World} {A:Around} {E:b_} {h:Heap} {g:Array GenState} {d:Drawn} {t:Nat} {os:OsState} {K:aF} {a C:Addr} {o:Obj}
theorem PZ{R:Result→Shared→Prop}(cT:K.In h)(c:o_ K C)(hx:h.get? a=some o)(hc:o.cls=.ref C)(hq:R (.ok (.ret (.ref C))) ⟨h,g,d,t,os⟩) :
  codeAny (model prog w) A (.call (.builtin "getset_descriptor.__get__") ⟨[.builtin "object.__class__",.ref a,.ref C],[]⟩) R ⟨h,g,d,t,os⟩:=by
 have Io:(⟨h,g,d,t,os⟩:Shared).TypeIs (.builtin "object.__class__") "getset_descriptor":=Cj;have L1:=PySem.W.looks_mroIn (M:=model prog w) cT c.mo;have ow:=F.owner_object_class;refine codeAny_call_builtin F.slot_gs_get.plain F.entry_gs_get (F.slot_gs_get.check _ _ _ _ _ _ _ _ Io (F.args_gs_get _ _ _) ?_)
 repeat (any_goals (first | assumption | (with_reducible refine vU hx ?_;rw [hc]) | (rw [ow];with_reducible refine L1.at ?_) | wp_step))
 refine ⟨Code.quiet_builtin _ (by decide +kernel),codeAny_builtin F.entry_object_class ?_⟩
 repeat (any_goals (first | assumption | (with_reducible refine vU hx ?_;rw [hc]) | wp_step))
variable {tk:Tok}
theorem P1{Q:Fin→Shared→Prop}(cT:K.In h)(c:o_ K C)(hx:h.get? a=some o)(hc:o.cls=.ref C)(hq:Q (.done (.ret (.ref C))) ⟨h,g,d,t,os⟩) :
  wpAny (model prog w) A (Builtin.«object.__getattribute__» ⟨[.ref a,.str "__class__" tk],[]⟩) Q E ⟨h,g,d,t,os⟩:=by
 have Io:(⟨h,g,d,t,os⟩:Shared).TypeIs (.builtin "object.__class__") "getset_descriptor":=Cj;have L1:=yB (M:=model prog w) cT c.ca;have f5:=Cj;have f6:=F.slot_gs_get.lookup;have f7:=F.slot_gs_set.lookup
 repeat (any_goals (first | assumption | (with_reducible refine vU hx ?_;rw [hc]) | with_reducible refine L1.at ?_ | wp_step))
 refine PZ cT c hx hc ?_
 repeat (any_goals (first | assumption | wp_step))
theorem P2{M:Model}{nv:Value}{Q:Unit→Shared→Prop}(cT:K.In h)(c:o_ K C)(hx:h.get? a=some o)(hc:o.cls=.ref C)(hq:Q () ⟨h,g,d,t,os⟩) :
  wpAny M A (checkBuiltinCall "BaseException.__getattribute__" ⟨[.ref a,nv],[]⟩) Q E ⟨h,g,d,t,os⟩:=by
 have hk:builtinKind "BaseException.__getattribute__"=some .slot:=by decide +kernel
 have hs:splitId "BaseException.__getattribute__"=some ("BaseException","__getattribute__"):=by decide +kernel
 have L1:=PySem.W.looks_mroIn (M:=M) cT c.mb;have ha:=F.args_bexc_ga (.ref a) nv;simp only [checkBuiltinCall,hk,hs];refine cC ?_;unfold isInstance
 repeat (first | (with_reducible refine vU hx ?_;rw [hc]) | with_reducible refine L1.at ?_ | wp_step)
 exact hq
theorem P4{fill expr:Bool}{Q:b_}(cT:K.In h)(c:o_ K C)(hx:h.get? a=some o)(hc:o.cls=.ref C)(hq:Q (.ref C) ⟨h,g,d,t,os⟩) :
  wpAny (model prog w) A (getAttrBy (.ref a) (.str "__class__" tk) fill expr) Q E ⟨h,g,d,t,os⟩:=by
 have f3:=F.attrBase_ValueError.ga.bind (.ref a);have z0:(expr && onTheHeap (Value.builtin "BaseException.__getattribute__"))=false:=by cases expr <;> rfl
 have z2:(Value.builtin "BaseException.__getattribute__" == Value.builtin "object.__getattribute__")=false:=by decide +kernel
 have z1:(onTheHeap (Value.ref C) && Value.builtin "BaseException.__getattribute__" == Value.builtin "object.__getattribute__")=false:=by rw [z2];rfl
 have L1:=yB (M:=model prog w) cT c.ga;have L2:=yB (M:=model prog w) cT c.gn
 repeat (any_goals (first | assumption | (with_reducible refine vU hx ?_;rw [hc]) | with_reducible refine L1.at ?_ | with_reducible refine L2.at ?_ | wp_step))
 refine codeAny_call_builtin F.attrBase_ValueError.ga.plain F.entry_bexc_ga (P2 cT c hx hc (P1 cT c hx hc ?_))
 repeat (any_goals (first | assumption | wp_step))
theorem P5{Q:Option Value→Shared→Prop}(cT:K.In h)(c:o_ K C)(hx:h.get? a=some o)(hc:o.cls=.ref C)(hq:Q (some (.ref C)) ⟨h,g,d,t+1,os⟩) :
  wpAny (model prog w) A (getAttr? (.ref a) "__class__") Q E ⟨h,g,d,t,os⟩:=by
 unfold getAttr? getAttrBy?
 repeat (any_goals (first | assumption | with_reducible apply P4 cT c hx hc | wp_step))
theorem P6(c:o_ K C):PySem.W.KitX K (.ref a) (.ref C) (ExcAt a C) where
 ty:=fun M h _ k=>by obtain ⟨oe,e1,e2,_⟩:=k;exact e2▸(PySem.W.Looks.ld e1).andThen .now
 it:=fun M h cT _=>by
  obtain ⟨cd,hc,_⟩:=PySem.W.any_some c.ci;unfold PySem.W.clsIn at hc
  split at hc
  ·rename_i look
   intro A' Q' E' s' k q;unfold isType loadHead;exact cC (wpAny_loadPart (k _ _ (cT _ _ look)) (d_ q))
  ·cases hc
 ne:=fun h tp dd aq n sl cT P7=>by
  obtain ⟨cd,hc,_⟩:=PySem.W.any_some c.ci;refine Bool.eq_false_iff.mpr fun q=>?_;have e:C=tp:=Value.ref.inj (jZ.mp q);subst e;unfold PySem.W.clsIn at hc
  split at hc
  ·rename_i look
   have z:=(cT _ _ look).symm.trans P7;cases z
  ·cases hc
 ca:=fun{prog w A E Q s} cT k z=>by obtain ⟨oe,e1,e2,_⟩:=k;obtain ⟨h,g,d,t,os⟩:=s;exact P5 cT c e1 e2 z
end
def zi(a:Addr)(h:Heap):Prop:=∃o ep,h.get? a=some o∧o.ExactDict∧o.data=.dict #[] ep∧(a == sysModules)=false
theorem zi.De{a:Addr}(e:zi a h):PySem.W.KitAt a "dict" h:=by obtain ⟨o,_,e,c,_⟩:=e;exact ⟨o,e,c.1⟩
def Ip(a:Addr):HO:=.ext (zi a)
inductive wU (K:aF) (H:Hp):V→Value→Prop where
 | of {x:V} {t:Value} (h:iz K H x t):wU K H x t
 | exc {a C:Addr} (e:H a=some (PM a C)) (c:o_ K C):wU K H (.ref a) (.ref C)
 | sY {a:Addr} (e:H a=some (Ip a)):wU K H (.ref a) (.type "dict")
def Iq:V→Value
 | .ty n=>.type n
 | .ref a=>.ref a
 | _=>.none
def P8:V→Bool
 | .ty _=>true
 | .ref _=>true
 | _=>false
def P9(K:aF):List V→Hp→VK→Prop:=fun xs H Q=>∃x c t b,xs=[x,c]∧P8 c=true∧wU K H x t∧PySem.W.kitOne K t (Iq c)=some b∧Q (.bl b) H
variable {X:Cx}
theorem ky(hK:X.K=K:=by rfl):ko X (.builtin "isinstance") (P9 K):=by
 intro pins s σ H xs us Q I r h;subst hK;obtain ⟨x,c,t,b,rfl,hc,ty,e,q⟩:=h;obtain ⟨u,cv,rfl,rx,rc⟩:=vals2 r;have ec:cv=Iq c:=by
  cases c with
  | ty n=>exact rc
  | ref a=>exact rc
  | _=>cases hc
 subst ec;cases ty with
 | of ty=>exact ON I rx ty e fun tk=>⟨.bl b,H,I.tok tk,rfl,q⟩
 | @sY a ea=>cases rx;obtain ⟨k,_,_⟩:=(show ej X.prog X.w H s.heap a (.ext (zi a)) from I.aC a _ ea);exact il PySem.W.kitx_dict I.dC k.De e (fun z=>nomatch z) fun tk=>⟨.bl b,H,I.tok tk,rfl,q⟩
 | @exc a C ea cc=>cases rx;obtain ⟨k,_,_⟩:=(show ej X.prog X.w H s.heap a (.ext (ExcAt a C)) from I.aC a _ ea);exact il (P6 cc) I.dC k e (fun z=>nomatch z) fun tk=>⟨.bl b,H,I.tok tk,rfl,q⟩
def ia:List V→List V→Bool
 | [],[]=>true
 | x::xs,y::ys=>sS x y && ia xs ys
 | _,_=>false
def Ir(K:aF)(neg:Bool):R2:=fun x y H Q=>∃a b xs ys,x=.ref a∧y=.ref b∧eo K H a xs∧eo K H b ys∧xs.all kv=true∧ys.all kv=true∧Q (.bl (if neg then !ia xs ys else ia xs ys)) H
theorem Iu{A:Around}{s:Shared}:∀{xs ys:List V} {us vs:List Value},Vals xs us→Vals ys vs→xs.all kv=true→ys.all kv=true→
  ∃e:Nat→Bool,(∀j (h1:j<us.length) (h2:j<vs.length),SeqAt.EqAt A s us[j] vs[j] (e j))∧((List.range (min us.length vs.length)).all e && us.length == vs.length)=ia xs ys
 | [],[],_,_,.nil,.nil,_,_=>⟨fun _=>true,fun j h1=>absurd h1 (oC _),by simp [ia]⟩
 | [],_::_,_,_,.nil,.cons _ _,_,_=>⟨fun _=>true,fun j h1=>absurd h1 (oC _),by simp [ia]⟩
 | _::_,[],_,_,.cons _ _,.nil,_,_=>⟨fun _=>true,fun j _ h2=>absurd h2 (oC _),by simp [ia]⟩
 | x::xs,y::ys,u::us,v::vs,.cons r1 t1,.cons r2 t2,f1,f2=>by
  rw [List.all_cons,yF] at f1 f2;obtain ⟨e,h,q⟩:=Iu (A:=A) (s:=s) t1 t2 f1.2 f2.2;refine ⟨fun j=>match j with | 0=>sS x y | k+1=>e k,fun j h1 h2=>?_,?_⟩
  ·cases j with
   | zero=>exact C2 r1 r2 f1.1 f2.1
   | succ k=>exact h k (by simpa using h1) (by simpa using h2)
  ·have em:min (u::us).length (v::vs).length=min us.length vs.length+1:=by simp only [eQ];lia
   rw [em,List.range_succ_eq_map,List.all_cons,List.all_map];show (sS x y && (List.range (min us.length vs.length)).all e && ((us.length+1) == (vs.length+1)))=(sS x y && ia xs ys);rw [←q];have eb:((us.length+1) == (vs.length+1))=(us.length == vs.length):=by rw [vS,jZ,jZ];lia
   rw [eb,Bool.and_assoc]
theorem Iv(hu:X.A.units<cLine):cE X (compareOp .Eq) (Ir X.K false):=by
 intro pins s σ H x y v u Q I rx ry h;obtain ⟨a,b,xs,ys,rfl,rfl,h1,h2,f1,f2,q⟩:=h;cases rx;cases ry;obtain ⟨us,r1,t1,_⟩:=I.tuple h1;obtain ⟨vs,r2,t2,_⟩:=I.tuple h2;obtain ⟨e,he,eq⟩:=Iu (A:=X.A.in1) (s:=s) r1 r2 f1 f2;refine SeqAt.eq_tupleAt (e:=e) t1 t2 hu (fun j z1 z2=>by simpa using he j (by simpa using z1) (by simpa using z2)) ⟨.bl (ia xs ys),H,I,?_,q⟩
 show _=Value.bool (ia xs ys);rw [←eq];simp
theorem boot_isinstance:bootBuiltins "isinstance"=some (.builtin "isinstance"):=by decide +kernel
theorem boot_abs:bootBuiltins "abs"=some (.builtin "abs"):=by decide +kernel
theorem boot_min:bootBuiltins "min"=some (.builtin "min"):=by decide +kernel
theorem boot_max:bootBuiltins "max"=some (.builtin "max"):=by decide +kernel
theorem boot_int:bootBuiltins "int"=some (.type "int"):=by decide +kernel
theorem boot_bool:bootBuiltins "bool"=some (.type "bool"):=by decide +kernel
theorem boot_tuple:bootBuiltins "tuple"=some (.type "tuple"):=by decide +kernel
theorem boot_list:bootBuiltins "list"=some (.type "list"):=by decide +kernel
end L2
namespace My
open PySem L2
def jG(n:Int):Bool:=(List.range 32).all fun e=>decide (e<2) || decide (n<(e:Int)*(e:Int)) || decide (n % (e:Int)≠0)
variable {n d:Int}
theorem Iw(h2:n≤997)(hd:2≤d)(hq:d*d≤n)(hm:n % d=0):jG n=false:=by
 have hd2:d<32:=by
  by_cases h:d<32;·exact h
  ·have:32*32≤d*d:=Int.mul_le_mul (by lia) (by lia) (by lia) (by lia)
   lia
 obtain ⟨k,rfl⟩:∃k:Nat,d=(k:Int):=⟨d.toNat,by lia⟩
 cases e:jG n with
 | false=>rfl
 | true=>
  have z:=vV.mp e k (vL.mpr (by lia))
  simp only [Bool.or_eq_true,rS] at z;rcases z with (z | z) | z;·lia
  ·lia
  ·exact absurd hm z
theorem P_(hq:n<d*d)(hd:2≤d)(hm:∀e:Int,2≤e→e<d→n % e≠0):jG n=true:=by
 refine vV.mpr fun k _=>?_;simp only [Bool.or_eq_true,rS];by_cases h1:k<2;·exact .inl (.inl h1)
 ·by_cases h2:n<(k:Int)*(k:Int)
  ·exact .inl (.inr h2)
  ·refine .inr (hm k (by lia) ?_)
   by_cases h3:(k:Int)<d;·exact h3
   ·have:d*d≤(k:Int)*(k:Int):=Int.mul_le_mul (by lia) (by lia) (by lia) (by lia)
    lia
inductive Td where
 | a (w:Str)
 | b (w:Str) (n:Int)
def Td.vs:Td→List V
 | .a w=>[.str w]
 | .b w n=>[.str w,.int n]
def Td.wV:Td→Bool
 | .a w=>decide (w="fractions")
 | .b _ _=>false
def Td.i_:Td→Bool
 | .a _=>false
 | .b w n=>decide (w="wheel") && (decide (2≤n) && decide (n≤997) && jG n)
def Td.good(d:Td):Bool:=d.wV || d.i_
def Td.prime:Td→V
 | .a _=>.aV
 | .b _ n=>.int n
end My
namespace L2
open PySem PySem.Spec PyProof.Rows
abbrev Cx.aX (X:Cx) (N:List Str) (scope:Scope) (cl:List (Str×Addr)) (s₃:Shared) (H₃:Hp) (fp:List Addr):Cx:=
 {X with N:=N,s₀:=s₃,H₀:=H₃,env:=compEnvC scope cl s₃.heap.objs.size X.env,outer:=X.stack,stack:=X.stack,ex:=fp,fn:=fun _=>false,pn:=[],xe:=fun _ _=>False}
inductive kz (X:Cx):List Expr→TT→Prop where
 | nil:kz X [] (fun _ H Q=>Q true H)
 | one {c:Expr} {t:TT} (h:PT X c t):kz X [c] t
def pb(wi:TI)(ρ:St→St)(tt:TT)(te:TE):TE:=fun σ H Q=>wi σ H fun J H1=>∀D,H1 D=none→∃W:Nat→Nat→List V→Hp→Prop,(∃m,W 0 m [] (upd H1 D (.lst []))) ∧
 ∀i m ys Hc,W i m ys Hc→Hc D=some (.lst ys)∧((J.stop i Hc∧Q (.ref D) Hc)∨(J.go i Hc∧∀x H',J.eW i Hc x H'→tt (some x::ρ σ) H' fun b H2=>
  if b=true then te (some x::ρ σ) H2 fun y H3=>H3 D=some (.lst ys)∧ys.length<sizeLine∧∃m',m'<m∧W (i+1) m' (ys++[y]) (upd H3 D (.lst (ys++[y]))) else ∃m',m'<m∧W (i+1) m' ys H2))
section
variable {X:Cx} {N:List Str} {scope:Scope} {cl:List (Str×Addr)} {x:Str} {px pos:Pos} {iter elt:Expr} {ifs:List Expr} {wi:TI} {ρ:St→St} {tt:TT} {te:TE}
structure Df (X:Cx) (N:List Str) (scope:Scope) (cl:List (Str×Addr)) (x:Str) (ρ:St→St):Prop where
 wW:closureFor scope X.env=pure cl
 kind:scope.kind=.function
 wX:∀y∈scope.names,y.2≠.cell
 names:∀y∈scope.names,y.2=.local→scope.names.lookup y.1=some .local
 sub:∀p∈cl,X.env.cells.lookup p.1=some p.2
 has:∀y,((relabel scope X.env).names.lookup y=some .cell∨(relabel scope X.env).names.lookup y=some .free)→∃c,cl.lookup y=some c
 n0:N[0]?=some x
 nd:N.Nodup
 hx:scope.names.lookup x=some .local
 wY:∀(σ:St) (j:Nat) (v:V),(ρ σ)[j]?=some (some v)→∃(i:Nat) (y:Str),N[j+1]?=some y∧X.N[i]?=some y∧σ[i]?=some (some v)∧mO X.env.scope y∧(X.env.kindOf y=some .cell∨X.env.kindOf y=some .free)∧((relabel scope X.env).names.lookup y=some .cell∨(relabel scope X.env).names.lookup y=some .free)
 len:∀σ:St,σ.length=X.N.length→(ρ σ).length+1=N.length
theorem Dg{names:List (Str×NameKind)}(h:(names.all fun q=>(q.2 != .cell && q.2 != .free) || (cl.lookup q.1).isSome)=true) :
  ∀y,(names.lookup y=some .cell∨names.lookup y=some .free)→∃c,cl.lookup y=some c:=fun y hy=>by
 have key:∀k:NameKind,(k != .cell && k != .free)=false→names.lookup y=some k→∃c,cl.lookup y=some c:=fun k hk e=>by have z:=vV.mp h (y,k) (j4 e);rw [hk,Bool.false_or] at z;exact Option.isSome_iff_exists.mp z
 rcases hy with e | e;·exact key .cell rfl e
 ·exact key .free rfl e
theorem join_some{o:Option (Option V)}{v:V}(h:some o.join=some (some v)):o=some (some v):=by
 cases o with
 | none=>cases h
 | some o=>cases h;rfl
def zj(X:Cx)(sc:Scope):List Str→List Nat→Prop
 | n::ns,i::is=>(X.N[i]?=some n∧mO X.env.scope n∧(X.env.kindOf n=some .cell∨X.env.kindOf n=some .free)∧((relabel sc X.env).names.lookup n=some .cell∨(relabel sc X.env).names.lookup n=some .free))∧zj X sc ns is
 | _,[]=>True
 | [],_::_=>False
theorem Dh{X:Cx}{sc:Scope}:∀{ns:List Str} {is:List Nat},zj X sc ns is→∀(σ:St) (j:Nat) (v:V),(is.map fun i=>σ[i]?.join)[j]?=some (some v)→∃(i:Nat) (n:Str),ns[j]?=some n∧X.N[i]?=some n∧σ[i]?=some (some v)∧mO X.env.scope n∧(X.env.kindOf n=some .cell∨X.env.kindOf n=some .free)∧((relabel sc X.env).names.lookup n=some .cell∨(relabel sc X.env).names.lookup n=some .free)
 | _,[],_,_,_,_,e=>by cases e
 | [],_::_,h,_,_,_,_=>h.elim
 | n::_,i::_,h,_,0,_,e=>⟨i,n,rfl,h.1.1,join_some e,h.1.2⟩
 | _::_,_::_,h,σ,j+1,v,e=>Dh h.2 σ j v e
theorem gM(is:List Nat)(h1:closureFor scope X.env=pure cl)(h:zj X scope N.tail is:=by repeat' first | exact True.intro | refine And.intro ⟨rfl,Or.inr (Or.inl rfl),.inl rfl,.inl rfl⟩ ?_)(h2:scope.kind=.function:=by rfl)(h3:∀y∈scope.names,y.2≠.cell:=by decide +kernel)(h4:∀y∈scope.names,y.2=.local→scope.names.lookup y.1=some .local:=by decide +kernel)(h5:∀p∈cl,X.env.cells.lookup p.1=some p.2:=by repeat' first | exact List.forall_mem_nil _ | refine yG.mpr ⟨rfl,?_⟩)(h6:((relabel scope X.env).names.all fun q=>(q.2 != .cell && q.2 != .free) || (cl.lookup q.1).isSome)=true:=by rfl)(h7:N[0]?=some x:=by rfl)(h8:N.Nodup:=by decide +kernel)(h9:scope.names.lookup x=some .local:=by rfl)(hr:∀σ:St,ρ σ=is.map fun i=>σ[i]?.join:=by exact fun _=>rfl)(hl:is.length+1=N.length:=by rfl):Df X N scope cl x ρ:=
 ⟨h1,h2,h3,h4,h5,Dg h6,h7,h8,h9,fun σ j v e=>by rw [hr] at e;rw [←List.getElem?_tail];exact Dh h σ j v e,fun σ _=>by rw [hr,aT];exact hl⟩
theorem kA(B:Df X N scope cl x ρ)(hc:X.calm=true)(hi:PI X (.Name x px) iter wi)(ht:∀s₃ H₃ fp,kz (X.aX N scope cl s₃ H₃ fp) ifs tt)(he:∀s₃ H₃ fp,PE (X.aX N scope cl s₃ H₃ fp) elt te)
  (hs:∀x,foldedSetIterable iter X.env x=pure x:=by intro _;rfl):PE X (.ListComp elt [⟨.Name x px,iter,ifs,0⟩] scope pos) (pb wi ρ tt te):=by
 intro pins s σ H Q I h
 rw [eval_ListComp]
 refine yH (use:=none) rfl hs B.wW B.kind B.names (aG (hi pins s σ H _ I h) fun v s1 h1=>aG h1 fun sE s2 h2=>?_)
 obtain ⟨it,fp,tn,J,H2,rfl,I2,T,fZ,f2,q2⟩:=h2
 have nD:H2 s2.heap.objs.size=none:=I2.aC.fresh (aJ _)
 obtain ⟨W,⟨m0,w0⟩,turn⟩:=q2 _ nD
 refine vP (yI B.wX (by intro y hy;simp at hy) (fun h₁ fk fm=>?_) B.kind)
 dsimp only at fk fm ⊢
 generalize hD:s2.heap.objs.size=D at nD w0 turn fk fm ⊢
 generalize dO:({s2 with heap:=s2.heap.push {cls:=.type "list",dict:=none,data:=.seq ([]:List Value).toArray}}:Shared)=s3
 have I3:Inv X pins σ (upd H2 D (.lst [])) s3:=by
  subst hD dO
  exact I2.laid (t':=s2.toks) (fun b u e=>dj _ e) (aJ _) ⟨b9 _,[],_,.nil,gC _ rfl⟩
 have e3:s3.heap=s2.heap.push {cls:=.type "list",dict:=none,data:=.seq ([]:List Value).toArray}:=by rw [←dO]
 have fo:∀b o,s2.heap.get? b=some o→s3.heap.get? b=some o:=fun b o e=>by rw [e3];exact dj _ e
 rw [←e3] at fk fm ⊢
 have below:∀b o,s3.heap.get? b=some o→b≠s3.heap.objs.size:=fun b o e=>d9 (bV e)
 have dt:∀b o,s3.heap.get? b=some o→h₁.get? b=some o:=fun b o e=>fm.extBut b o (below b o e) (dj _ e)
 have gN:∀b∈fp,∃o,s2.heap.get? b=some o∧∀v,o.data≠.cell v:=T.obj _ _ fZ
 have pd:∀b∈fp,b≠D:=fun b hb z=>by
  obtain ⟨o,e,_⟩:=gN b hb
  rw [z,←hD] at e
  exact absurd (bV e) (gg _)
 have cU:∀y c,cl.lookup y=some c→X.env.cells.lookup y=some c:=fun y c e=>B.sub (y,c) (j4 e)
 have ph:=I3.so
 have eK:(X.aX N scope cl s3 (upd H2 D (.lst [])) fp).Ok:=by
  refine ⟨I.ok.mod,B.kind,I.ok.glob,I.ok.blt,aJ _,fun a b c e1 e2=>I.ok.inj a b c (cU a c e1) (cU b c e2),fun y hy=>B.has y hy,(fun _ _ z _=>absurd z dk),(fun _=>I.ok.hd hc),I.ok.frames,.inl rfl,fun b hb=>⟨?_,fun y c e z=>?_⟩,fun b o e=>?_,ae I.ok.gK I3.sz,fun b o e hb=>?_,fun b hb z=>?_,I3.stack,ph⟩
  ·obtain ⟨o,e,_⟩:=gN b hb
   exact below b o (fo b o e)
  ·exact (f2 b hb).2.2.2.2.1 y c (cU y c e) z
  ·exact I3.bs b o e
  ·rcases (f2 b hb).2.2.2.1 with z | z
   ·exact I.ok.mP b o e z
   ·exact absurd (dQ (bV e) (ae I.ok.gK z)) (gg _)
  ·rcases dR.mp (I3.si b z) with z | z
   ·exact (f2 b hb).2.1 z
   ·exact (f2 b hb).2.2.1 z
 have IB:∀tk:Nat,Inv (X.aX N scope cl s3 (upd H2 D (.lst [])) fp) [] (none::ρ σ) (upd H2 D (.lst [])) {s3 with heap:=h₁,toks:=tk}:=fun tk=>by
  refine ⟨eK,rfl,I3.bare,Un.kept dt,⟨_,fk,fun j y v e1 e2 e3=>?_⟩,fun y c e=>?_,?_,fun y c e=>I3.ix y c (cU y c e),(fun p hp=>nomatch hp),I3.aC.kept dt,?_⟩
  ·cases j with
   | zero=>cases e2
   | succ j=>
    obtain ⟨i,y',a1,a2,a3,a4,a5,a6⟩:=B.wY σ j v e2
    have f_:N[j+1]?=some y:=e1
    rw [f_] at a1
    cases a1
    obtain ⟨m,hn,hl⟩:=I3.loc
    obtain ⟨u,r,l⟩:=hl i y v a2 a3 a4
    refine ⟨u,r,.inr ⟨a6,?_⟩⟩
    obtain ⟨c,ec⟩:=B.has y a6
    rcases l with ⟨k,_⟩ | ⟨_,c',jH,z⟩
    ·rcases a5 with q | q <;> (rw [k] at q;cases q)
    ·have:=cU y c ec
     rw [this] at jH
     cases jH
     obtain ⟨o,ho,hd⟩:=z
     exact ⟨c,ec,o,dt _ _ ho,hd⟩
  ·obtain ⟨v,o,ho,hd⟩:=I3.cell y c (cU y c e)
   exact ⟨v,o,dt _ _ ho,hd⟩
  ·exact I3.aC.fresh (aJ _)
  ·show (none::ρ σ).length=N.length
   rw [eQ]
   exact B.len σ I.len
 have fin:∀{σ':St} {H':Hp} {s':Shared},Inv (X.aX N scope cl s3 (upd H2 D (.lst [])) fp) [] σ' H' s'→Q (.ref D) H'→compPost (model X.prog X.w) X.A X.xe none (EP X pins σ Q) (.ref D) s3.heap.objs.size (.ok .next) s':=fun{σ' H' s'} J q=>by
  obtain ⟨m,hn,_⟩:=J.loc
  refine ⟨m,hn,fun h' fq=>⟨.ref D,H',?_,rfl,q⟩⟩
  have old:∀b o,s3.heap.get? b=some o→b≠s3.heap.objs.size:=below
  have u1:Un (cD X.stack) fp (upd H2 D (.lst [])) H' s3.heap h':=by
   refine ⟨fun b o e n hb hx=>?_,fun b o e n hb hx=>?_,J.base.free,fun b o e hx=>?_,J.base.gk,J.base.fY,J.base.gq⟩
   ·exact (fq.2 b (old b o e)).trans (J.base.keep b o e n hb hx)
   ·obtain ⟨sl,z⟩:=J.base.slot b o e n hb hx
    exact ⟨sl,(fq.2 b (old b o e)).trans z⟩
   ·obtain ⟨o',z⟩:=J.base.there b o e hx
    exact ⟨o',(fq.2 b (old b o e)).trans z⟩
  have pj:cL X.prog X.w H' h':=fun b u e=>by
   refine (J.aC b u e).g_ (fun c v hc z=>(fq.2 c fun y=>?_).trans z) (fun _ z=>z) fun _ _ z=>z
   have fr:=J.free
   have y':c=s3.heap.objs.size:=y
   rcases hc with hc | hc
   ·rw [←hc,y'] at e
    exact absurd (fr.symm.trans e) (by simp)
   ·rw [y'] at hc
    exact absurd (fr.symm.trans hc) (by simp)
  refine I3.kg (s':={s' with heap:=h'}) (ch:=fp) (J.os) u1 pj J.bare fun b hb=>?_
  obtain ⟨g0,g1,g2,g3,g4,g5⟩:=f2 b hb
  exact ⟨g3,g1,g4,g5⟩
 have fh:∀{H':Hp},(∀b∈fp,H' b=none)→∀b∈fp,kl (X.aX N scope cl s3 (upd H2 D (.lst [])) fp) [] H' b:=fun hn b hb=>by
  refine ⟨hn b hb,?_,?_,.inl hb,fun y c e z=>(f2 b hb).2.2.2.2.1 y c (cU y c e) z,fun p hp=>nomatch hp⟩
  ·obtain ⟨o,e,_⟩:=gN b hb
   exact below b o (fo b o e)
  ·exact eK.mQ b hb
 have loop:∀tk:Nat,codeAny (model X.prog X.w) X.A (.compLoop (.ListComp elt [⟨.Name x px,iter,ifs,0⟩] scope pos) 0 (.ref it) (.ref D) (compEnvC scope cl s3.heap.objs.size X.env))
   (compPost (model X.prog X.w) X.A X.xe none (EP X pins σ Q) (.ref D) s3.heap.objs.size) {s3 with heap:=h₁,toks:=tk}:=fun tk=>by
  refine codeAny_compLoop_tests (fun n s'=>∃i ys o H',Inv (X.aX N scope cl s3 (upd H2 D (.lst [])) fp) [] (o::ρ σ) H' s'∧tn i s'.heap∧(∀b∈fp,H' b=none)∧W i n ys H') ?_ m0
   ⟨0,[],none,_,IB tk,T.keep _ _ _ fZ fun b hb o e=>dt _ _ (fo _ _ e),fun b hb=>by rw [b7 (pd b hb)];exact (f2 b hb).1,w0⟩
  rintro n s4 ⟨i,ys,o,H4,I4,jI,jJ,w4⟩
  obtain ⟨Di,pk⟩:=turn i n ys H4 w4
  rcases pk with ⟨stop,qn⟩ | ⟨go,step⟩
  ·refine cm (T.done (X.aX N scope cl s3 (upd H2 D (.lst [])) fp) rfl rfl rfl hc i [] s4 _ H4 (fun _ _=>False) I4 (fh jJ) jI stop) (fun r s5 ⟨hr,I5⟩=>?_) fun _ _ z=>z.elim
   subst hr
   exact fin I5 qn
  ·refine cm (T.item (X.aX N scope cl s3 (upd H2 D (.lst [])) fp) rfl rfl rfl hc i [] s4 _ H4 (fun _ _=>False) I4 (fh jJ) jI go) (fun r s5 ⟨u,hr,h5⟩=>?_) fun _ _ z=>z.elim
   subst hr
   have z:letOwnedTupleGo (.Name x px) (.ref it) u=pure ():=rfl
   rw [z] at h5
   show wpAny _ _ ((pure ():Sem Unit) >>= fun _=>assign (.Name x px) (compEnvC scope cl s3.heap.objs.size X.env) u) _ _ s5
   refine cC (cm h5 (fun _ s5 ⟨y,H5,I5,r5,y5,fi,lI⟩=>?_) fun _ _ z=>z.elim)
   have lJ:=I5.pinned (fh lI) (T.obj _ _ fi)
   have pg:PG (X.aX N scope cl s3 (upd H2 D (.lst [])) fp) (.Name x px) (bE 0):=eE (i:=0) B.nd B.n0 (.inl (iU B.hx)) (.inr (iU B.hx))
   have again:∀{σ7:St} {H7:Hp} {s7:Shared},Inv (X.aX N scope cl s3 (upd H2 D (.lst [])) fp) ([]++i5 fp s5.heap) σ7 H7 s7→Inv (X.aX N scope cl s3 (upd H2 D (.lst [])) fp) [] σ7 H7 s7∧tn (i+1) s7.heap∧∀b∈fp,H7 b=none:=fun{σ7 H7 s7} I7=>by
    refine ⟨I7.oS,T.keep _ _ _ fi fun b hb o e=>(I7.pin (b,o) (dS _ (dS _ (kn hb e)))).1,fun b hb=>?_⟩
    obtain ⟨o,e,d⟩:=T.obj _ _ fi b hb
    exact (I7.pin (b,o) (dS _ (dS _ (kn hb e)))).2.1
   refine cm (pg _ s5 _ H5 y u (fun σ2 H6=>σ2=some y::ρ σ∧H6=H5) lJ r5 ⟨rfl,rfl⟩) (fun _ s6 ⟨σ6,H6,I6,q6⟩=>?_) fun _ _ z=>z.elim
   obtain ⟨rfl,rfl⟩:=q6
   have pz:=step y _ y5
   have tests:∀{gO:TT},kz (X.aX N scope cl s3 (upd H2 D (.lst [])) fp) ifs gO→∀{R:Bool→Hp→Prop},gO (some y::ρ σ) H6 R→wpAny (model X.prog X.w) X.A
     (forIn ifs true fun c r=>if r=true then do let ok ←isTrue c (compEnvC scope cl s3.heap.objs.size X.env) (eval c (compEnvC scope cl s3.heap.objs.size X.env));pure (ForInStep.yield ok) else pure (ForInStep.yield r))
     (fun ok s7=>∃H7,Inv (X.aX N scope cl s3 (upd H2 D (.lst [])) fp) ([]++i5 fp s5.heap) (some y::ρ σ) H7 s7∧R ok H7) (fun _ _=>False) s6:=fun{gO} p {R} hR=>by
    cases p with
    | nil=>exact yJ ⟨_,I6,hR⟩
    | one p=>exact yK (p _ s6 _ _ _ I6 hR)
   refine cm (tests (ht s3 _ fp) pz) (fun ok s7 ⟨H7,I7,q7⟩=>?_) fun _ _ z=>z.elim
   cases ok with
   | false=>
    obtain ⟨m',gP,w7⟩:=q7
    obtain ⟨a1,a2,a3⟩:=again I7
    exact ⟨m',gP,i+1,ys,_,H7,a1,a2,a3,w7⟩
   | true=>
    refine cm (he s3 _ fp _ s7 _ H7 _ I7 q7) (fun ev s8 ⟨z,H8,I8,r8,pA,hz,m',gP,w8⟩=>?_) fun _ _ z=>z.elim
    refine cm (wO (X:=X.aX N scope cl s3 (upd H2 D (.lst [])) fp) _ s8 _ H8 (.ref D) [z] (.ref D) [ev] (fun _ H9=>H9=upd H8 D (.lst (ys++[z]))) I8 rfl (.cons r8 .nil) ⟨D,ys,z,rfl,rfl,pA,hz,rfl⟩) (fun _ s9 ⟨_,H9,I9,_,q9⟩=>?_) fun _ _ z=>z.elim
    subst q9
    obtain ⟨a1,a2,a3⟩:=again I9
    exact ⟨m',gP,i+1,ys++[z],_,_,a1,a2,a3,w8⟩
 have start:=loop (s3.toks+([]:List (Str×Value)).length)
 have es:({s3 with heap:=h₁,toks:=s3.toks+([]:List (Str×Value)).length}:Shared)={s2 with heap:=h₁,toks:=s2.toks+([]:List (Str×Value)).length}:=by rw [←dO]
 rw [es] at start
 exact yL start (T.self _ 0 _ _ _ (T.keep _ _ _ fZ fun b hb o e=>dt _ _ (fo _ _ e)) start)
end
def aP(i:Int):Prop:=i.natAbs<2 ^ 2048
variable {i:Int}
theorem aP.log(h:aP i):i.natAbs.log2<2048:=by
 by_cases z:i.natAbs=0;·rw [z];decide
 ·exact (Nat.log2_lt z).mpr h
def zk(i j:Int):Prop:=j≠0∧aP j
def zm(i j:Int):Prop:=aP i∧aP j
theorem zm.ok{j:Int}(h:zm i j):IntMulOk i j:=by
 have b:∀{k:Int},aP k→Builtin.Int.intBits k≤2048:=fun{k} hk=>by
  have z:=hk.log;unfold Builtin.Int.intBits
  split <;> lia
 unfold IntMulOk;have e:Builtin.Int.intTooBig ((Builtin.Int.intBits i:Int)+(Builtin.Int.intBits j:Int))=false:=by
  unfold Builtin.Int.intTooBig;have h1:=b h.1;have h2:=b h.2;have h3:(4096:Int)≤bitsLine:=by decide +kernel
  exact fS (by lia)
 intro z;rw [yF] at z;have z2:=z.2;rw [show Builtin.Int.intTooBig ((Builtin.Int.intBits i:Int)+(Builtin.Int.intBits j:Int))=false from e] at z2;cases z2
section
variable {X:Cx}
theorem wZ:cE X (binaryOp .FloorDiv) (rI zk fun i j=>.int (i.fdiv j)):=oU fun _ _ _ _ _ _ _ hc q=>floordiv_int hc.1 q (.inl (PyProof.noPylong_of_log2 (dQ hc.2.log (by decide))))
theorem fL:cE X (binaryOp .Mult) (rI zm fun i j=>.int (i*j)):=oU fun _ _ _ _ _ _ _ hc q=>mul_int q hc.ok
def Qa(i j:Int):Prop:=0<j∧aP j
theorem Dj:cE X (binaryOp .FloorDiv) (rI Qa fun i j=>.int (i / j)):=oU fun i j _ _ _ _ _ hc q=>floordiv_int (Int.ne_of_gt hc.1) (by rw [vR i (Int.le_of_lt hc.1)];exact q) (.inl (PyProof.noPylong_of_log2 (dQ hc.2.log (by decide))))
def allR(K:aF):List V→Hp→VK→Prop:=fun xs H Q=>∃(p:Addr) (bs:List Bool),xs=[.ref p]∧bo K H p (bs.map V.bl)∧Q (.bl (bs.all id)) H
theorem Qb{K:aF}(hc:X.calm=true)(hK:X.K=K:=by rfl):ko X (.builtin "all") (allR K):=by
 intro pins s σ H xs us Q I r h;subst hK;obtain ⟨p,bs,rfl,hq,q⟩:=h;obtain ⟨u,rfl,ru⟩:=vals1 r;cases ru;obtain ⟨aq,rv,pl,hz⟩:=I.list hq;have m7:p≠s.heap.objs.size:=by obtain ⟨o,e,_⟩:=pl.isList;exact d9 (bV e)
 have hl:aq.length=bs.length:=by rw [←rv.length,aT]
 refine call_all_walk (wpAny_pyIter_list pl.isList ?_);refine ⟨s.heap.objs.size,_,_,_,_,_,fun i=>bs.getD i true,rfl,Walks.list (A:=X.A.in1) (show X.A.in1.handled=none from I.ok.hd hc) s.heap.objs.size p m7 aq.toArray,⟨⟨_,gC _ rfl,rfl,rfl⟩,pl.isList.push _⟩,fun i v s' Q' E' hv o7=>?_,fun h' tk hk=>?_⟩
 ·have sL:aq[i]?=some v:=by simpa using hv
  cases eb:bs[i]? with
  | none=>
   have:=rv.none_of (i:=i) (by rw [fV,eb];rfl)
   rw [this] at sL;cases sL
  | some b=>
   obtain ⟨u,hu,ru⟩:=rv.get (i:=i) (x:=V.bl b) (by rw [fV,eb];rfl)
   rw [hu] at sL;cases sL;cases ru;have e:bs.getD i true=b:=by rw [fD,eb];rfl
   have lM:Q' (bs.getD i true) s':=o7;rw [e] at lM;exact k4 lM
 ·refine ⟨.bl (bs.all id),H,I.kept fun b o e=>hk b o (fun z=>?_) (dj _ e),?_,q⟩
  ·exact absurd (bV e) (by rw [iV.mp z];exact gg _)
  ·show Value.bool _=Value.bool _
   congr 1
   rw [dU,hl];clear hk q rv pl hz hl hq
   induction bs with
   | nil=>rfl
   | cons b bs ih=>rw [eQ,List.range_succ_eq_map,List.all_cons,List.all_map,List.all_cons];show (b && (List.range bs.length).all fun i=>bs.getD i true)=(b && bs.all id);rw [ih]
end
theorem boot_all:bootBuiltins "all"=some (.builtin "all"):=by decide +kernel
def Dk:Expr→Bool
 | .Starred _ _=>false
 | _=>true
variable {e:Expr} {es:List Expr}
theorem Qc{env:Env}(h:Dk e=true):starEach (e::es) env=(false,eval e env)::starEach es env:=by cases e <;> first | rfl | cases h
theorem aO{X:Cx}{e:Expr}{es:List Expr}{te:TE}{t:TA}(hs:Dk e=true)(ha:PE X e te)(hr:PA X es t):PA X (e::es) (cX te t):=
 OQ ha hr (Qc hs)
variable {X:Cx} {te:TE}
theorem aa{t:TA}(ha:PE X e te)(hr:PA X es t)(hs:Dk e=true:=by rfl):PA X (e::es) (cX te t):=aO hs ha hr
theorem ja{X:Cx}{pos:Pos}{i:Nat}{x:Str}{e:Expr}{te:TE}{pos':Pos}(hs:swapsWith e (some (.Name x pos')) pos.line X.env=pure false)(hf:X.fn x=true∨X.env.scope.names.lookup x=some .local)(hN:X.N.Nodup)(hi:X.N[i]?=some x)(hx:Loc X.env.scope x)(he:PE X e te) :
  PS X (.Assign [.Name x pos'] e pos) (lH te (bE i)):=NY hN hi hx he hs hf
variable {pos pos':Pos} {x:Str}
theorem putL(i:Nat)(hN:X.N.Nodup)(he:PE X e te)(hs:swapsWith e (some (.Name x pos')) pos.line X.env=pure false:=by rfl)(hi:X.N[i]?=some x:=by rfl)(hx:X.env.scope.names.lookup x=some .local:=by rfl) :
  PS X (.Assign [.Name x pos'] e pos) (lH te (bE i)):=ja hs (.inr hx) hN hi (.inl hx) he
theorem m8(i:Nat)(hN:X.N.Nodup)(he:PE X e te)(hs:swapsWith e (some (.Name x pos')) pos.line X.env=pure false:=by rfl)(hf:X.fn x=true∨X.env.scope.names.lookup x=some .local:=by first | exact .inl rfl | exact .inr rfl | assumption)(hi:X.N[i]?=some x:=by rfl)(hx:X.env.scope.names.lookup x=some .cell:=by rfl) :
  PS X (.Assign [.Name x pos'] e pos) (lH te (bE i)):=ja hs hf hN hi (.inr hx) he
def Qd:V→List V→Hp→VK→Prop:=fun x xs H Q=>∃i:Int,x=.int i∧xs=[]∧Q (.int ((Builtin.Int.intBits i:Nat):Int)) H
theorem Qe:C1 X "int.bit_length" Qd:=by intro pins s σ H x xs v us Q I rx rv h;obtain ⟨i,rfl,rfl,q⟩:=h;have Qf:=rv.zero;subst Qf;obtain ⟨t,rfl⟩:=rx;exact call_int_bit_length ⟨.int ((Builtin.Int.intBits i:Nat):Int),H,I.tok _,⟨_,rfl⟩,q⟩
theorem Qg(h:aP i):Builtin.Int.intBits i≤2048:=by
 have z:=h.log;unfold Builtin.Int.intBits
 split <;> lia
end L2
namespace My
open PySem L2
theorem Dl(a b:Str):decide (V.str a=V.str b)=decide (a=b):=by
 by_cases h:a=b;·subst h;simp
 ·rw [fS h];exact fS fun e=>h (V.str.inj e)
theorem pB(a b:Int):decide (V.int a=V.int b)=decide (a=b):=by
 by_cases h:a=b;·subst h;simp
 ·rw [fS h];exact fS fun e=>h (V.int.inj e)
variable {K:aF}
theorem zo{T:String}:PySem.W.kitOne K (.type T) (.type T)=some true:=by unfold PySem.W.kitOne;rw [ar (beq_self_eq_true _)]
variable {H:Hp}
theorem aB{p:Addr}{o:HO}(h:H p=none):ai H (upd H p o):=fun b u e=>by rw [b7 (fG e h)];exact e
variable {i:Int}
theorem Iy{α:Type}{xs:List α}(h0:0≤i)(h1:i<xs.length):∃v,dD xs i=some v∧v∈xs:=by
 obtain ⟨k,rfl⟩:∃k:Nat,i=(k:Int):=⟨i.toNat,by lia⟩
 have hk:k<xs.length:=by lia
 exact ⟨xs[k],i8 (by simp [hk]),gD _⟩
theorem pC(v:V):([(("prime":Str),v)]:List (Str×V)).lookup ("prime":Str)=some v:=by simp [List.lookup]
inductive Any (H:Hp):V→Prop where
 | aV:Any H .aV
 | bl (b:Bool):Any H (.bl b)
 | int (i:Int):Any H (.int i)
 | str (x:Str):Any H (.str x)
 | lst {a:Addr} {xs:List V} (e:H a=some (.lst xs)):Any H (.ref a)
 | tup {a:Addr} {xs:List V} (e:H a=some (.tup xs)):Any H (.ref a)
 | sY {a:Addr} (e:H a=some (Ip a)):Any H (.ref a)
def s_:V→Bool
 | .int _=>true
 | _=>false
def tf:V→Bool
 | .bl _=>true
 | _=>false
def zp(H:Hp):V→Bool
 | .ref a=>(match H a with | some (.tup _)=>true | _=>false)
 | _=>false
variable {v:V}
theorem Any.De(h:Any H v):∃T:String,wU K H v (.type T)∧PySem.W.kitOne K (.type T) (.type "int")=some (s_ v || tf v)∧PySem.W.kitOne K (.type T) (.type "bool")=some (tf v) ∧
  PySem.W.kitOne K (.type T) (.type "tuple")=some (zp H v):=by
 cases h with
 | aV=>exact ⟨"NoneType",.of .aV,rfl,rfl,rfl⟩
 | bl b=>exact ⟨"bool",.of (.bl b),rfl,rfl,rfl⟩
 | int i=>exact ⟨"int",.of (.int i),rfl,rfl,rfl⟩
 | str x=>exact ⟨"str",.of (.str x),rfl,rfl,rfl⟩
 | lst e=>exact ⟨"list",.of (.lst e),rfl,rfl,by unfold zp;dsimp only;rw [e];rfl⟩
 | tup e=>exact ⟨"tuple",.of (.tup e),rfl,rfl,by unfold zp;dsimp only;rw [e];rfl⟩
 | sY e=>exact ⟨"dict",.sY e,rfl,rfl,by unfold zp;dsimp only;rw [e];rfl⟩
theorem Qh(h:tf v=true):s_ v=false:=by cases v <;> first | rfl | cases h
theorem fM{m:Str}(e:(m == ("prime":Str))=false):([(("prime":Str),v)]:List (Str×V)).lookup m=none:=by simp [List.lookup,e]
theorem Iz(m n:Nat):Nat.gcd n (m % n)=Nat.gcd m n:=by rw [Nat.gcd_comm n,←Nat.gcd_rec,Nat.gcd_comm]
theorem zq(a:Int):(if a<0 then -a else a)=(a.natAbs:Int):=by split <;> lia
def lowG(a b:Int):Int:=if b<0 then 0-(Int.gcd a b:Int) else (Int.gcd a b:Int)
variable {b:Int}
theorem pD{a:Int}(h:b≠0):0<Int.gcd a b:=Ck _ (gE.mpr h)
theorem Qi{a:Int}(h:b≠0)(m:aP b):Int.gcd a b<2 ^ 2048:=gh (Nat.gcd_le_right _ (gE.mpr h)) m
theorem IA{a:Int}(h:b≠0)(m:aP b):zk 0 (lowG a b):=by
 have h1:=pD (a:=a) h;have h2:=Qi (a:=a) h m;unfold lowG;refine ⟨by split <;> lia,?_⟩
 unfold aP
 split
 ·rw [show (0-(Int.gcd a b:Int)).natAbs=Int.gcd a b by lia];exact h2
 ·rw [Int.natAbs_natCast];exact h2
theorem aP.of_lt(h1:-(10 ^ 70)<i)(h2:i<10 ^ 70):aP i:=by
 have h3:i.natAbs<2 ^ 240:=by lia
 exact dQ h3 (dr (by decide) (by decide))
def Qj:Sp:=fun vs H Q _=>∃v:V,vs=[v]∧Any H v∧Q (.bl (s_ v)) H
def Qk:Sp:=fun vs H Q _=>∃a b:Int,vs=[.int a,.int b]∧aP b∧Q (.int (Int.gcd a b:Int)) H
def Ql:Sp:=fun vs H Q _=>∃n:Int,vs=[.int n]∧2≤n∧n≤997∧Q (.bl (jG n)) H
def Qm:Sp:=fun vs H Q _=>∃(p:Addr) (d:Td),vs=[.ref p]∧H p=some (.tup d.vs)∧Q (.bl d.wV) H
def Qn:Sp:=fun vs H Q _=>∃(p:Addr) (d:Td),vs=[.ref p]∧H p=some (.tup d.vs)∧Q (.bl d.i_) H
def Qo(C N:Addr):Sp:=fun vs H Q E=>∃(x dx p:Addr) (d:Td),vs=[.ref x,.ref p]∧H x=some (.ins C dx [])∧H p=some (.tup d.vs) ∧
 (d.good=true→Q .aV (upd H x (.ins C dx [("prime",d.prime)])))∧(d.good=false→E (.ref N) none H)
def dg(C:Addr)(H:Hp)(x:Addr)(q:Int):Prop:=∃dx,H x=some (.ins C dx [("prime",if q=0 then .aV else .int q)])
variable {H':Hp} {q:Int}
theorem dg.mono{C:Addr}{x:Addr}(h:dg C H x q)(s:ai H H'):dg C H' x q:=by obtain ⟨dx,e⟩:=h;exact ⟨dx,s _ _ e⟩
def Qp:Sp:=fun vs H Q _=>∃a b:Int,vs=[.int a,.int b]∧b≠0∧aP b∧∀(q:Addr) (H':Hp),ai H H'→H' q=some (.tup [.int (a.fdiv (lowG a b)),.int (b.fdiv (lowG a b))])→Q (.ref q) H'
def zr(K:aF):Sp:=fun vs H Q _=>∃(a:Addr) (ns:List Int),vs=[.ref a]∧bo K H a (ns.map V.int)∧ns.length≤63∧∀H',Q (.bl true) H'
theorem w5{u v:Int}(hu:0<u)(h:0<u*v):0<v:=by
 by_cases z:0<v;·exact z
 ·have y:=j6 (show v≤0 by lia) (show 0≤u by lia)
  rw [cJ] at y;lia
theorem Dm{a:Int}(h:∀d:Nat,(d:Int)∣a→(d:Int)∣b→d=1):Int.gcd a b=1:=h _ (vW ..) (oE ..)
variable {d:Nat}
theorem Dn{a:Int}(h:Int.gcd a b=1)(h1:(d:Int)∣a)(h2:(d:Int)∣b):d=1:=by have z:(d:Int)∣((Int.gcd a b:Nat):Int):=Int.dvd_coe_gcd h1 h2;rw [h] at z;exact Nat.dvd_one.mp (Int.natCast_dvd_natCast.mp z)
variable {c:Int}
theorem Dp{a:Int}(h:Int.gcd b c=1)(h1:(d:Int)∣b)(h2:(d:Int)∣a*c):(d:Int)∣a:=by
 have hc:Nat.Coprime d c.natAbs:=by have z:Nat.Coprime b.natAbs c.natAbs:=h;exact Nat.Coprime.coprime_dvd_left (Int.ofNat_dvd_left.mp h1) z
 have z:d∣a.natAbs*c.natAbs:=by rw [←a8];exact Int.ofNat_dvd_left.mp h2
 exact Int.ofNat_dvd_left.mpr (hc.dvd_of_dvd_mul_right z)
theorem IC{a:Int}(h1:Int.gcd a b=1)(h2:Int.gcd a c=1):Int.gcd a (b*c)=1:=by refine Dm fun d x y=>?_;exact Dn h1 x (Dp (a:=b) (b:=a) (c:=c) h2 x y)
theorem Qq{a:Int}(h:Int.gcd a b=1):Int.gcd b a=1:=by rw [Int.gcd_comm];exact h
theorem ID{a:Int}(h:b≠0):Int.gcd (a / (Int.gcd a b:Int)) (b / (Int.gcd a b:Int))=1:=by have z:0<Int.gcd a b:=Ck _ (gE.mpr h);exact Int.gcd_ediv_gcd_ediv_gcd z
structure iD (x m:Int):Prop where
 pos:1≤m
 zt:Int.gcd x m=1
def m9(x:Int):Prop:=x.natAbs≤10 ^ 300
theorem Qr:(10:Nat) ^ 300<2 ^ 2048:=by decide +kernel
def Qs(C:Addr)(fr:Int→Int→Int→Int→Int)(rm:Int→Int→Int):Sp:=fun vs H Q _=>∃(z:Addr) (q:Int) (v u:V),vs=[.ref z,v,u]∧dg C H z q ∧
  ((q=0∧∃(p r:Addr) (x m y n:Int),v=.ref p∧u=.ref r∧H p=some (.tup [.int x,.int m])∧H r=some (.tup [.int y,.int n])∧iD x m∧iD y n∧m9 x∧m9 m∧m9 y∧m9 n ∧
    ∀(r':Addr) (H':Hp) (a d:Int),ai H H'→H' r'=some (.tup [.int a,.int d])→iD a d→a*(m*n)=fr x m y n*d→Q (.ref r') H') ∨
   (2≤q∧∃i j:Int,v=.int i∧u=.int j∧0≤i∧i<1000∧Q (.int (rm i j % q)) H))
def ax(p:Int):Prop:=p=0∨(2≤p∧p≤997∧jG p=true)
inductive a7 (B:Nat) (H:Hp):Int→V→Int→Int→Prop where
 | bS {p:Addr} {x m:Int} (e:H p=some (.tup [.int x,.int m])) (l:iD x m) (bx:x.natAbs≤B) (bm:m.natAbs≤B):a7 B H 0 (.ref p) x m
 | rem {q i:Int} (h0:0≤i) (h1:i<q) (h2:q≤997):a7 B H q (.int i) i 1
theorem a7.mono{B:Nat}{x m:Int}(h:a7 B H q v x m)(s:ai H H'):a7 B H' q v x m:=by
 cases h with
 | bS e l bx bm=>exact .bS (s _ _ e) l bx bm
 | rem h0 h1 h2=>exact .rem h0 h1 h2
theorem IE{a:Int}(h:1≤b):∃u d:Int,a.fdiv (lowG a b)=u∧b.fdiv (lowG a b)=d∧iD u d∧u.natAbs≤a.natAbs∧d.natAbs≤b.natAbs:=by
 have hp:=pD (a:=a) (b:=b) (by lia)
 have e:lowG a b=(Int.gcd a b:Int):=by unfold lowG;rw [ao (by lia)]
 rw [e]
 refine ⟨a / (Int.gcd a b:Int),b / (Int.gcd a b:Int),vR _ (by lia),vR _ (by lia),⟨?_,ID (by lia)⟩,mE ..,mE ..⟩
 obtain ⟨b',eb⟩:=oE (a:=a) (b:=b)
 have z:b / (Int.gcd a b:Int)=b':=by
                       conv=>lhs;lhs;rw [eb]
                       exact mF _ (by lia)
 rw [z]
 exact w5 (u:=(Int.gcd a b:Int)) (by lia) (by rw [←eb];lia)
theorem zu{u d T B:Int}(l:iD u d)(hB:0<B)(e:u*B=T*d):d≤B∧u.natAbs≤T.natAbs:=by
 have h0:=l.pos;have hd:d∣B:=by
  have z:((d.natAbs:Nat):Int)∣B:=Dp (a:=B) (b:=d) (c:=u) (Qq l.zt) (Int.natAbs_dvd.mpr (iW d)) ⟨T*(d / (d.natAbs:Int)),by
   have q:(d.natAbs:Int)=d:=by lia
   rw [q,Int.ediv_self (by lia),fU,j7 B u,e,j7]⟩
  exact Int.natAbs_dvd.mp z
 have hle:=rT hB hd;refine ⟨hle,?_⟩;have z:u.natAbs*B.natAbs=T.natAbs*d.natAbs:=by rw [←a8,e,a8]
 have z2:T.natAbs*d.natAbs≤T.natAbs*B.natAbs:=d4 _ (by lia)
 rw [←z] at z2;exact Cm z2 (by lia)
theorem Dq(h1:2≤q)(h2:q≤997)(hp:jG q=true)(b1:1≤b)(b2:b<q):Int.gcd q b=1:=by
 have gp:0<Int.gcd q b:=Ck _ (gE.mpr (by lia))
 by_cases g1:Int.gcd q b=1;·exact g1
 exfalso
 obtain ⟨k,ek⟩:=vW (a:=q) (b:=b);have hb:=rT (by lia) (oE (a:=q) (b:=b))
 generalize Int.gcd q b=g at *;have kp:0<k:=w5 (u:=(g:Int)) (by lia) (by rw [←ek];lia)
 have k2:k≠1:=fun z=>by rw [z,fU] at ek;lia
 have no:∀d:Int,2≤d→d*d≤q→q % d=0→False:=fun d x y z=>by rw [Iw h2 x y z] at hp;cases hp
 by_cases c:(g:Int)≤k;·exact no g (by lia) (by rw [ek];exact j6 c (by lia)) (by rw [ek];exact Int.mul_emod_right ..)
 ·exact no k (by lia) (by rw [ek];exact Int.mul_le_mul_of_nonneg_right (by lia) (by lia)) (by rw [ek];exact Int.mul_emod_left ..)
structure lN (q b last lt now nt:Int):Prop where
 l:∃s,last=lt*b+s*q
 n:∃s,now=nt*b+s*q
 zt:Int.gcd last now=1
 pos:1≤now
 less:now≤last
variable {last nt:Int}
theorem lN.step{lt now:Int}(h:lN q b last lt now nt)(h1:1<now):lN q b now nt (last-last / now*now) (lt-last / now*nt)∧last-last / now*now<now:=by
 obtain ⟨⟨s,es⟩,⟨r,er⟩,c,p,le⟩:=h;have e:last-last / now*now=last % now:=by have z:=Cn last now;rw [j7] at z;lia
 have lt1:=dN last (show 0<now by lia)
 have ge:=dA last (show now≠0 by lia)
 have c':Int.gcd now (last % now)=1:=Dm fun d x y=>Dn c (by have z:=Cn last now;rw [←z];exact Int.dvd_add y (jr x (vX ..))) x
 have nz:last % now≠0:=fun z=>by rw [z,Int.gcd_zero_right] at c';lia
 refine ⟨⟨⟨r,er⟩,⟨s-last / now*r,?_⟩,by rw [e];exact c',by lia,by lia⟩,by lia⟩
 generalize last / now=f;rw [es,er,Int.sub_mul,Int.sub_mul,j8,ir,ir];lia
theorem lN.done{lt:Int}(h:lN q b last lt 1 nt)(hq:2≤q):(nt % q*b) % q=1:=by
 obtain ⟨s,e⟩:=h.n;have z:nt*b=1+(-s)*q:=by rw [Int.neg_mul];lia
 have y:nt % q*b % q=nt*b % q:=by rw [vY (nt % q) b,Int.emod_emod,←vY]
 rw [y,z,Int.add_mul_emod_self_right];exact mG (by lia) (by lia)
theorem lN.start(h1:2≤q)(h2:q≤997)(hp:jG q=true)(b1:1≤b)(b2:b<q):lN q b q 0 b 1:=
 ⟨⟨1,by lia⟩,⟨0,by lia⟩,Dq h1 h2 hp b1 b2,b1,by lia⟩
end My
namespace L2
open PySem PySem.Spec PyProof.Rows
def IF(K:aF):R2:=fun x y H Q=>(∃a xs i,x=.ref a∧y=.int i∧eo K H a xs∧Q (.bl false) H)∨(∃a xs i,x=.int i∧y=.ref a∧eo K H a xs∧Q (.bl false) H)∨Ir K false x y H Q∨Hs x y H Q
theorem IG{X:Cx}(hu:X.A.units<cLine):cE X (compareOp .Eq) (IF X.K):=by
 intro pins s σ H x y v u Q I rx ry h;rcases h with ⟨a,xs,i,rfl,rfl,h1,q⟩ | ⟨a,xs,i,rfl,rfl,h1,q⟩ | h | h
 ·cases rx
  obtain ⟨t,rfl⟩:=ry;obtain ⟨us,r1,t1,_⟩:=I.tuple h1;exact SeqAt.RcAt.tuple_int i t t1 hu _ _ _ _ ⟨.bl false,H,I,rfl,q⟩
 ·cases ry
  obtain ⟨t,rfl⟩:=rx;obtain ⟨us,r1,t1,_⟩:=I.tuple h1;exact SeqAt.RcAt.int_tuple i t t1 hu _ _ _ _ ⟨.bl false,H,I,rfl,q⟩
 ·exact Iv hu pins s σ H x y v u Q I rx ry h
 ·exact dW pins s σ H x y v u Q I rx ry h
end L2
namespace My
open PySem L2
def Qt(N:Addr):Sp:=fun vs H Q E=>∃q b:Int,vs=[.int q,.int b]∧2≤q∧q≤997∧jG q=true∧0≤b∧b<q∧(b=0→E (.ref N) none H)∧(b≠0→∀r:Int,0≤r→r<q→(r*b) % q=1→Q (.int r) H)
def Qu(N:Addr):Sp:=fun vs H Q E=>∃q i j:Int,vs=[.int q,.int i,.int j]∧2≤q∧q≤997∧jG q=true∧0≤i∧i<q∧0≤j∧j<q∧(j=0→E (.ref N) none H)∧(j≠0→∀r:Int,0≤r→r<q→(r*j) % q=i→Q (.int r) H)
theorem Qv{q i j r:Int}(hq:2≤q)(i0:0≤i)(i1:i<q)(h:(r*j) % q=1):(i*r % q*j) % q=i:=by
 have y:i*r % q*j % q=i*(r*j) % q:=by rw [vY (i*r % q) j,Int.emod_emod,←vY,ir]
 rw [y,vY,h,mG i0 i1,fU,mG i0 i1]
end My
namespace L2
open PySem PySem.Spec PyProof.Rows
structure iE (K:aF) (x qual:Str) (st:Stmt) (i:Int) (f:Addr) (fd:FuncData):Prop where
 ex:∃(oc:Value) (od:Option Addr) (kV doc pm:Value) (an:Option Addr) (aU ct:Value) (fj:Array (Option Value)) (dT:Addr) (tk:Tok) (m_:Value) (ni:Option Addr) (n:Nat) (nj:Array (Option Value)),
  fd=PySem.W.fnOf x qual (iC st) (fK st) (aM st) (.ref dT) kV doc pm an aU ct∧K.lookup f=some ⟨oc,od,.func fd,fj⟩∧PySem.W.codeIn K aU qual=true∧K.lookup dT=some ⟨m_,ni,.seq #[.int i tk] n,nj⟩
 kp:PySem.W.keepIn K (.ref f)=true
section
variable {P:Program} {w:World} {K:aF} {mg:dn} {base:Heap}
variable {x qual:Str} {st:Stmt} {i:Int} {f:Addr} {fd:FuncData} {ps:List Str}
theorem iE.Dd{N:List Str}{k:Nat}{sp:Sp}(F:iE K x qual st i f fd)(S:bp N ps (aM st))(len:∀vs H Q E,sp vs H Q E→vs.length=ps.length)
  (jD:∀(aU:Value) (A:Around) (outer:List Env) (s:Shared) (H:Hp) (vs:List V) (Q:VK) (E:XK),cW k (A.deeper (envOfC qual (aM st) s.heap.objs.size f aU))→sp vs H Q E→
   sW (iB (dX P w) P w K mg base N qual (aM st) f aU A outer s H E) E→
   ∃t,eU (iB (dX P w) P w K mg base N qual (aM st) f aU A outer s H E) (fK st) t∧t {nx:=fun _ H'=>Q .aV H',rt:=Q} (start N vs) H):aW P w K mg base (dX P w) (k+1) f fd ps sp:=by
 obtain ⟨oc,od,kV,doc,pm,an,aU,ct,fj,dT,tk,m_,ni,n,nj,rfl,lk,fe,ld⟩:=F.ex;exact CW lk fe S len fun A outer s H vs Q E hr i7=>jD aU A outer s H vs Q E hr i7 ⟨rfl,rfl,rfl,rfl⟩
theorem zy{dT:Addr}{oc:Value}{od an:Option Addr}{fj:Array (Option Value)}{kV doc pm aU ct:Value}{tk:Tok}{m_:Value}{ni:Option Addr}{n:Nat}{nj:Array (Option Value)}
  (l:K.lookup f=some ⟨oc,od,.func (PySem.W.fnOf x qual (iC st) (fK st) (aM st) (.ref dT) kV doc pm an aU ct),fj⟩)
  (c:PySem.W.codeIn K aU qual=true) (k:PySem.W.keepIn K (.ref f)=true) (ld:K.lookup dT=some ⟨m_,ni,.seq #[.int i tk] n,nj⟩):iE K x qual st i f (PySem.W.fnOf x qual (iC st) (fK st) (aM st) (.ref dT) kV doc pm an aU ct):=
 ⟨⟨oc,od,kV,doc,pm,an,aU,ct,fj,dT,tk,m_,ni,n,nj,rfl,l,c,ld⟩,k⟩
theorem iE.binds(F:iE K x qual st i f fd)
  (h:∀(s:Shared) (dT:Addr) (kV doc pm:Value) (an:Option Addr) (aU ct:Value) (tk:Tok) (o:Obj) (n:Nat) (us:List Value),s.heap.get? dT=some o→o.data=.seq #[.int i tk] n→us.length=ps.length→
   BindsTo s (PySem.W.fnOf x qual (iC st) (fK st) (aM st) (.ref dT) kV doc pm an aU ct) ⟨us,[]⟩ (ps.zip us)):Binds K fd ps []:=by
 obtain ⟨oc,od,kV,doc,pm,an,aU,ct,fj,dT,tk,m_,ni,n,nj,rfl,lk,fe,ld⟩:=F.ex;intro s us X hl;rw [oB] at hl ⊢;exact h s dT kV doc pm an aU ct tk _ n us (X _ _ ld) rfl hl
theorem iE.Qw(F:iE K x qual st i f fd)
  (h:∀(s:Shared) (dT:Addr) (kV doc pm:Value) (an:Option Addr) (aU ct:Value) (tk:Tok) (o:Obj) (n:Nat) (us:List Value),s.heap.get? dT=some o→o.data=.seq #[.int i tk] n→us.length+1=ps.length→
   BindsTo s (PySem.W.fnOf x qual (iC st) (fK st) (aM st) (.ref dT) kV doc pm an aU ct) ⟨us,[]⟩ (ps.zip (us++[.int i tk]))):∃v,Vals [V.int i] [v]∧Binds K fd ps [v]:=by
 obtain ⟨oc,od,kV,doc,pm,an,aU,ct,fj,dT,tk,m_,ni,n,nj,rfl,lk,fe,ld⟩:=F.ex;refine ⟨.int i tk,.cons ⟨tk,rfl⟩ .nil,fun s us X hl=>?_⟩;exact h s dT kV doc pm an aU ct tk _ n us (X _ _ ld) rfl (by simpa using hl)
theorem iE.Qx{y:Str}(F:iE K x qual st i f fd)
  (h:∀(s:Shared) (dT:Addr) (kV doc pm:Value) (an:Option Addr) (aU ct:Value) (tk:Tok) (o:Obj) (n:Nat) (us ws:List Value),s.heap.get? dT=some o→o.data=.seq #[.int i tk] n→ws.length=1→us.length+1=ps.length→
   BindsTo s (PySem.W.fnOf x qual (iC st) (fK st) (aM st) (.ref dT) kV doc pm an aU ct) ⟨us,[y].zip ws⟩ (ps.zip (us++ws))) :
  ∀(s:Shared) (us ws:List Value),K.In s.heap→ws.length=1→us.length+1=ps.length→BindsTo s fd ⟨us,[y].zip ws⟩ (ps.zip (us++ws)):=by
 obtain ⟨oc,od,kV,doc,pm,an,aU,ct,fj,dT,tk,m_,ni,n,nj,rfl,lk,fe,ld⟩:=F.ex;intro s us ws X hw hl;exact h s dT kV doc pm an aU ct tk _ n us ws (X _ _ ld) rfl hw hl
end
section
variable {X:Cx} {CX:iA} {k:Nat} {f C:Addr} {fd:FuncData} {ps:List Str} {y:Str} {sp:Sp} {E:XK} {m:Str} {pos apos OW:Pos} {e e' o:Expr} {ta:TE} {t tk:TA}
end
end L2
namespace My
open PySem L2
def fN(a b:Int):Int:=a.fdiv (lowG a b)
def fO(a b:Int):Int:=b.fdiv (lowG a b)
variable {b:Int}
theorem Dr{a:Int}(hb:b≠0):iD (fN a b) (fO a b)∧fN a b*b=a*fO a b∧(fN a b).natAbs≤a.natAbs∧(fO a b).natAbs≤b.natAbs:=by
 have gp:=pD (a:=a) hb;have c:=ID (a:=a) hb;obtain ⟨a',ea⟩:=vW (a:=a) (b:=b);obtain ⟨b',eb⟩:=oE (a:=a) (b:=b);unfold fN fO lowG;generalize Int.gcd a b=g at *;have g0:(g:Int)≠0:=by lia
 have ga:a / (g:Int)=a':=by rw [ea];exact mF _ g0
 have gb:b / (g:Int)=b':=by rw [eb];exact mF _ g0
 rw [ga,gb] at c;have la:a'.natAbs≤a.natAbs:=by rw [←ga];exact mE ..
 have lb:b'.natAbs≤b.natAbs:=by rw [←gb];exact mE ..
 have cr:a'*b=a*b':=by rw [ea,eb];simp only [ir,j7,Int.mul_left_comm]
 by_cases h:b<0
 ·have d1:(0-(g:Int))∣a:=⟨-a',by rw [ea,rV,Int.neg_mul_neg]⟩
  have d2:(0-(g:Int))∣b:=⟨-b',by rw [eb,rV,Int.neg_mul_neg]⟩
  rw [ar h,yM d1,yM d2,rV,Int.ediv_neg,Int.ediv_neg,ga,gb];refine ⟨⟨?_,by rw [Int.neg_gcd,Int.gcd_neg];exact c⟩,?_,?_,?_⟩
  ·have z:0 < -b':=w5 (u:=(g:Int)) (by lia) (by rw [gF,←eb];lia)
   lia
  ·rw [Int.neg_mul,gF,cr]
  ·rw [Int.natAbs_neg];exact la
  ·rw [Int.natAbs_neg];exact lb
 ·rw [ao h,yM ⟨a',ea⟩,yM ⟨b',eb⟩,ga,gb]
  have z:0<b':=w5 (u:=(g:Int)) (by lia) (by rw [←eb];lia)
  exact ⟨⟨by lia,c⟩,cr,la,lb⟩
theorem IH(a:Int):fN a 1=a∧fO a 1=1:=by
 unfold fN fO lowG;rw [yN,ao (by decide)]
 exact ⟨Int.fdiv_one a,Int.fdiv_one 1⟩
def Qy(N:Addr):Sp:=fun vs H Q E=>∃a b:Int,vs=[.int a,.int b]∧aP b∧(b=0→E (.ref N) none H)∧(b≠0→∀(r:Addr) (H':Hp),ai H H'→H' r=some (.tup [.int (fN a b),.int (fO a b)])→Q (.ref r) H')
def kB(q b:Int):Prop:=if q=0 then b=0 else b % q=0
def pE(H:Hp)(q:Int)(v:V)(a b:Int):Prop:=
 (q=0∧∃r:Addr,v=.ref r∧H r=some (.tup [.int (fN a b),.int (fO a b)]))∨(2≤q∧∃r:Int,v=.int r∧0≤r∧r<q∧(r*(b % q)) % q=a % q)
theorem pE.mono{H H':Hp}{q:Int}{v:V}{a:Int}(h:pE H q v a b)(s:ai H H'):pE H' q v a b:=by
 rcases h with ⟨h,r,e,h2⟩ | h;·exact .inl ⟨h,r,e,s _ _ h2⟩
 ·exact .inr h
def Qz(C N:Addr):Sp:=fun vs H Q E=>∃(z:Addr) (q a b:Int),vs=[.ref z,.int a,.int b]∧dg C H z q∧ax q∧aP b ∧
 (kB q b→E (.ref N) none H)∧(¬kB q b→∀(v:V) (H':Hp),ai H H'→pE H' q v a b→Q v H')
end My
namespace L2
open PySem PySem.Spec PyProof.Rows
section
variable {X:Cx}
end
end L2
namespace My
open PySem L2
inductive kC (H:Hp):Int→V→Int→Int→Prop where
 | bS {p:Addr} {u d t b:Int} (e:H p=some (.tup [.int u,.int d])) (l:iD u d) (hb:b≠0) (h:u*b=t*d):kC H 0 (.ref p) t b
 | rem {q r t b:Int} (q2:2≤q) (h0:0≤r) (h1:r<q) (g:Int.gcd q b=1) (h:q∣r*b-t):kC H q (.int r) t b
variable {B:Nat} {H:Hp} {q x m:Int} {v:V}
theorem a7.zA(h:a7 B H q v x m)(hq:ax q):kC H q v x m:=by
 cases h with
 | bS e l bx bm=>exact .bS e l (by have:=l.pos;lia) rfl
 | rem h0 h1 h2=>
  have q2:2≤q:=(hq.resolve_left (by lia)).1
  exact .rem q2 h0 h1 (by rw [yN]) ⟨0,by lia⟩
variable {t b:Int}
theorem II{u d:Int}(l:iD u d)(hb:b≠0)(e:u*b=t*d):u.natAbs≤t.natAbs∧d.natAbs≤b.natAbs:=by
 have h3:=l.pos;by_cases c:0<b
 ·obtain ⟨z1,z2⟩:=zu l c e
  lia
 ·have e':u*(-b)=(-t)*d:=by rw [gF,e,Int.neg_mul]
  obtain ⟨z1,z2⟩:=zu l (show 0 < -b by lia) e'
  lia
variable {c:Int}
theorem Ds{a:Int}(h:c≠0)(e:a*c=b*c):a=b:=Co h e
theorem QA(h:Int.gcd q c=1)(d:q∣c-t):Int.gcd q t=1:=by
 refine Dm fun e h1 h2=>Dn h h1 ?_;have z:=Int.dvd_add (jr h1 d) h2;rw [show c-t+t=c by lia] at z
 exact z
theorem IJ{a:Int}(q2:2≤q)(g:Int.gcd q c=1)(d:q∣a*c):q∣a:=by
 have qq:((q.natAbs:Nat):Int)=q:=by lia
 have z:=Dp (a:=a) (b:=q) (c:=c) (d:=q.natAbs) g (by rw [qq];exact iW q) (by rw [qq];exact d)
 rw [qq] at z;exact z
theorem zC(a q:Int):∃w,a % q+q*w=a:=⟨a / q,Cn a q⟩
section
variable {C N z:Addr} {q:Int} {v u:V} {t b t' b':Int} {H:Hp} {Q:VK} {E:XK}
theorem abX(hw:dg C H z q)(hq:ax q)(hv:kC H q v t b)(hu:kC H q u t' b')(b1:m9 t)(b2:m9 b)(b3:m9 t')(b4:m9 b')
  (k:∀(v':V) (H':Hp),ai H H'→kC H' q v' (t*b'+t'*b) (b*b')→Q v' H'):Qs C (fun x m y n=>x*n+y*m) (fun i j=>i+j) [.ref z,v,u] H Q E:=by
 refine ⟨z,q,v,u,rfl,hw,?_⟩;cases hv with
 | bS e l hb h=>
  cases hu with
  | bS e' l' tj h'=>
   rename_i p x m p' y n
   obtain ⟨c1,c2⟩:=II l hb h;obtain ⟨c3,c4⟩:=II l' tj h';refine .inl ⟨rfl,_,_,x,m,y,n,rfl,rfl,e,e',l,l',ae c1 b1,ae c2 b2,ae c3 b3,ae c4 b4,fun r' H' a d s' er la ea=>k _ H' s' (.bS er la (Int.mul_ne_zero hb tj) ?_)⟩;have m0:=l.pos;have n0:=l'.pos;refine Ds (c:=m*n) (Int.mul_ne_zero (by lia) (by lia)) ?_
   grind
  | rem q2 h0 h1 g h=>lia
 | rem q2 h0 h1 g h=>
  cases hu with
  | bS e' l' tj h'=>lia
  | rem QB nq zD g' h'=>
   rename_i i j
   have q3:q≤997:=(hq.resolve_left (by lia)).2.1
   refine .inr ⟨q2,i,j,rfl,rfl,h0,by lia,k _ H (ai.refl H) (.rem q2 (dA _ (by lia)) (dN _ (by lia)) (IC g g') ?_)⟩
   obtain ⟨k1,e1⟩:=h;obtain ⟨k2,e2⟩:=h';obtain ⟨w,ew⟩:=zC (i+j) q;exact ⟨k1*b'+k2*b-w*(b*b'),by grind⟩
theorem IK(nz:¬q∣b):¬kB q b:=fun h=>nz (by
  unfold kB at h;by_cases z:q=0;·rw [ar z] at h;rw [h];exact dB q
  ·rw [ao z] at h;exact Cp h)
theorem IL{u d u' d':Int}(l:iD u d)(l':iD u' d')(e:u*d'=u'*d):u=u'∧d=d':=by
 have h1:=l.pos;have h2:=l'.pos;have a:=(zu l (show 0<d' by lia) e).1
 have c:=(zu l' (show 0<d by lia) e.symm).1
 have dd:d=d':=by lia
 subst dd;exact ⟨Ds (show d≠0 by lia) e,rfl⟩
theorem QC(hv:kC H q v t b)(hu:kC H q u t' b')(e:t*b'=t'*b) :
  (∃p p' x m,v=.ref p∧u=.ref p'∧H p=some (.tup [.int x,.int m])∧H p'=some (.tup [.int x,.int m]))∨(∃i:Int,v=.int i∧u=.int i):=by
 cases hv with
 | bS e1 l hb h=>
  cases hu with
  | bS e2 l' tj h'=>
   rename_i p x m p' y n
   have z:x*n=y*m:=by refine Ds (c:=b*b') (Int.mul_ne_zero hb tj) ?_;grind
   obtain ⟨rfl,rfl⟩:=IL l l' z;exact .inl ⟨_,_,_,_,rfl,rfl,e1,e2⟩
  | rem q2 h0 h1 g h=>lia
 | rem q2 h0 h1 g h=>
  cases hu with
  | bS e' l' tj h'=>lia
  | rem QB nq zD g' h'=>
   rename_i i j
   have d:q∣(i-j)*(b*b'):=by obtain ⟨k1,e1⟩:=h;obtain ⟨k2,e2⟩:=h';exact ⟨k1*b'-k2*b,by grind⟩
   have d2:=IJ q2 (IC g g') d;have ij:i=j:=by
    obtain ⟨k,ek⟩:=d2;by_cases z:k=0;·rw [z,cJ] at ek;lia
    ·exfalso
     rcases Int.lt_or_gt_of_ne z with z | z
     ·have:=j6 (show k≤-1 by lia) (show 0≤q by lia)
      lia
     ·have:=j6 (show 1≤k by lia) (show 0≤q by lia)
      lia
   subst ij;exact .inr ⟨_,rfl,rfl⟩
theorem QD(x m:Int):ia [V.int x,V.int m] [V.int x,V.int m]=true:=by show ((x == x) && ((m == m) && true))=true;simp
end
theorem a7.cR{H':Hp}{D:Addr}{ys:List V}(h:a7 B H q v x m)(eD:H D=some (.lst ys))(k:∀b o,b≠D→H b=some o→H' b=some o):a7 B H' q v x m:=by
 cases h with
 | bS e l bx bm=>refine .bS (k _ _ (fun z=>?_) e) l bx bm;rw [z,eD] at e;cases e
 | rem h0 h1 h2=>exact .rem h0 h1 h2
end My
namespace L2
open PySem PySem.Spec PyProof.Rows
structure tq (J:It) (xs:List V) (H1:Hp):Prop where
 go:∀i Hc,ai H1 Hc→i<xs.length→J.go i Hc
 eW:∀i Hc x H',ai H1 Hc→J.eW i Hc x H'→H'=Hc∧(i<xs.length→xs[i]?=some x)
 stop:∀i Hc,ai H1 Hc→xs.length≤i→J.stop i Hc
variable {K:aF} {xs:List V} {H1:Hp}
theorem ny{a:Addr}(h:bo K H1 a xs):tq (sF K a) xs H1 where
 go:=fun i Hc s hi=>⟨xs,xs[i],s.seq h,by simp [hi]⟩
 eW:=fun i Hc x H' s y=>⟨y.1,fun _=>y.2 xs (s.seq h)⟩
 stop:=fun i Hc s hi=>⟨xs,s.seq h,hi⟩
theorem zE{lo:Int}{n:Nat}:tq (mU lo n) ((List.range n).map fun i:Nat=>V.int (lo+(i:Int))) H1 where
 go:=fun i Hc s hi=>by
  have hi:i<n:=by simpa using hi
  exact hi
 eW:=fun i Hc x H' s y=>⟨y.1,fun hi=>by
  have hi:i<n:=by simpa using hi
  rw [y.2];simp [hi]⟩
 stop:=fun i Hc s hi=>by
  have hi:n≤i:=by simpa using hi
  exact hi
variable {H:Hp} {D:Addr}
theorem kD{H':Hp}{o:HO}(s:ai H H')(n:H D=none):ai H (upd H' D o):=fun b u e=>by rw [b7 (fG e n)];exact s b u e
variable {te:TE} {Q:VK}
theorem IM{J:It}{ρσ:St}(js:tq J xs H1)(nD:H1 D=none)(hn:xs.length<sizeLine)
  (P:Nat→V→Hp→Prop) (mono:∀i y H H' ys,P i y H→H D=some (.lst ys)→(∀b o,b≠D→H b=some o→H' b=some o)→P i y H')
  (step:∀i x,xs[i]?=some x→∀(Hc:Hp) (R:VK),ai H1 Hc→(∃ys,Hc D=some (.lst ys))→(∀y H3,ai Hc H3→P i y H3→R y H3)→te (some x::ρσ) Hc R)
  (fin:∀ys Hc,ai H1 Hc→ys.length=xs.length→(∀i y,ys[i]?=some y→P i y Hc)→Hc D=some (.lst ys)→Q (.ref D) Hc) :
  ∃W:Nat→Nat→List V→Hp→Prop,(∃m,W 0 m [] (upd H1 D (.lst []))) ∧
   ∀i m ys Hc,W i m ys Hc→Hc D=some (.lst ys)∧((J.stop i Hc∧Q (.ref D) Hc)∨(J.go i Hc∧∀x H',J.eW i Hc x H'→
    if true=true then te (some x::ρσ) H' fun y H3=>H3 D=some (.lst ys)∧ys.length<sizeLine∧∃m',m'<m∧W (i+1) m' (ys++[y]) (upd H3 D (.lst (ys++[y]))) else ∃m',m'<m∧W (i+1) m' ys H')):=by
 refine ⟨fun i m ys Hc=>m=xs.length-i∧i≤xs.length∧Hc D=some (.lst ys)∧ai H1 Hc∧ys.length=i∧∀j y,ys[j]?=some y→P j y Hc,⟨_,rfl,b9 _,av,kD (ai.refl H1) nD,rfl,fun j y e=>by simp at e⟩,?_⟩
 rintro i m ys Hc ⟨rfl,hi,eD,sH,el,hP⟩;refine ⟨eD,?_⟩;by_cases cN:i<xs.length
 ·refine .inr ⟨js.go i Hc sH cN,fun x H' hy=>?_⟩
  obtain ⟨rfl,hx⟩:=js.eW i Hc x H' sH hy;rw [ar rfl];refine step i x (hx cN) _ _ sH ⟨ys,eD⟩ fun y H3 s3 hp=>?_;have e3:=s3 _ _ eD;refine ⟨e3,by lia,xs.length-(i+1),by lia,rfl,cN,av,kD (sH.trans s3) nD,by simp [el],fun j y' e=>?_⟩
  have cR:∀b o,b≠D→H3 b=some o→upd H3 D (.lst (ys++[y])) b=some o:=fun b o nb e=>by rw [b7 nb];exact e
  by_cases hj:j<i
  ·have e':ys[j]?=some y':=by rw [ip (by lia)] at e;exact e
   refine mono j y' H' _ ys (hP j y' e') eD fun b o nb e=>?_;exact cR b o nb (s3 _ _ e)
  ·have hj:j=i:=by have:=(cV.mp e).1;simp at this;lia
   subst hj;have e':y'=y:=by rw [g8 (by lia),el,k8] at e;simpa using e.symm
   subst e';exact mono _ _ H3 _ ys hp e3 cR
 ·have e:i=xs.length:=by lia
  subst e;exact .inl ⟨js.stop _ Hc sH (aJ _),fin ys Hc sH el hP eD⟩
variable {wi:TI} {ρ:St→St} {σ:St}
theorem QE(iF:∀R:It→Hp→Prop,(∀J H1,ai H H1→tq J xs H1→R J H1)→wi σ H R)(hn:xs.length<sizeLine)
  (P:Addr→Nat→V→Hp→Prop) (mono:∀D i y H H' ys,P D i y H→H D=some (.lst ys)→(∀b o,b≠D→H b=some o→H' b=some o)→P D i y H')
  (step:∀D i x,xs[i]?=some x→∀(Hc:Hp) (R:VK),ai H Hc→(∃ys,Hc D=some (.lst ys))→(∀y H3,ai Hc H3→P D i y H3→R y H3)→te (some x::ρ σ) Hc R)
  (fin:∀D ys Hc,ai H Hc→ys.length=xs.length→(∀i y,ys[i]?=some y→P D i y Hc)→Hc D=some (.lst ys)→Q (.ref D) Hc):pb wi ρ (fun _ H Q=>Q true H) te σ H Q:=by
 refine iF _ fun J H1 s1 js=>?_;intro D nD;exact IM (ρσ:=ρ σ) (te:=te) (Q:=Q) js nD hn (P D) (mono D) (fun i x hx Hc R sc=>step D i x hx Hc R (s1.trans sc)) (fun ys Hc sc=>fin D ys Hc (s1.trans sc))
theorem du{g:TG}{D:Ends}(h:te σ H fun x H1=>g x σ H1 D.nx):lH te g D σ H:=h
theorem iG{a b:TS}{D:Ends}(h:a {D with nx:=fun σ H=>b D σ H} σ H):CB a b D σ H:=h
section
variable {X:Cx} {N:List Str} {scope:Scope} {cl:List (Str×Addr)} {x:Str} {px pos:Pos} {iter elt:Expr} {ifs:List Expr} {wi:TI} {ρ:St→St} {tt:TT} {te:TE}
theorem tx{y:Str}{py w6:Pos}{i0:Nat}(B:Df X N scope cl x ρ)(hc:X.calm=true)(hN:X.N.Nodup)(lO:X.N[i0]?=some y)(hy:Loc X.env.scope y)(hi:PI X (.Name x px) iter wi)(ht:∀s₃ H₃ fp,kz (X.aX N scope cl s₃ H₃ fp) ifs tt)(he:∀s₃ H₃ fp,PE (X.aX N scope cl s₃ H₃ fp) elt te)
  (Dt:swapsWith (.ListComp elt [⟨.Name x px,iter,ifs,0⟩] scope pos) (some (.Name y py)) w6.line X.env=pure true:=by rfl) (hf:X.fn y=true∨X.env.scope.names.lookup y=some .local:=by first | exact .inl rfl | exact .inr rfl | assumption)
  (hs:∀x,foldedSetIterable iter X.env x=pure x:=by intro _;rfl):PS X (.Assign [.Name y py] (.ListComp elt [⟨.Name x px,iter,ifs,0⟩] scope pos) w6) (lH (pb wi ρ tt te) (bE i0)):=by
 intro pins s σ H D0 I h
 have h:pb wi ρ tt te σ H (fun v H1=>D0.nx (σ.set i0 (some v)) H1):=h
 rw [exec_Assign_Name_used _ _ _ _ Dt]
 refine cC (vO (cC ?_))
 show wpAny _ X.A (do let _ ←comprehension (.ListComp elt [⟨.Name x px,iter,ifs,0⟩] scope pos) scope X.env _ (newList []) false (eval iter X.env) (some (assign (.Name y py) X.env))) _ _ s
 refine cC (cm (Q:=fun _ s'=>SP X pins D0 .next s') ?_ (fun _ s' hq=>d_ (d_ hq)) fun _ _ e=>e)
 refine yH (use:=some (assign (.Name y py) X.env)) rfl hs B.wW B.kind B.names (aG (hi pins s σ H _ I h) fun v s1 h1=>aG h1 fun sE s2 h2=>?_)
 obtain ⟨it,fp,tn,J,H2,rfl,I2,T,fZ,f2,q2⟩:=h2
 have nD:H2 s2.heap.objs.size=none:=I2.aC.fresh (aJ _)
 obtain ⟨W,⟨m0,w0⟩,turn⟩:=q2 _ nD
 refine vP (yI B.wX (by intro y hy;simp at hy) (fun h₁ fk fm=>?_) B.kind)
 dsimp only at fk fm ⊢
 generalize hD:s2.heap.objs.size=D at nD w0 turn fk fm ⊢
 generalize dO:({s2 with heap:=s2.heap.push {cls:=.type "list",dict:=none,data:=.seq ([]:List Value).toArray}}:Shared)=s3
 have I3:Inv X pins σ (upd H2 D (.lst [])) s3:=by
  subst hD dO
  exact I2.laid (t':=s2.toks) (fun b u e=>dj _ e) (aJ _) ⟨b9 _,[],_,.nil,gC _ rfl⟩
 have e3:s3.heap=s2.heap.push {cls:=.type "list",dict:=none,data:=.seq ([]:List Value).toArray}:=by rw [←dO]
 have fo:∀b o,s2.heap.get? b=some o→s3.heap.get? b=some o:=fun b o e=>by rw [e3];exact dj _ e
 rw [←e3] at fk fm ⊢
 have below:∀b o,s3.heap.get? b=some o→b≠s3.heap.objs.size:=fun b o e=>d9 (bV e)
 have dt:∀b o,s3.heap.get? b=some o→h₁.get? b=some o:=fun b o e=>fm.extBut b o (below b o e) (dj _ e)
 have gN:∀b∈fp,∃o,s2.heap.get? b=some o∧∀v,o.data≠.cell v:=T.obj _ _ fZ
 have pd:∀b∈fp,b≠D:=fun b hb z=>by
  obtain ⟨o,e,_⟩:=gN b hb
  rw [z,←hD] at e
  exact absurd (bV e) (gg _)
 have cU:∀y c,cl.lookup y=some c→X.env.cells.lookup y=some c:=fun y c e=>B.sub (y,c) (j4 e)
 have ph:=I3.so
 have eK:(X.aX N scope cl s3 (upd H2 D (.lst [])) fp).Ok:=by
  refine ⟨I.ok.mod,B.kind,I.ok.glob,I.ok.blt,aJ _,fun a b c e1 e2=>I.ok.inj a b c (cU a c e1) (cU b c e2),fun y hy=>B.has y hy,(fun _ _ z _=>absurd z dk),(fun _=>I.ok.hd hc),I.ok.frames,.inl rfl,fun b hb=>⟨?_,fun y c e z=>?_⟩,fun b o e=>?_,ae I.ok.gK I3.sz,fun b o e hb=>?_,fun b hb z=>?_,I3.stack,ph⟩
  ·obtain ⟨o,e,_⟩:=gN b hb
   exact below b o (fo b o e)
  ·exact (f2 b hb).2.2.2.2.1 y c (cU y c e) z
  ·exact I3.bs b o e
  ·rcases (f2 b hb).2.2.2.1 with z | z
   ·exact I.ok.mP b o e z
   ·exact absurd (dQ (bV e) (ae I.ok.gK z)) (gg _)
  ·rcases dR.mp (I3.si b z) with z | z
   ·exact (f2 b hb).2.1 z
   ·exact (f2 b hb).2.2.1 z
 have IB:∀tk:Nat,Inv (X.aX N scope cl s3 (upd H2 D (.lst [])) fp) [] (none::ρ σ) (upd H2 D (.lst [])) {s3 with heap:=h₁,toks:=tk}:=fun tk=>by
  refine ⟨eK,rfl,I3.bare,Un.kept dt,⟨_,fk,fun j y v e1 e2 e3=>?_⟩,fun y c e=>?_,?_,fun y c e=>I3.ix y c (cU y c e),(fun p hp=>nomatch hp),I3.aC.kept dt,?_⟩
  ·cases j with
   | zero=>cases e2
   | succ j=>
    obtain ⟨i,y',a1,a2,a3,a4,a5,a6⟩:=B.wY σ j v e2
    have f_:N[j+1]?=some y:=e1
    rw [f_] at a1
    cases a1
    obtain ⟨m,hn,hl⟩:=I3.loc
    obtain ⟨u,r,l⟩:=hl i y v a2 a3 a4
    refine ⟨u,r,.inr ⟨a6,?_⟩⟩
    obtain ⟨c,ec⟩:=B.has y a6
    rcases l with ⟨k,_⟩ | ⟨_,c',jH,z⟩
    ·rcases a5 with q | q <;> (rw [k] at q;cases q)
    ·have:=cU y c ec
     rw [this] at jH
     cases jH
     obtain ⟨o,ho,hd⟩:=z
     exact ⟨c,ec,o,dt _ _ ho,hd⟩
  ·obtain ⟨v,o,ho,hd⟩:=I3.cell y c (cU y c e)
   exact ⟨v,o,dt _ _ ho,hd⟩
  ·exact I3.aC.fresh (aJ _)
  ·show (none::ρ σ).length=N.length
   rw [eQ]
   exact B.len σ I.len
 have pF:∀b o,s3.heap.get? b=some o→b≠s3.heap.objs.size:=below
 have fin:∀{σ':St} {H':Hp} {s':Shared},Inv (X.aX N scope cl s3 (upd H2 D (.lst [])) fp) [] σ' H' s'→D0.nx (σ.set i0 (some (.ref D))) H'→compPost (model X.prog X.w) X.A X.xe (some (assign (.Name y py) X.env)) (fun _ s'=>SP X pins D0 .next s') (.ref D) s3.heap.objs.size (.ok .next) s':=fun{σ' H' s'} J q=>by
  obtain ⟨m,hn,_⟩:=J.loc
  have hn:s'.heap.Ns s3.heap.objs.size m:=hn
  have JC:H' s3.heap.objs.size=none:=J.free
  have u1:Un (cD X.stack) fp (upd H2 D (.lst [])) H' s3.heap s'.heap:=by
   refine ⟨fun b o e n hb hx=>J.base.keep b o e n hb hx,fun b o e n hb hx=>J.base.slot b o e n hb hx,J.base.free,fun b o e hx=>J.base.there b o e hx,J.base.gk,J.base.fY,J.base.gq⟩
  have IX:Inv X pins σ H' s':=I3.kg (ch:=fp) (J.os) u1 J.aC J.bare fun b hb=>by
   obtain ⟨g0,g1,g2,g3,g4,g5⟩:=f2 b hb
   exact ⟨g3,g1,g4,g5⟩
  have nl:X.env.locals≠s3.heap.objs.size:=by
   obtain ⟨m3,⟨o3,_,_,e3,_⟩,_⟩:=I3.loc
   exact pF _ _ e3
  have nc:∀z c,X.env.cells.lookup z=some c→c≠s3.heap.objs.size:=fun z c e=>by
   obtain ⟨v3,o3,e3,_⟩:=I3.cell z c e
   exact pF _ _ e3
  refine wpAny_assign_Name (Cy (v:=.ref D) IX hN lO hy rfl (fun eI pG pH=>?_) hf)
  obtain ⟨a,pH,ha⟩:=pH
  have na:s3.heap.objs.size≠a:=by
   rcases ha with rfl | e
   ·exact fun z=>nl z.symm
   ·exact fun z=>nc _ _ e z.symm
  refine ⟨m,hn.sameBut pH na,fun h' fq=>⟨σ.set i0 (some (.ref D)),H',?_,q⟩⟩
  have u2:Un (cD X.stack) [s3.heap.objs.size] H' H' eI.heap h':=by
   refine ⟨fun b o e n hb hx=>(fq.2 b (by simpa using hx)).trans e,fun b o e n hb hx=>⟨o.slots,(fq.2 b (by simpa using hx)).trans e⟩,fun b o e n hx=>n,fun b o e hx=>⟨o,(fq.2 b (by simpa using hx)).trans e⟩,fun b xs z=>z,fun b o u z=>z,fun b ps z=>⟨#[],by simpa using z⟩⟩
  have pj:cL X.prog X.w H' h':=fun b u e=>by
   refine (pG.aC b u e).g_ (fun c v hc z=>(fq.2 c fun y=>?_).trans z) (fun _ z=>z) fun _ _ z=>z
   have y':c=s3.heap.objs.size:=y
   rcases hc with hc | hc
   ·rw [←hc,y',JC] at e
    cases e
   ·rw [y',JC] at hc
    cases hc
  refine pG.kg (s':={eI with heap:=h'}) (ch:=[s3.heap.objs.size]) rfl u2 pj pG.bare fun b hb=>?_
  have eb:b=s3.heap.objs.size:=by simpa using hb
  subst eb
  refine ⟨.inr I3.sz,fun z=>nl z.symm,fun z c e=>nc z c e,fun p hp=>?_⟩
  exact pF _ _ (I3.pin p hp).1
 have fh:∀{H':Hp},(∀b∈fp,H' b=none)→∀b∈fp,kl (X.aX N scope cl s3 (upd H2 D (.lst [])) fp) [] H' b:=fun hn b hb=>by
  refine ⟨hn b hb,?_,?_,.inl hb,fun y c e z=>(f2 b hb).2.2.2.2.1 y c (cU y c e) z,fun p hp=>nomatch hp⟩
  ·obtain ⟨o,e,_⟩:=gN b hb
   exact below b o (fo b o e)
  ·exact eK.mQ b hb
 have loop:∀tk:Nat,codeAny (model X.prog X.w) X.A (.compLoop (.ListComp elt [⟨.Name x px,iter,ifs,0⟩] scope pos) 0 (.ref it) (.ref D) (compEnvC scope cl s3.heap.objs.size X.env))
   (compPost (model X.prog X.w) X.A X.xe (some (assign (.Name y py) X.env)) (fun _ s'=>SP X pins D0 .next s') (.ref D) s3.heap.objs.size) {s3 with heap:=h₁,toks:=tk}:=fun tk=>by
  refine codeAny_compLoop_tests (fun n s'=>∃i ys o H',Inv (X.aX N scope cl s3 (upd H2 D (.lst [])) fp) [] (o::ρ σ) H' s'∧tn i s'.heap∧(∀b∈fp,H' b=none)∧W i n ys H') ?_ m0
   ⟨0,[],none,_,IB tk,T.keep _ _ _ fZ fun b hb o e=>dt _ _ (fo _ _ e),fun b hb=>by rw [b7 (pd b hb)];exact (f2 b hb).1,w0⟩
  rintro n s4 ⟨i,ys,o,H4,I4,jI,jJ,w4⟩
  obtain ⟨Di,pk⟩:=turn i n ys H4 w4
  rcases pk with ⟨stop,qn⟩ | ⟨go,step⟩
  ·refine cm (T.done (X.aX N scope cl s3 (upd H2 D (.lst [])) fp) rfl rfl rfl hc i [] s4 _ H4 (fun _ _=>False) I4 (fh jJ) jI stop) (fun r s5 ⟨hr,I5⟩=>?_) fun _ _ z=>z.elim
   subst hr
   exact fin I5 qn
  ·refine cm (T.item (X.aX N scope cl s3 (upd H2 D (.lst [])) fp) rfl rfl rfl hc i [] s4 _ H4 (fun _ _=>False) I4 (fh jJ) jI go) (fun r s5 ⟨u,hr,h5⟩=>?_) fun _ _ z=>z.elim
   subst hr
   have z:letOwnedTupleGo (.Name x px) (.ref it) u=pure ():=rfl
   rw [z] at h5
   show wpAny _ _ ((pure ():Sem Unit) >>= fun _=>assign (.Name x px) (compEnvC scope cl s3.heap.objs.size X.env) u) _ _ s5
   refine cC (cm h5 (fun _ s5 ⟨y,H5,I5,r5,y5,fi,lI⟩=>?_) fun _ _ z=>z.elim)
   have lJ:=I5.pinned (fh lI) (T.obj _ _ fi)
   have pg:PG (X.aX N scope cl s3 (upd H2 D (.lst [])) fp) (.Name x px) (bE 0):=eE (i:=0) B.nd B.n0 (.inl (iU B.hx)) (.inr (iU B.hx))
   have again:∀{σ7:St} {H7:Hp} {s7:Shared},Inv (X.aX N scope cl s3 (upd H2 D (.lst [])) fp) ([]++i5 fp s5.heap) σ7 H7 s7→Inv (X.aX N scope cl s3 (upd H2 D (.lst [])) fp) [] σ7 H7 s7∧tn (i+1) s7.heap∧∀b∈fp,H7 b=none:=fun{σ7 H7 s7} I7=>by
    refine ⟨I7.oS,T.keep _ _ _ fi fun b hb o e=>(I7.pin (b,o) (dS _ (dS _ (kn hb e)))).1,fun b hb=>?_⟩
    obtain ⟨o,e,d⟩:=T.obj _ _ fi b hb
    exact (I7.pin (b,o) (dS _ (dS _ (kn hb e)))).2.1
   refine cm (pg _ s5 _ H5 y u (fun σ2 H6=>σ2=some y::ρ σ∧H6=H5) lJ r5 ⟨rfl,rfl⟩) (fun _ s6 ⟨σ6,H6,I6,q6⟩=>?_) fun _ _ z=>z.elim
   obtain ⟨rfl,rfl⟩:=q6
   have pz:=step y _ y5
   have tests:∀{gO:TT},kz (X.aX N scope cl s3 (upd H2 D (.lst [])) fp) ifs gO→∀{R:Bool→Hp→Prop},gO (some y::ρ σ) H6 R→wpAny (model X.prog X.w) X.A
     (forIn ifs true fun c r=>if r=true then do let ok ←isTrue c (compEnvC scope cl s3.heap.objs.size X.env) (eval c (compEnvC scope cl s3.heap.objs.size X.env));pure (ForInStep.yield ok) else pure (ForInStep.yield r))
     (fun ok s7=>∃H7,Inv (X.aX N scope cl s3 (upd H2 D (.lst [])) fp) ([]++i5 fp s5.heap) (some y::ρ σ) H7 s7∧R ok H7) (fun _ _=>False) s6:=fun{gO} p {R} hR=>by
    cases p with
    | nil=>exact yJ ⟨_,I6,hR⟩
    | one p=>exact yK (p _ s6 _ _ _ I6 hR)
   refine cm (tests (ht s3 _ fp) pz) (fun ok s7 ⟨H7,I7,q7⟩=>?_) fun _ _ z=>z.elim
   cases ok with
   | false=>
    obtain ⟨m',gP,w7⟩:=q7
    obtain ⟨a1,a2,a3⟩:=again I7
    exact ⟨m',gP,i+1,ys,_,H7,a1,a2,a3,w7⟩
   | true=>
    refine cm (he s3 _ fp _ s7 _ H7 _ I7 q7) (fun ev s8 ⟨z,H8,I8,r8,pA,hz,m',gP,w8⟩=>?_) fun _ _ z=>z.elim
    refine cm (wO (X:=X.aX N scope cl s3 (upd H2 D (.lst [])) fp) _ s8 _ H8 (.ref D) [z] (.ref D) [ev] (fun _ H9=>H9=upd H8 D (.lst (ys++[z]))) I8 rfl (.cons r8 .nil) ⟨D,ys,z,rfl,rfl,pA,hz,rfl⟩) (fun _ s9 ⟨_,H9,I9,_,q9⟩=>?_) fun _ _ z=>z.elim
    subst q9
    obtain ⟨a1,a2,a3⟩:=again I9
    exact ⟨m',gP,i+1,ys++[z],_,_,a1,a2,a3,w8⟩
 have start:=loop (s3.toks+([]:List (Str×Value)).length)
 have es:({s3 with heap:=h₁,toks:=s3.toks+([]:List (Str×Value)).length}:Shared)={s2 with heap:=h₁,toks:=s2.toks+([]:List (Str×Value)).length}:=by rw [←dO]
 rw [es] at start
 exact yL start (T.self _ 0 _ _ _ (T.keep _ _ _ fZ fun b hb o e=>dt _ _ (fo _ _ e)) start)
end
def Du(K:aF)(l1 l2:Addr):It:=
  ⟨fun i H=>∃xs ys x y,bo K H l1 xs∧bo K H l2 ys∧xs[i]?=some x∧ys[i]?=some y,
   fun i H v H'=>∃T x y,H T=none∧v=.ref T∧H'=upd H T (.tup [x,y])∧∀xs ys,bo K H l1 xs→bo K H l2 ys→xs[i]?=some x∧ys[i]?=some y,
   fun i H=>∃xs ys,bo K H l1 xs∧bo K H l2 ys∧(xs.length≤i∨ys.length≤i)⟩
theorem QF{P:Program}{w:World}{elts:List Expr}{k:Nat}{pos:Pos}{z TI TO i1 i2 l1 l2:Addr}(D:ZipApart z TI TO i1 i2 l1 l2):Turn P w K (.Tuple elts k pos) (Du K l1 l2) [z,TI,TO,i1,i2] z
  (fun i h=>IsZip h z TI TO .none∧IsPair h TI (.ref i1) (.ref i2)∧(∃a b,IsPair h TO a b)∧h.IsListIter i1 l1 i∧h.IsListIter i2 l2 i) where
 mem:=by simp
 obj:=fun i h st b hb=>by
  obtain ⟨hz,lQ,⟨a,c,nC⟩,h1,h2⟩:=st;simp only [dR,j9,j_] at hb;rcases hb with rfl | rfl | rfl | rfl | rfl;·exact ⟨_,hz,fun v z=>by cases z⟩
  ·exact ⟨_,lQ,fun v z=>by cases z⟩
  ·exact ⟨_,nC,fun v z=>by cases z⟩
  ·obtain ⟨o,e,c,d⟩:=h1
   exact ⟨o,e,fun v z=>by rw [d] at z;cases z⟩
  ·obtain ⟨o,e,c,d⟩:=h2
   exact ⟨o,e,fun v z=>by rw [d] at z;cases z⟩
 keep:=fun i h h' st k=>by obtain ⟨hz,lQ,⟨a,c,nC⟩,h1,h2⟩:=st;exact ⟨k _ (by simp) _ hz,k _ (by simp) _ lQ,⟨a,c,k _ (by simp) _ nC⟩,h1.at fun o e=>k _ (by simp) o e,h2.at fun o e=>k _ (by simp) o e⟩
 item:=by
  intro X hP hw hK hc i pins s σ H E I hf st hg;subst hP hw hK;obtain ⟨hz,lQ,⟨a,c,nC⟩,h1,h2⟩:=st;obtain ⟨xs,ys,x,y,iH,lM,hx,hy⟩:=hg;obtain ⟨aq,rv,p,_⟩:=I.list iH;obtain ⟨IP,zF,p',_⟩:=I.list lM;obtain ⟨u,hu,ru⟩:=rv.get hx;obtain ⟨u',kF,QG⟩:=zF.get hy;refine wpAny_pyNext_zip_item D hz lQ nC h1 h2 p.isList p'.isList (x:=u) (y:=u') (by simpa using hu) (by simpa using kF) fun h' g1 g2 g3 g4 g5 g6 g7=>⟨_,rfl,?_⟩
  refine wpAny_letOwnedTupleGo_zip g1 fun kG q1 sb=>?_;have w_:H s.heap.objs.size=none:=I.aC.fresh (aJ _);have lt:∀b o,s.heap.get? b=some o→b≠s.heap.objs.size:=fun b o e=>d9 (bV e);have keep:∀b o,b∉[z,TI,TO,i1,i2]→s.heap.get? b=some o→kG.get? b=some o:=fun b o nb e=>by simp only [dR,j9,j_,not_or] at nb;exact sb.extBut _ _ nb.1 (g7 b o nb.1 nb.2.2.1 nb.2.2.2.1 nb.2.2.2.2 e)
  have QH:z≠s.heap.objs.size:=lt _ _ hz;have pT:IsPair kG s.heap.objs.size u u':=sb.extBut _ _ QH.symm g5;have jK:∀{b:Addr} {o:HO} (e:H b=some o),upd H s.heap.objs.size (.tup [x,y]) b=some o:=fun e=>by rw [b7 (fG e w_)];exact e
  have aC:cL X.prog X.w (upd H s.heap.objs.size (.tup [x,y])) kG:=fun b o e=>by
   by_cases hb:b=s.heap.objs.size
   ·subst hb
    rw [av] at e;cases e;exact ⟨by show 2≤sizeLine;decide,[u,u'],.cons ru (.cons QG .nil),⟨_,pT,rfl,_,rfl⟩⟩
   ·rw [b7 hb] at e
    refine (I.aC b o e).g_ (fun c v d7 q=>keep c v (fun m=>?_) q) (fun c q=>jK q) fun c xs q=>jK q;have nn:=(hf c m).1;rcases d7 with rfl | d7;·rw [nn] at e;cases e
    ·rw [nn] at d7;cases d7
  have u1:Un (cD X.stack) [z,TI,TO,i1,i2] H (upd H s.heap.objs.size (.tup [x,y])) s.heap kG:=
   ⟨fun b o e n _ hx=>keep b o hx e,fun b o e n _ hx=>⟨o.slots,keep b o hx e⟩,fun b o e n hx=>by rw [b7 (lt b o e)];exact n,fun b o e hx=>⟨o,keep b o hx e⟩,fun b xs e=>jK e,fun b o u e=>jK e,fun b ps e=>⟨#[],by rw [jK e];simp⟩⟩
  refine ⟨.ref s.heap.objs.size,upd H s.heap.objs.size (.tup [x,y]),I.kg (s':={s with heap:=kG}) (ch:=[z,TI,TO,i1,i2]) rfl u1 aC I.bare (fun b hb=>?_),rfl,⟨_,x,y,w_,rfl,rfl,fun as bs ha hb=>⟨by rw [I.yZ ha iH];exact hx,by rw [I.yZ hb lM];exact hy⟩⟩,?_,fun b hb=>?_⟩
  ·obtain ⟨f0,f1,f2,f3,f4,f5⟩:=hf b hb
   exact ⟨f3,f1,f4,f5⟩
  ·exact ⟨q1,sb.extBut _ _ D.TIz (g7 _ _ D.TIz D.TITO D.TIi1 D.TIi2 lQ),⟨_,_,sb.extBut _ _ D.TOz g2⟩,g3.extBut sb.extBut D.i1z,g4.extBut sb.extBut D.i2z⟩
  ·have nb:b≠s.heap.objs.size:=by
    simp only [dR,j9,j_] at hb;rcases hb with rfl | rfl | rfl | rfl | rfl;·exact lt _ _ hz
    ·exact lt _ _ lQ
    ·exact lt _ _ nC
    ·obtain ⟨o,e,_⟩:=h1;exact lt _ _ e
    ·obtain ⟨o,e,_⟩:=h2;exact lt _ _ e
   rw [b7 nb];exact (hf b hb).1
 done:=by
  intro X hP hw hK hc i pins s σ H E I hf st hg;subst hP hw hK;obtain ⟨hz,lQ,⟨a,c,nC⟩,h1,h2⟩:=st;obtain ⟨xs,ys,iH,lM,hx⟩:=hg;obtain ⟨aq,rv,p,_⟩:=I.list iH;obtain ⟨IP,zF,p',_⟩:=I.list lM;have hl:=rv.length;have hl':=zF.length;refine wpAny_pyNext_zip_end (I.ok.hd hc) D hz lQ nC h1 h2 p.isList p'.isList (hx.imp (fun h=>by simp;lia) fun h=>by simp;lia) fun h' g=>⟨rfl,?_⟩
  have keep:∀b o,b∉[z,TI,TO,i1,i2]→s.heap.get? b=some o→h'.get? b=some o:=fun b o nb e=>by simp only [dR,j9,j_,not_or] at nb;exact g b o nb.1 nb.2.2.1 nb.2.2.2.1 nb.2.2.2.2 e
  have aC:cL X.prog X.w H h':=fun b o e=>by
   refine (I.aC b o e).g_ (fun c v d7 q=>keep c v (fun m=>?_) q) (fun c q=>q) fun c xs q=>q;have nn:=(hf c m).1;rcases d7 with rfl | d7;·rw [nn] at e;cases e
   ·rw [nn] at d7;cases d7
  have u1:Un (cD X.stack) [z,TI,TO,i1,i2] H H s.heap h':=
   ⟨fun b o e n _ hx=>keep b o hx e,fun b o e n _ hx=>⟨o.slots,keep b o hx e⟩,fun b o e n hx=>n,fun b o e hx=>⟨o,keep b o hx e⟩,fun b xs e=>e,fun b o u e=>e,fun b ps e=>⟨#[],by rw [e];simp⟩⟩
  refine I.kg (s':={s with heap:=h'}) (ch:=[z,TI,TO,i1,i2]) rfl u1 aC I.bare fun b hb=>?_;obtain ⟨f0,f1,f2,f3,f4,f5⟩:=hf b hb;exact ⟨f3,f1,f4,f5⟩
 self:=fun _ _ _ _ _ st h=>wpAny_pyIter_zip st.1 h
theorem boot_zip:bootBuiltins "zip"=some (.type "zip"):=by decide +kernel
def QI(K:aF)(ta:TA):TI:=fun σ H R=>ta σ H fun vs H1=>∃l1 l2,vs=[.ref l1,.ref l2]∧(∃xs,bo K H1 l1 xs)∧(∃ys,bo K H1 l2 ys)∧R (Du K l1 l2) H1
section
variable {X:Cx}
theorem Dv{elts:List Expr}{k:Nat}{sC:Pos}{a b:Expr}{ta:TA}{p pos:Pos}(hg:Gl X "zip")(hm:X.mg "zip"=none)(ha:PA X [a,b] ta)(hs:starEach [a,b] X.env=[(false,eval a X.env),(false,eval b X.env)]:=by rfl)(ku:starEach [b] X.env=[(false,eval b X.env)]:=by rfl) :
  PI X (.Tuple elts k sC) (.Call (.Name "zip" p) [a,b] [] pos) (QI X.K ta):=by
 intro pins s σ H R I h;refine Call_ (oO I hg hm boot_zip (vQ (aG (ha pos pins s σ H _ I h) fun us s1 ⟨vs,H1,I1,r1,q1⟩=>?_) (by rw [hs,ku]) (by rw [ku];rfl)))
 obtain ⟨l1,l2,e,⟨xs,iH⟩,⟨ys,lM⟩,q⟩:=q1;subst e;cases r1 with
 | cons r rr=>
  cases rr with
  | cons r' rr=>
   cases rr;cases r;cases r';obtain ⟨aq,rv,p1,_⟩:=I1.list iH;obtain ⟨IP,zF,p2,_⟩:=I1.list lM;have b1:l1<s1.heap.objs.size:=by obtain ⟨o,e,_⟩:=p1.isList;exact bV e
   have b2:l2<s1.heap.objs.size:=by obtain ⟨o,e,_⟩:=p2.isList;exact bV e
   refine call_zip_2 p1.isList p2.isList fun h' z1 z2 z3 z4 z5 z6 z7=>?_;refine wpAny_pyIter_zip (s:={s1 with heap:=h'}) z1 ?_;have D:ZipApart (s1.heap.objs.size+4) (s1.heap.objs.size+2) (s1.heap.objs.size+3) s1.heap.objs.size (s1.heap.objs.size+1) l1 l2:=by constructor <;> (intro h;have h:@Eq Nat _ _:=h;have b1:@LT.lt Nat _ l1 s1.heap.objs.size:=b1;have b2:@LT.lt Nat _ l2 s1.heap.objs.size:=b2;lia)
   refine ⟨_,_,_,_,H1,rfl,I1.kept (t':=s1.toks) z7,QF D,⟨z1,z2,⟨_,_,z3⟩,z4,z5⟩,fun b hb=>?_,q⟩;have le:s1.heap.objs.size≤b:=by
    simp only [dR,j9,j_] at hb;rcases hb with rfl | rfl | rfl | rfl | rfl;·exact oF ..
    ·exact oF ..
    ·exact oF ..
    ·exact aJ _
    ·exact oF ..
   exact I1.sD le (I1.aC.fresh le)
end
section
variable {prog:Program} {w:World} {A:Around} {R:Result→Shared→Prop} {s:Shared}
theorem IQ{elt target iter:Expr}{ifs:List Expr}{scope:Scope}{pos:Pos}{it acc:Value}{env:Env}(I:Nat→Shared→Prop)
  (turn:∀n s,I n s→wpAny (model prog w) A (pyNext it) (fun r s₁=>match r with
   | none=>R (.ok .next) s₁
   | some v=>wpAny (model prog w) A (letOwnedTupleGo target it v) (fun _ s₁=>wpAny (model prog w) A (assign target env v) (fun _ s₂=>
     wpAny (model prog w) A (forIn ifs true fun c r=>if r=true then do let ok ←isTrue c env (eval c env);pure (ForInStep.yield ok) else pure (ForInStep.yield r)) (fun ok s₃=>
      if ok=true then wpAny (model prog w) A (eval elt env) (fun x s₄=>
       wpAny (model prog w) A (call (.builtin "list.append") [acc,x]) (fun _ s₅=>∃m,m<n∧I m s₅) (notedBy (model prog w) A env fun e s'=>R (.error e) s') s₄) (notedBy (model prog w) A env fun e s'=>R (.error e) s') s₃
      else ∃m,m<n∧I m s₃) (notedBy (model prog w) A env fun e s'=>R (.error e) s') s₂) (notedBy (model prog w) A env fun e s'=>R (.error e) s') s₁) (notedBy (model prog w) A env fun e s'=>R (.error e) s') s₁) (notedBy (model prog w) A env fun e s'=>R (.error e) s') s)
  (n:Nat) (h:I n s):codeAny (model prog w) A (.compLoop (.ListComp elt [⟨target,iter,ifs,0⟩] scope pos) 0 it acc env) R s:=by
 refine codeAny_loop rfl I (fun n s hI=>?_) n h
 show wpAny _ A ((compTurn (.ListComp elt [⟨target,iter,ifs,0⟩] scope pos) 0 it acc env).onRaise (fun x=>do noteFrame x env;theTreesLotGoes x)) _ _ s
 refine wpAny_noted ?_
 rw [compTurn_list]
 refine cC (vO (cC (cm (turn n s hI) (fun r s₁ h₁=>?_) fun _ _ h'=>h')))
 cases r with
 | none=>exact d_ h₁
 | some v=>
  refine cC (cm h₁ (fun _ s₁ h₁=>?_) fun _ _ h'=>h')
  refine cC (cm h₁ (fun _ s₂ h₂=>cC (cm h₂ (fun ok s₃ h₃=>?_) fun _ _ h'=>h')) fun _ _ h'=>h')
  cases ok with
  | false=>exact d_ ⟨rfl,h₃⟩
  | true=>
   exact cC (cC (cm h₃ (fun x s₄ h₄=>cC (cm h₄ (fun _ s₅ h₅=>d_ (d_ ⟨rfl,h₅⟩)) fun _ _ h'=>h')) fun _ _ h'=>h'))
end
def tD(K:aF)(wi:TI)(ρ:St→St)(tt:TT)(te:TE):TE:=fun σ H Q=>wi σ H fun J H1=>∀D,H1 D=none→∃W:Nat→Nat→List V→Hp→Prop,(∃m,W 0 m [] (upd H1 D (.lst []))) ∧
 ∀i m ys Hc,W i m ys Hc→Hc D=some (.lst ys)∧((J.stop i Hc∧Q (.ref D) Hc)∨(J.go i Hc∧∀v H',J.eW i Hc v H'→∃T x1 x2,v=.ref T∧eo K H' T [x1,x2]∧tt (some x1::some x2::ρ σ) H' fun b H2=>
  if b=true then te (some x1::some x2::ρ σ) H2 fun y H3=>H3 D=some (.lst ys)∧ys.length<sizeLine∧∃m',m'<m∧W (i+1) m' (ys++[y]) (upd H3 D (.lst (ys++[y]))) else ∃m',m'<m∧W (i+1) m' ys H2))
section
variable {X:Cx} {N:List Str} {scope:Scope} {cl:List (Str×Addr)} {x y:Str} {px py pos tp:Pos} {jL:Nat} {iter elt:Expr} {ifs:List Expr} {wi:TI} {ρ:St→St} {tt:TT} {te:TE}
structure Dw (X:Cx) (N:List Str) (scope:Scope) (cl:List (Str×Addr)) (x y:Str) (ρ:St→St):Prop where
 wW:closureFor scope X.env=pure cl
 kind:scope.kind=.function
 wX:∀y∈scope.names,y.2≠.cell
 names:∀y∈scope.names,y.2=.local→scope.names.lookup y.1=some .local
 sub:∀p∈cl,X.env.cells.lookup p.1=some p.2
 has:∀y,((relabel scope X.env).names.lookup y=some .cell∨(relabel scope X.env).names.lookup y=some .free)→∃c,cl.lookup y=some c
 n0:N[0]?=some x
 n1:N[1]?=some y
 nd:N.Nodup
 hx:scope.names.lookup x=some .local
 hy:scope.names.lookup y=some .local
 wY:∀(σ:St) (j:Nat) (v:V),(ρ σ)[j]?=some (some v)→∃(i:Nat) (y:Str),N[j+1+1]?=some y∧X.N[i]?=some y∧σ[i]?=some (some v)∧mO X.env.scope y∧(X.env.kindOf y=some .cell∨X.env.kindOf y=some .free)∧((relabel scope X.env).names.lookup y=some .cell∨(relabel scope X.env).names.lookup y=some .free)
 len:∀σ:St,σ.length=X.N.length→(ρ σ).length+1+1=N.length
theorem Dy(is:List Nat)(h1:closureFor scope X.env=pure cl)(h:zj X scope N.tail.tail is:=by repeat' first | exact True.intro | refine And.intro ⟨rfl,Or.inr (Or.inl rfl),.inl rfl,.inl rfl⟩ ?_)(h2:scope.kind=.function:=by rfl)(h3:∀y∈scope.names,y.2≠.cell:=by decide +kernel)(h4:∀y∈scope.names,y.2=.local→scope.names.lookup y.1=some .local:=by decide +kernel)(h5:∀p∈cl,X.env.cells.lookup p.1=some p.2:=by repeat' first | exact List.forall_mem_nil _ | refine yG.mpr ⟨rfl,?_⟩)(h6:((relabel scope X.env).names.all fun q=>(q.2 != .cell && q.2 != .free) || (cl.lookup q.1).isSome)=true:=by rfl)(h7:N[0]?=some x:=by rfl)(QJ:N[1]?=some y:=by rfl)(h8:N.Nodup:=by decide +kernel)(h9:scope.names.lookup x=some .local:=by rfl)(QK:scope.names.lookup y=some .local:=by rfl)(hr:∀σ:St,ρ σ=is.map fun i=>σ[i]?.join:=by exact fun _=>rfl)(hl:is.length+1+1=N.length:=by rfl):Dw X N scope cl x y ρ:=
 ⟨h1,h2,h3,h4,h5,Dg h6,h7,QJ,h8,h9,QK,fun σ j v e=>by rw [hr] at e;rw [←List.getElem?_tail,←List.getElem?_tail];exact Dh h σ j v e,fun σ _=>by rw [hr,aT];exact hl⟩
theorem IS(B:Dw X N scope cl x y ρ)(hc:X.calm=true)(hi:PI X (.Tuple [.Name x px,.Name y py] jL tp) iter wi)(ht:∀s₃ H₃ fp,kz (X.aX N scope cl s₃ H₃ fp) ifs tt)(he:∀s₃ H₃ fp,PE (X.aX N scope cl s₃ H₃ fp) elt te)
  (hs:∀x,foldedSetIterable iter X.env x=pure x:=by intro _;rfl):PE X (.ListComp elt [⟨.Tuple [.Name x px,.Name y py] jL tp,iter,ifs,0⟩] scope pos) (tD X.K wi ρ tt te):=by
 intro pins s σ H Q I h
 rw [eval_ListComp]
 refine yH (use:=none) rfl hs B.wW B.kind B.names (aG (hi pins s σ H _ I h) fun v s1 h1=>aG h1 fun sE s2 h2=>?_)
 obtain ⟨it,fp,tn,J,H2,rfl,I2,T,fZ,f2,q2⟩:=h2
 have nD:H2 s2.heap.objs.size=none:=I2.aC.fresh (aJ _)
 obtain ⟨W,⟨m0,w0⟩,turn⟩:=q2 _ nD
 refine vP (yI B.wX (by intro y hy;simp at hy) (fun h₁ fk fm=>?_) B.kind)
 dsimp only at fk fm ⊢
 generalize hD:s2.heap.objs.size=D at nD w0 turn fk fm ⊢
 generalize dO:({s2 with heap:=s2.heap.push {cls:=.type "list",dict:=none,data:=.seq ([]:List Value).toArray}}:Shared)=s3
 have I3:Inv X pins σ (upd H2 D (.lst [])) s3:=by
  subst hD dO
  exact I2.laid (t':=s2.toks) (fun b u e=>dj _ e) (aJ _) ⟨b9 _,[],_,.nil,gC _ rfl⟩
 have e3:s3.heap=s2.heap.push {cls:=.type "list",dict:=none,data:=.seq ([]:List Value).toArray}:=by rw [←dO]
 have fo:∀b o,s2.heap.get? b=some o→s3.heap.get? b=some o:=fun b o e=>by rw [e3];exact dj _ e
 rw [←e3] at fk fm ⊢
 have below:∀b o,s3.heap.get? b=some o→b≠s3.heap.objs.size:=fun b o e=>d9 (bV e)
 have dt:∀b o,s3.heap.get? b=some o→h₁.get? b=some o:=fun b o e=>fm.extBut b o (below b o e) (dj _ e)
 have gN:∀b∈fp,∃o,s2.heap.get? b=some o∧∀v,o.data≠.cell v:=T.obj _ _ fZ
 have pd:∀b∈fp,b≠D:=fun b hb z=>by
  obtain ⟨o,e,_⟩:=gN b hb
  rw [z,←hD] at e
  exact absurd (bV e) (gg _)
 have cU:∀y c,cl.lookup y=some c→X.env.cells.lookup y=some c:=fun y c e=>B.sub (y,c) (j4 e)
 have ph:=I3.so
 have eK:(X.aX N scope cl s3 (upd H2 D (.lst [])) fp).Ok:=by
  refine ⟨I.ok.mod,B.kind,I.ok.glob,I.ok.blt,aJ _,fun a b c e1 e2=>I.ok.inj a b c (cU a c e1) (cU b c e2),fun y hy=>B.has y hy,(fun _ _ z _=>absurd z dk),(fun _=>I.ok.hd hc),I.ok.frames,.inl rfl,fun b hb=>⟨?_,fun y c e z=>?_⟩,fun b o e=>?_,ae I.ok.gK I3.sz,fun b o e hb=>?_,fun b hb z=>?_,I3.stack,ph⟩
  ·obtain ⟨o,e,_⟩:=gN b hb
   exact below b o (fo b o e)
  ·exact (f2 b hb).2.2.2.2.1 y c (cU y c e) z
  ·exact I3.bs b o e
  ·rcases (f2 b hb).2.2.2.1 with z | z
   ·exact I.ok.mP b o e z
   ·exact absurd (dQ (bV e) (ae I.ok.gK z)) (gg _)
  ·rcases dR.mp (I3.si b z) with z | z
   ·exact (f2 b hb).2.1 z
   ·exact (f2 b hb).2.2.1 z
 have IB:∀tk:Nat,Inv (X.aX N scope cl s3 (upd H2 D (.lst [])) fp) [] (none::none::ρ σ) (upd H2 D (.lst [])) {s3 with heap:=h₁,toks:=tk}:=fun tk=>by
  refine ⟨eK,rfl,I3.bare,Un.kept dt,⟨_,fk,fun j y v e1 e2 e3=>?_⟩,fun y c e=>?_,?_,fun y c e=>I3.ix y c (cU y c e),(fun p hp=>nomatch hp),I3.aC.kept dt,?_⟩
  ·cases j with
   | zero=>cases e2
   | succ j=>
   cases j with
   | zero=>cases e2
   | succ j=>
    obtain ⟨i,y',a1,a2,a3,a4,a5,a6⟩:=B.wY σ j v e2
    have f_:N[j+1+1]?=some y:=e1
    rw [f_] at a1
    cases a1
    obtain ⟨m,hn,hl⟩:=I3.loc
    obtain ⟨u,r,l⟩:=hl i y v a2 a3 a4
    refine ⟨u,r,.inr ⟨a6,?_⟩⟩
    obtain ⟨c,ec⟩:=B.has y a6
    rcases l with ⟨k,_⟩ | ⟨_,c',jH,z⟩
    ·rcases a5 with q | q <;> (rw [k] at q;cases q)
    ·have:=cU y c ec
     rw [this] at jH
     cases jH
     obtain ⟨o,ho,hd⟩:=z
     exact ⟨c,ec,o,dt _ _ ho,hd⟩
  ·obtain ⟨v,o,ho,hd⟩:=I3.cell y c (cU y c e)
   exact ⟨v,o,dt _ _ ho,hd⟩
  ·exact I3.aC.fresh (aJ _)
  ·show (none::none::ρ σ).length=N.length
   rw [eQ,eQ]
   exact B.len σ I.len
 have fin:∀{σ':St} {H':Hp} {s':Shared},Inv (X.aX N scope cl s3 (upd H2 D (.lst [])) fp) [] σ' H' s'→Q (.ref D) H'→compPost (model X.prog X.w) X.A X.xe none (EP X pins σ Q) (.ref D) s3.heap.objs.size (.ok .next) s':=fun{σ' H' s'} J q=>by
  obtain ⟨m,hn,_⟩:=J.loc
  refine ⟨m,hn,fun h' fq=>⟨.ref D,H',?_,rfl,q⟩⟩
  have old:∀b o,s3.heap.get? b=some o→b≠s3.heap.objs.size:=below
  have u1:Un (cD X.stack) fp (upd H2 D (.lst [])) H' s3.heap h':=by
   refine ⟨fun b o e n hb hx=>?_,fun b o e n hb hx=>?_,J.base.free,fun b o e hx=>?_,J.base.gk,J.base.fY,J.base.gq⟩
   ·exact (fq.2 b (old b o e)).trans (J.base.keep b o e n hb hx)
   ·obtain ⟨sl,z⟩:=J.base.slot b o e n hb hx
    exact ⟨sl,(fq.2 b (old b o e)).trans z⟩
   ·obtain ⟨o',z⟩:=J.base.there b o e hx
    exact ⟨o',(fq.2 b (old b o e)).trans z⟩
  have pj:cL X.prog X.w H' h':=fun b u e=>by
   refine (J.aC b u e).g_ (fun c v hc z=>(fq.2 c fun y=>?_).trans z) (fun _ z=>z) fun _ _ z=>z
   have fr:=J.free
   have y':c=s3.heap.objs.size:=y
   rcases hc with hc | hc
   ·rw [←hc,y'] at e
    exact absurd (fr.symm.trans e) (by simp)
   ·rw [y'] at hc
    exact absurd (fr.symm.trans hc) (by simp)
  refine I3.kg (s':={s' with heap:=h'}) (ch:=fp) (J.os) u1 pj J.bare fun b hb=>?_
  obtain ⟨g0,g1,g2,g3,g4,g5⟩:=f2 b hb
  exact ⟨g3,g1,g4,g5⟩
 have fh:∀{H':Hp},(∀b∈fp,H' b=none)→∀b∈fp,kl (X.aX N scope cl s3 (upd H2 D (.lst [])) fp) [] H' b:=fun hn b hb=>by
  refine ⟨hn b hb,?_,?_,.inl hb,fun y c e z=>(f2 b hb).2.2.2.2.1 y c (cU y c e) z,fun p hp=>nomatch hp⟩
  ·obtain ⟨o,e,_⟩:=gN b hb
   exact below b o (fo b o e)
  ·exact eK.mQ b hb
 have loop:∀tk:Nat,codeAny (model X.prog X.w) X.A (.compLoop (.ListComp elt [⟨.Tuple [.Name x px,.Name y py] jL tp,iter,ifs,0⟩] scope pos) 0 (.ref it) (.ref D) (compEnvC scope cl s3.heap.objs.size X.env))
   (compPost (model X.prog X.w) X.A X.xe none (EP X pins σ Q) (.ref D) s3.heap.objs.size) {s3 with heap:=h₁,toks:=tk}:=fun tk=>by
  refine IQ (fun n s'=>∃i ys o o2 H',Inv (X.aX N scope cl s3 (upd H2 D (.lst [])) fp) [] (o::o2::ρ σ) H' s'∧tn i s'.heap∧(∀b∈fp,H' b=none)∧W i n ys H') ?_ m0
   ⟨0,[],none,none,_,IB tk,T.keep _ _ _ fZ fun b hb o e=>dt _ _ (fo _ _ e),fun b hb=>by rw [b7 (pd b hb)];exact (f2 b hb).1,w0⟩
  rintro n s4 ⟨i,ys,o,o2,H4,I4,jI,jJ,w4⟩
  obtain ⟨Di,pk⟩:=turn i n ys H4 w4
  rcases pk with ⟨stop,qn⟩ | ⟨go,step⟩
  ·refine cm (T.done (X.aX N scope cl s3 (upd H2 D (.lst [])) fp) rfl rfl rfl hc i [] s4 _ H4 (fun _ _=>False) I4 (fh jJ) jI stop) (fun r s5 ⟨hr,I5⟩=>?_) fun _ _ z=>z.elim
   subst hr
   exact fin I5 qn
  ·refine cm (T.item (X.aX N scope cl s3 (upd H2 D (.lst [])) fp) rfl rfl rfl hc i [] s4 _ H4 (fun _ _=>False) I4 (fh jJ) jI go) (fun r s5 ⟨u,hr,h5⟩=>?_) fun _ _ z=>z.elim
   subst hr
   refine cm h5 (fun _ s5 ⟨y0,H5,I5,r5,y5,fi,lI⟩=>?_) fun _ _ z=>z.elim
   obtain ⟨Tt,x1,x2,e0,Dz,pz⟩:=step y0 _ y5
   subst e0
   have lJ:=I5.pinned (fh lI) (T.obj _ _ fi)
   have pg:PG (X.aX N scope cl s3 (upd H2 D (.lst [])) fp) (.Tuple [.Name x px,.Name y py] jL tp) (CJ X.K 2 (wy (bE 0) (wy (bE 1) CH))):=
    wF (X:=X.aX N scope cl s3 (upd H2 D (.lst [])) fp) hc (kj (eE (i:=0) B.nd B.n0 (.inl (iU B.hx)) (.inr (iU B.hx))) (kj (eE (i:=1) B.nd B.n1 (.inl (iU B.hy)) (.inr (iU B.hy))) wC))
   have again:∀{σ7:St} {H7:Hp} {s7:Shared},Inv (X.aX N scope cl s3 (upd H2 D (.lst [])) fp) ([]++i5 fp s5.heap) σ7 H7 s7→Inv (X.aX N scope cl s3 (upd H2 D (.lst [])) fp) [] σ7 H7 s7∧tn (i+1) s7.heap∧∀b∈fp,H7 b=none:=fun{σ7 H7 s7} I7=>by
    refine ⟨I7.oS,T.keep _ _ _ fi fun b hb o e=>(I7.pin (b,o) (dS _ (dS _ (kn hb e)))).1,fun b hb=>?_⟩
    obtain ⟨o,e,d⟩:=T.obj _ _ fi b hb
    exact (I7.pin (b,o) (dS _ (dS _ (kn hb e)))).2.1
   refine cm (pg _ s5 _ H5 (.ref Tt) u (fun σ2 H6=>σ2=some x1::some x2::ρ σ∧H6=H5) lJ r5 ⟨Tt,_,rfl,Dz,rfl,_,_,rfl,_,_,rfl,rfl,rfl,rfl⟩) (fun _ s6 ⟨σ6,H6,I6,q6⟩=>?_) fun _ _ z=>z.elim
   obtain ⟨rfl,rfl⟩:=q6
   have tests:∀{gO:TT},kz (X.aX N scope cl s3 (upd H2 D (.lst [])) fp) ifs gO→∀{R:Bool→Hp→Prop},gO (some x1::some x2::ρ σ) H6 R→wpAny (model X.prog X.w) X.A
     (forIn ifs true fun c r=>if r=true then do let ok ←isTrue c (compEnvC scope cl s3.heap.objs.size X.env) (eval c (compEnvC scope cl s3.heap.objs.size X.env));pure (ForInStep.yield ok) else pure (ForInStep.yield r))
     (fun ok s7=>∃H7,Inv (X.aX N scope cl s3 (upd H2 D (.lst [])) fp) ([]++i5 fp s5.heap) (some x1::some x2::ρ σ) H7 s7∧R ok H7) (fun _ _=>False) s6:=fun{gO} p {R} hR=>by
    cases p with
    | nil=>exact yJ ⟨_,I6,hR⟩
    | one p=>exact yK (p _ s6 _ _ _ I6 hR)
   refine cm (tests (ht s3 _ fp) pz) (fun ok s7 ⟨H7,I7,q7⟩=>?_) fun _ _ z=>z.elim
   cases ok with
   | false=>
    obtain ⟨m',gP,w7⟩:=q7
    obtain ⟨a1,a2,a3⟩:=again I7
    exact ⟨m',gP,i+1,ys,_,_,H7,a1,a2,a3,w7⟩
   | true=>
    refine cm (he s3 _ fp _ s7 _ H7 _ I7 q7) (fun ev s8 ⟨z,H8,I8,r8,pA,hz,m',gP,w8⟩=>?_) fun _ _ z=>z.elim
    refine cm (wO (X:=X.aX N scope cl s3 (upd H2 D (.lst [])) fp) _ s8 _ H8 (.ref D) [z] (.ref D) [ev] (fun _ H9=>H9=upd H8 D (.lst (ys++[z]))) I8 rfl (.cons r8 .nil) ⟨D,ys,z,rfl,rfl,pA,hz,rfl⟩) (fun _ s9 ⟨_,H9,I9,_,q9⟩=>?_) fun _ _ z=>z.elim
    subst q9
    obtain ⟨a1,a2,a3⟩:=again I9
    exact ⟨m',gP,i+1,ys++[z],_,_,_,a1,a2,a3,w8⟩
 have start:=loop (s3.toks+([]:List (Str×Value)).length)
 have es:({s3 with heap:=h₁,toks:=s3.toks+([]:List (Str×Value)).length}:Shared)={s2 with heap:=h₁,toks:=s2.toks+([]:List (Str×Value)).length}:=by rw [←dO]
 rw [es] at start
 exact yL start (T.self _ 0 _ _ _ (T.keep _ _ _ fZ fun b hb o e=>dt _ _ (fo _ _ e)) start)
end
section
variable {X:Cx}
end
section
variable {M:Model} {A:Around} {E:b_} {s:Shared}
end
section
variable {X:Cx} {N:List Str} {scope:Scope} {cl:List (Str×Addr)} {x:Str} {px pos:Pos} {iter elt:Expr} {ifs:List Expr} {wi:TI} {ρ:St→St} {tt:TT} {te:TE}
end
def xa(K:aF)(H:Hp):Nat→V→V→Prop
 | 0,v,u=>v=u∧kv v=true
 | n+1,v,u=>(v=u∧kv v=true)∨∃a b xs ys,v=.ref a∧u=.ref b∧((bo K H a xs∧bo K H b ys)∨(eo K H a xs∧eo K H b ys))∧xs.length=ys.length∧∀(j:Nat) (x y:V),xs[j]?=some x→ys[j]?=some y→xa K H n x y
theorem IT{v:V}(h:kv v=true):sS v v=true:=by
 cases v with
 | aV=>rfl
 | bl b=>show (b == b)=true;simp
 | int i=>show (i == i)=true;simp
 | str x=>show (x == x)=true;simp
 | _=>cases h
theorem all_range(n:Nat):(List.range n).all (fun _=>true)=true:=by simp
section
variable {X:Cx} {pins:aZ} {σ:St} {H:Hp} {s:Shared}
theorem zG(I:Inv X pins σ H s):∀(n:Nat) (A:Around) (v u:V) (a b:Value),xa X.K H n v u→RelV v a→RelV u b→A.units+n<cLine→SeqAt.EqAt A s a b true
 | 0,A,v,u,a,b,h,ra,rb,hu=>by obtain ⟨rfl,hf⟩:=h;have z:=C2 (A:=A) (s:=s) ra rb hf hf;rw [IT hf] at z;exact z
 | n+1,A,v,u,a,b,h,ra,rb,hu=>by
  rcases h with ⟨rfl,hf⟩ | ⟨p,q,xs,ys,rfl,rfl,hs,hl,hi⟩
  ·have z:=C2 (A:=A) (s:=s) ra rb hf hf
   rw [IT hf] at z;exact z
  ·cases ra
   cases rb;by_cases pq:p=q
   ·subst pq
    exact SeqAt.EqAt.same _
   rcases hs with ⟨h1,h2⟩ | ⟨h1,h2⟩
   ·obtain ⟨us,r1,t1,_⟩:=I.list h1
    obtain ⟨vs,r2,t2,_⟩:=I.list h2;have l1:=r1.length;have l2:=r2.length;have z:=SeqAt.RcAt.lists (A:=A) (e:=fun _=>true) t1.isList t2.isList (by simp;lia) (by lia) (fun j z1 z2=>by
     have DA:j<us.length:=by simpa using z1
     have DB:j<vs.length:=by simpa using z2
     obtain ⟨x,ex⟩:∃x,xs[j]?=some x:=⟨xs[j],by simp [show j<xs.length by lia]⟩
     obtain ⟨y,ey⟩:∃y,ys[j]?=some y:=⟨ys[j],by simp [show j<ys.length by lia]⟩
     obtain ⟨x',mM,rx⟩:=r1.get ex;obtain ⟨y',pI,ry⟩:=r2.get ey;have e1:us.toArray[j]=x':=by simpa using (cV.mp mM).2
     have e2:vs.toArray[j]=y':=by simpa using (cV.mp pI).2
     rw [e1,e2];exact zG I n A.in1 x y x' y' (hi j x y ex ey) rx ry (by rw [yO];lia))
    rw [all_range] at z;exact SeqAt.EqAt.of_refs pq z
   ·obtain ⟨us,r1,t1,_⟩:=I.tuple h1
    obtain ⟨vs,r2,t2,_⟩:=I.tuple h2;have l1:=r1.length;have l2:=r2.length;have z:=SeqAt.RcAt.tuples (A:=A) (e:=fun _=>true) t1 t2 (by lia) (fun j z1 z2=>by
     have DA:j<us.length:=by simpa using z1
     have DB:j<vs.length:=by simpa using z2
     obtain ⟨x,ex⟩:∃x,xs[j]?=some x:=⟨xs[j],by simp [show j<xs.length by lia]⟩
     obtain ⟨y,ey⟩:∃y,ys[j]?=some y:=⟨ys[j],by simp [show j<ys.length by lia]⟩
     obtain ⟨x',mM,rx⟩:=r1.get ex;obtain ⟨y',pI,ry⟩:=r2.get ey;have e1:us.toArray[j]=x':=by simpa using (cV.mp mM).2
     have e2:vs.toArray[j]=y':=by simpa using (cV.mp pI).2
     rw [e1,e2];exact zG I n A.in1 x y x' y' (hi j x y ex ey) rx ry (by rw [yO];lia))
    have e3:(us.toArray.size == vs.toArray.size)=true:=by simp;lia
    rw [all_range,e3] at z;exact SeqAt.EqAt.of_refs pq z
end
section
variable {X:Cx}
def DC(K:aF)(n:Nat)(r:Bool):R2:=fun x y H Q=>∃a b xs ys,x=.ref a∧y=.ref b∧bo K H a xs∧bo K H b ys∧xs.length=ys.length∧(∀(j:Nat) (x y:V),xs[j]?=some x→ys[j]?=some y→xa K H n x y)∧Q (.bl r) H
variable {n:Nat}
theorem abZ(hu:X.A.units+64<cLine)(hn:n<60:=by decide):cE X (compareOp .Eq) (DC X.K n true):=by
 intro pins s σ H x y v u Q I rx ry h;obtain ⟨a,b,xs,ys,rfl,rfl,h1,h2,hl,hi,q⟩:=h;cases rx;cases ry;obtain ⟨us,r1,t1,_⟩:=I.list h1;obtain ⟨vs,r2,t2,_⟩:=I.list h2;have l1:=r1.length;have l2:=r2.length;refine SeqAt.eq_listAt (e:=fun _=>true) t1.isList t2.isList (by simp;lia) (by lia) (fun j z1 z2=>?_) ?_
 ·have DA:j<us.length:=by simpa using z1
  have DB:j<vs.length:=by simpa using z2
  obtain ⟨x,ex⟩:∃x,xs[j]?=some x:=⟨xs[j],by simp [show j<xs.length by lia]⟩
  obtain ⟨y,ey⟩:∃y,ys[j]?=some y:=⟨ys[j],by simp [show j<ys.length by lia]⟩
  obtain ⟨x',mM,rx⟩:=r1.get ex;obtain ⟨y',pI,ry⟩:=r2.get ey;have e1:us.toArray[j]=x':=by simpa using (cV.mp mM).2
  have e2:vs.toArray[j]=y':=by simpa using (cV.mp pI).2
  rw [e1,e2];exact zG I n X.A.in1 x y x' y' (hi j x y ex ey) rx ry (by rw [yO];lia)
 ·rw [all_range]
  exact ⟨.bl true,H,I,rfl,q⟩
theorem zH(hu:X.A.units+64<cLine)(hn:n<60:=by decide):cE X (compareOp .NotEq) (DC X.K n false):=by
 intro pins s σ H x y v u Q I rx ry h;obtain ⟨a,b,xs,ys,rfl,rfl,h1,h2,hl,hi,q⟩:=h;cases rx;cases ry;obtain ⟨us,r1,t1,_⟩:=I.list h1;obtain ⟨vs,r2,t2,_⟩:=I.list h2;have l1:=r1.length;have l2:=r2.length;refine SeqAt.RcNeAt.lists (e:=fun _=>true) t1.isList t2.isList (by simp;lia) (by lia) (fun j z1 z2=>?_) _ _ _ _ ?_
 ·have DA:j<us.length:=by simpa using z1
  have DB:j<vs.length:=by simpa using z2
  obtain ⟨x,ex⟩:∃x,xs[j]?=some x:=⟨xs[j],by simp [show j<xs.length by lia]⟩
  obtain ⟨y,ey⟩:∃y,ys[j]?=some y:=⟨ys[j],by simp [show j<ys.length by lia]⟩
  obtain ⟨x',mM,rx⟩:=r1.get ex;obtain ⟨y',pI,ry⟩:=r2.get ey;have e1:us.toArray[j]=x':=by simpa using (cV.mp mM).2
  have e2:vs.toArray[j]=y':=by simpa using (cV.mp pI).2
  rw [e1,e2];exact zG I n X.A.in1 x y x' y' (hi j x y ex ey) rx ry (by rw [yO];lia)
 ·rw [all_range]
  exact ⟨.bl false,H,I,rfl,q⟩
end
section
variable {X:Cx} {N:List Str} {scope:Scope} {cl:List (Str×Addr)} {x:Str} {px pos:Pos} {iter elt:Expr} {ifs:List Expr} {wi:TI} {ρ:St→St} {tt:TT} {te:TE}
end
structure zI (J:It) (zs:List (V×V)) (H1:Hp):Prop where
 go:∀i Hc,ai H1 Hc→i<zs.length→J.go i Hc
 eW:∀i Hc v H',ai H1 Hc→J.eW i Hc v H'→∃T x y,v=.ref T∧Hc T=none∧H'=upd Hc T (.tup [x,y])∧(i<zs.length→zs[i]?=some (x,y))
 stop:∀i Hc,ai H1 Hc→zs.length≤i→J.stop i Hc
theorem DD{a b:Addr}{ys:List V}(h1:bo K H1 a xs)(h2:bo K H1 b ys):zI (Du K a b) (xs.zip ys) H1 where
 go:=fun i Hc s hi=>by
  have hi:i<min xs.length ys.length:=by simpa using hi
  exact ⟨xs,ys,xs[i],ys[i],s.seq h1,s.seq h2,by simp [show i<xs.length by lia],by simp [show i<ys.length by lia]⟩
 eW:=fun i Hc v H' s y=>by obtain ⟨T,x,y,nT,ev,eH,hx⟩:=y;obtain ⟨e1,e2⟩:=hx xs ys (s.seq h1) (s.seq h2);exact ⟨T,x,y,ev,nT,eH,fun _=>by rw [Cq];exact ⟨e1,e2⟩⟩
 stop:=fun i Hc s hi=>by
  have hi:min xs.length ys.length≤i:=by simpa using hi
  exact ⟨xs,ys,s.seq h1,s.seq h2,by lia⟩
theorem QL{zs:List (V×V)}(iF:∀R:It→Hp→Prop,(∀J H1,ai H H1→zI J zs H1→R J H1)→wi σ H R)(hn:zs.length<sizeLine)
  (P:Nat→V→Prop)
  (step:∀i x y,zs[i]?=some (x,y)→∀(Hc:Hp) (R:VK),ai H Hc→(∀v H3,ai Hc H3→P i v→R v H3)→te (some x::some y::ρ σ) Hc R)
  (fin:∀D vs Hc,ai H Hc→vs.length=zs.length→(∀(i:Nat) (v:V),vs[i]?=some v→P i v)→Hc D=some (.lst vs)→Q (.ref D) Hc):tD K wi ρ (fun _ H Q=>Q true H) te σ H Q:=by
 refine iF _ fun J H1 s1 js=>?_;intro D nD;refine ⟨fun i m vs Hc=>m=zs.length-i∧i≤zs.length∧Hc D=some (.lst vs)∧ai H1 Hc∧vs.length=i∧∀(j:Nat) (v:V),vs[j]?=some v→P j v,⟨_,rfl,b9 _,av,kD (ai.refl H1) nD,rfl,fun j y e=>by simp at e⟩,?_⟩
 rintro i m vs Hc ⟨rfl,hi,eD,sH,el,hP⟩;refine ⟨eD,?_⟩;by_cases cN:i<zs.length
 ·refine .inr ⟨js.go i Hc sH cN,fun v H' hy=>?_⟩
  obtain ⟨T,x,y,ev,nT,eH,hx⟩:=js.eW i Hc v H' sH hy;subst ev eH;refine ⟨T,x,y,rfl,.of av,?_⟩;dsimp only;rw [ar rfl];have sT:ai Hc (upd Hc T (.tup [x,y])):=fun b o e=>by rw [b7 (fG e nT)];exact e
  refine step i x y (hx cN) _ _ (s1.trans (sH.trans sT)) fun w H3 s3 hp=>?_;have e3:=s3 _ _ (sT _ _ eD);refine ⟨e3,by lia,zs.length-(i+1),by lia,rfl,cN,av,kD (sH.trans (sT.trans s3)) nD,by simp [el],fun j v' e=>?_⟩
  by_cases hj:j<i;·exact hP j v' (by rw [ip (by lia)] at e;exact e)
  ·have hj:j=i:=by have:=(cV.mp e).1;simp at this;lia
   subst hj;have e':v'=w:=by rw [g8 (by lia),el,k8] at e;simpa using e.symm
   subst e';exact hp
 ·have e:i=zs.length:=by lia
  subst e;exact .inl ⟨js.stop _ Hc sH (aJ _),fin D vs Hc (s1.trans sH) el hP eD⟩
theorem pJ(iF:∀R:It→Hp→Prop,(∀J H1,ai H H1→tq J xs H1→R J H1)→wi σ H R)(hn:xs.length<sizeLine)
  (P:Addr→Nat→V→Hp→Prop) (mono:∀D i y H H' ys,P D i y H→H D=some (.lst ys)→(∀b o,b≠D→H b=some o→H' b=some o)→P D i y H')
  (step:∀D i x,xs[i]?=some x→∀(Hc:Hp) (R:VK),ai H Hc→(∃ys,Hc D=some (.lst ys))→(∀y H3,ai Hc H3→P D i y H3→R y H3)→te (some x::ρ σ) Hc R)
  (fin:∀D ys Hc,H D=none→ai H Hc→ys.length=xs.length→(∀(i:Nat) (y:V),ys[i]?=some y→P D i y Hc)→Hc D=some (.lst ys)→Q (.ref D) Hc):pb wi ρ (fun _ H Q=>Q true H) te σ H Q:=by
 refine iF _ fun J H1 s1 js=>?_;intro D nD;have hD:H D=none:=by
  cases e:H D with
  | none=>rfl
  | some o=>rw [s1 _ _ e] at nD;cases nD
 exact IM (ρσ:=ρ σ) (te:=te) (Q:=Q) js nD hn (P D) (mono D) (fun i x hx Hc R sc=>step D i x hx Hc R (s1.trans sc)) (fun ys Hc sc=>fin D ys Hc hD (s1.trans sc))
section
variable {X:Cx} {K:aF}
theorem zJ(hK:X.K=K:=by rfl):sQ X (H_ K):=by subst hK;exact a9
theorem QM(hK:X.K=K:=by rfl):sQ X (HZ K):=by subst hK;exact bQ
end
end L2
namespace My
open PySem L2
variable {te:TE} {σ:St} {H:Hp} {Q:VK}
theorem QN{r:List V→Hp→VK→Prop}(h:te σ H fun x H1=>r [x] H1 Q):CY r (cX te fH) σ H Q:=h
theorem xb{D:Ends}(h:te σ H D.rt):CD te D σ H:=h
theorem QO{t:TA}(h:te σ H fun x H1=>t σ H1 fun xs H2=>(x::xs).length≤sizeLine∧∀p,H2 p=none→Q (.ref p) (upd H2 p (.tup (x::xs)))):HL (cX te t) σ H Q:=h
theorem zK{vs:List V}{ws:List Int}(hl:vs.length=ws.length)(h:∀(i:Nat) (v:V),vs[i]?=some v→∃w,ws[i]?=some w∧v=.int w):vs=ws.map V.int:=by
 refine yP fun i=>?_;rw [fV];by_cases hi:i<vs.length
 ·obtain ⟨w,e1,e2⟩:=h i vs[i] (by simp [hi])
  rw [e1,show vs[i]?=some vs[i] by simp [hi],e2]
  rfl
 ·rw [k9 (by lia),k9 (by lia)]
  rfl
def IU(H0 H:Hp)(v:V)(ts:List Int)(B:Int):Prop:=∃tp l:Addr,v=.ref tp∧H tp=some (.tup [.ref l,.int B])∧H l=some (.lst (ts.map V.int))∧H0 l=none
variable {b:Int}
theorem QP{m:Int}(hb:1≤b)(hm:1≤m):1≤b / (Int.gcd b m:Int)*m∧m∣b / (Int.gcd b m:Int)*m∧b∣b / (Int.gcd b m:Int)*m∧(b / (Int.gcd b m:Int)*m).natAbs≤b.natAbs*m.natAbs:=by
 have gp:=pD (a:=b) (b:=m) (by lia)
 obtain ⟨b',eb⟩:=vW (a:=b) (b:=m);obtain ⟨m',em⟩:=oE (a:=b) (b:=m);generalize Int.gcd b m=g at *;have g0:(g:Int)≠0:=by lia
 have gb:b / (g:Int)=b':=by rw [eb];exact mF _ g0
 rw [gb];have b0:0<b':=w5 (u:=(g:Int)) (by lia) (by rw [←eb];lia)
 have mp:0<b'*m:=Int.mul_pos b0 (by lia)
 refine ⟨by lia,vZ ..,⟨m',?_⟩,?_⟩
 ·rw [em,eb]
  simp only [ir,j7,Int.mul_left_comm]
 ·rw [a8]
  refine gi _ ?_;rw [←gb];exact mE ..
theorem pick{α β:Type}{xs:List α}{R:Nat→α→β→Prop}(h:∀(i:Nat) (x:α),xs[i]?=some x→∃w,R i x w):∃ws:List β,ws.length=xs.length∧∀(i:Nat) (x:α) (w:β),xs[i]?=some x→ws[i]?=some w→R i x w:=by
 refine ⟨List.ofFn fun i:Fin xs.length=>Classical.choose (h i.1 xs[i.1] (by simp)),by simp,fun i x w hx hw=>?_⟩
 have hi:i<xs.length:=(cV.mp hx).1;have ex:xs[i]=x:=(cV.mp hx).2;rw [List.getElem?_ofFn,dif_pos hi] at hw;have hw:=Option.some.inj hw;rw [←hw];have z:=Classical.choose_spec (h i xs[i] (by simp [hi]))
 rw [←ex];exact z
variable {q:Int}
theorem dY{c:Int}(hq:ax q)(h1:¬q∣b)(h2:¬q∣c):¬q∣b*c:=fun h=>by
 rcases hq with rfl | ⟨q2,q3,q4⟩
 ·have z:=gG.mp h
  rcases Int.mul_eq_zero.mp z with z | z;·exact h1 (by rw [z];exact iW 0)
  ·exact h2 (by rw [z];exact iW 0)
 ·have k1:=dA c (show q≠0 by lia)
  have k2:=dN c (show 0<q by lia)
  have k3:c % q≠0:=fun z=>h2 (Cp z);have g:=Dq q2 q3 q4 (show 1≤c % q by lia) k2
  obtain ⟨w,ew⟩:=zC c q;exact h1 (IJ q2 (QA g ⟨-w,by rw [gF];lia⟩) h)
def aY(q:Int)(b:Int):Prop:=(q=0→1≤b)∧(q≠0→b=1)
theorem QR{vs:List V}{b:Bool}(h:∀(i:Nat) (v:V),vs[i]?=some v→v=.bl b):vs=(List.replicate vs.length b).map V.bl:=by
 refine yP fun i=>?_;rw [fV];by_cases hi:i<vs.length
 ·rw [show vs[i]?=some vs[i] by simp [hi],h i vs[i] (by simp [hi])]
  simp [hi]
 ·rw [k9 (by lia),k9 (by simp;lia)]
  rfl
theorem QS(n:Nat):(List.replicate n true).all id=true:=by simp
theorem none_of{H':Hp}{b:Addr}(s:ai H H')(h:H' b=none):H b=none:=by
 cases e:H b with
 | none=>rfl
 | some o=>rw [s _ _ e] at h;cases h
theorem IV{K:aF}{v u:V}{t t' b':Int}(hv:kC H q v t b)(hu:kC H q u t' b')(e:t*b'=t'*b)(n:Nat):xa K H (n+1) v u:=by
 rcases QC hv hu e with ⟨p,p',x,m,rfl,rfl,e1,e2⟩ | ⟨i,rfl,rfl⟩
 ·refine .inr ⟨p,p',_,_,rfl,rfl,.inr ⟨.of e1,.of e2⟩,rfl,fun j x y h1 h2=>?_⟩
  rw [h1] at h2;cases h2;have hf:kv x=true:=by
   match j,h1 with
   | 0,h1=>cases h1;rfl
   | 1,h1=>cases h1;rfl
   | j+2,h1=>cases h1
  cases n with
  | zero=>exact ⟨rfl,hf⟩
  | succ n=>exact .inl ⟨rfl,hf⟩
 ·exact .inl ⟨rfl,rfl⟩
end My
namespace Srs
abbrev Row:=Nat→Int
def dh(c:Nat)(F:List Row→Int):List Row→List Row→Int
 | _,[]=>0
 | pre,r::post=>r c*F (pre++post)-dh c F (pre++[r]) post
def det:List Nat→List Row→Int
 | [],[]=>1
 | [],_::_=>0
 | c::cs,rows=>dh c (det cs) [] rows
def jb(a b:Int)(x y:Row):Row:=fun i=>a*x i+b*y i
def DE(F:List Row→Int):Prop:=∀(A B:List Row) (x y:Row) (a b:Int),F (A++jb a b x y::B)=a*F (A++x::B)+b*F (A++y::B)
def Alt(F:List Row→Int):Prop:=∀(A B:List Row) (x:Row),F (A++x::x::B)=0
section
variable {F:List Row→Int} {c:Nat} {x y:Row} {a b:Int}
theorem IW(hF:DE F)(P:List Row):∀(rows Q:List Row),dh c F (P++jb a b x y::Q) rows=a*dh c F (P++x::Q) rows+b*dh c F (P++y::Q) rows
 | [],Q=>by simp [dh]
 | r::post,Q=>by have h1:=hF P (Q++post) x y a b;have h2:=IW hF P post (Q++[r]);simp only [dh,iq,iX] at *;rw [h1,h2];grind
theorem IY(hF:DE F)(B:List Row):∀(A P:List Row),dh c F P (A++jb a b x y::B)=a*dh c F P (A++x::B)+b*dh c F P (A++y::B)
 | [],P=>by have h:=IW (c:=c) (x:=x) (y:=y) (a:=a) (b:=b) hF P B [];simp only [fC,dh];rw [h];unfold jb;grind
 | r::A,P=>by have h1:=hF (P++A) B x y a b;have h2:=IY hF B A (P++[r]);simp only [dh,iq,iX] at *;rw [h1,h2];grind
theorem IZ(hF:Alt F)(P:List Row):∀(rows Q:List Row),dh c F (P++x::x::Q) rows=0
 | [],Q=>by simp [dh]
 | r::post,Q=>by have h1:=hF P (Q++post) x;have h2:=IZ hF P post (Q++[r]);simp only [dh,iq,iX] at *;rw [h1,h2];simp
theorem I0(hF:Alt F)(B:List Row):∀(A P:List Row),dh c F P (A++x::x::B)=0
 | [],P=>by have h:=IZ (c:=c) (x:=x) hF P B [];simp only [fC,dh,iq,iX] at *;rw [h];lia
 | r::A,P=>by have h1:=hF (P++A) B x;have h2:=I0 hF B A (P++[r]);simp only [dh,iq,iX] at *;rw [h1,h2];simp
theorem I_:∀(rows P:List Row),(∀r∈rows,r c=0)→dh c F P rows=0
 | [],P,_=>rfl
 | r::post,P,h=>by rw [dh,h r kZ,I_ post _ fun r' hr=>h r' (gZ _ hr)];simp
end
theorem xc:∀cs,DE (det cs)
 | []=>fun A B x y a b=>by cases A <;> simp [det]
 | c::cs=>fun A B x y a b=>IY (xc cs) B A []
theorem tE:∀cs,Alt (det cs)
 | []=>fun A B x=>by cases A <;> rfl
 | c::cs=>fun A B x=>I0 (tE cs) B A []
variable {r:Row}
theorem Ja{c:Nat}{cs:List Nat}{rows:List Row}(h:∀r'∈rows,r' c=0):det (c::cs) (r::rows)=r c*det cs rows:=by show dh c (det cs) [] (r::rows)=_;rw [dh,I_ rows _ h,fC];lia
theorem QT(cs:List Nat)(A B:List Row)(x y:Row):det cs (A++x::y::B)=-det cs (A++y::x::B):=by have h:=tE cs A B (jb 1 1 x y);have l:=xc cs;rw [l A (jb 1 1 x y::B) x y 1 1] at h;have e1:=l (A++[x]) B x y 1 1;have e2:=l (A++[y]) B x y 1 1;simp only [iq,List.singleton_append] at e1 e2;rw [e1,e2,tE cs A B x,tE cs A B y] at h;lia
def nd(cs:List Nat)(rows:List Row):Nat:=(det cs rows).natAbs
section
variable {cs:List Nat}
theorem QU(A B:List Row)(x y:Row):nd cs (A++x::y::B)=nd cs (A++y::x::B):=by unfold nd;rw [QT,Int.natAbs_neg]
theorem xf(x:Row)(B:List Row):∀(L A:List Row),nd cs (A++(L++x::B))=nd cs (A++x::(L++B))
 | [],A=>rfl
 | y::L,A=>by have h:=xf x B L (A++[y]);simp only [iq,fC,iX] at h ⊢;rw [h,QU]
theorem Jb(B L:List Row):∀(M A:List Row),nd cs (A++(L++(M++B)))=nd cs (A++(M++(L++B)))
 | [],A=>rfl
 | x::M,A=>by have h:=Jb B L M (A++[x]);simp only [iq,fC,iX] at h ⊢;rw [xf,h]
theorem QV{A B:List Row}{y:Row}(h:y∈A∨y∈B):det cs (A++y::B)=0:=by
 refine Int.natAbs_eq_zero.mp (show nd cs (A++y::B)=0 from ?_);rcases h with h | h
 ·obtain ⟨A1,A2,rfl⟩:=List.append_of_mem h
  have m:=xf (cs:=cs) y B A2 (A1++[y]);simp only [iq,fC,iX] at m ⊢;rw [m];unfold nd;rw [tE];rfl
 ·obtain ⟨B1,B2,rfl⟩:=List.append_of_mem h
  have m:=xf (cs:=cs) y B2 B1 (A++[y]);simp only [iq,fC,iX] at m ⊢;rw [m];unfold nd;rw [tE];rfl
end
def comb:List (Int×Row)→Row
 | []=>fun _=>0
 | p::l=>fun i=>p.1*p.2 i+comb l i
theorem Jc{cs:List Nat}{A B:List Row}{x:Row}{a:Int}:∀(l:List (Int×Row)),(∀p∈l,p.2∈A∨p.2∈B)→det cs (A++(fun i=>a*x i+comb l i)::B)=a*det cs (A++x::B)
 | [],_=>by
  have e:(fun i=>a*x i+comb [] i)=jb a 0 x x:=by funext i;simp [comb,jb]
  rw [e,xc];lia
 | p::l,h=>by
  have e:(fun i=>a*x i+comb (p::l) i)=jb 1 p.1 (fun i=>a*x i+comb l i) p.2:=by
   funext i
   simp only [comb,jb];lia
  rw [e,xc,Jc l fun p' hp=>h p' (gZ _ hp),QV (h p kZ)];lia
def sh(k:Nat)(r:Row):Row:=fun i=>if i<3*k then 0 else r (i-3*k)
theorem QW(k d:Nat)(r:Row):sh k (sh d r)=sh (k+d) r:=by
 funext i
 unfold sh;by_cases h:i<3*k;·rw [ar h,ar (by lia)]
 ·rw [ao h]
  by_cases h':i-3*k<3*d;·rw [ar h',ar (by lia)]
  ·rw [ao h',ao (by lia)]
   congr 1
   lia
theorem xg{k u:Nat}(h:k≤u):sh k r (3*u)=r (3*(u-k)):=by
 unfold sh;rw [ao (by lia)]
 congr 1
 lia
theorem QX(r:Row):sh 0 r=r:=by
 funext i
 unfold sh;rw [ao (by lia)]
 rfl
def b6(r:Row):Nat→List Row
 | 0=>[]
 | k+1=>sh k r::b6 r k
theorem nF{r:Row}:∀{n:Nat} {s:Row},s∈b6 r n↔∃k,k<n∧s=sh k r
 | 0,s=>by simp [b6]
 | n+1,s=>by
  rw [b6,dR,nF];constructor
  ·rintro (h | ⟨k,h,e⟩)
   ·exact ⟨n,by lia,h⟩
   ·exact ⟨k,by lia,e⟩
  ·rintro ⟨k,h,e⟩
   by_cases z:k=n;·exact .inl (by rw [e,z])
   ·exact .inr ⟨k,by lia,e⟩
def cols:Nat→Nat→List Nat
 | _,0=>[]
 | hi,k+1=>3*hi::cols (hi-1) k
def Red(a:Int)(f g h:Row)(d:Nat):Prop:=∃l:List (Int×Nat),(∀p∈l,p.2≤d)∧∀i,h i=a*f i+comb (l.map fun p=>(p.1,sh p.2 g)) i
theorem Jd(K:Nat)(g:Row):∀(l:List (Int×Nat)) (i:Nat),sh K (comb (l.map fun p=>(p.1,sh p.2 g))) i=comb (l.map fun p=>(p.1,sh (K+p.2) g)) i
 | [],i=>by unfold sh comb;simp
 | p::l,i=>by
  have h:=Jd K g l i;have e:sh K (sh p.2 g) i=sh (K+p.2) g i:=by rw [QW]
  simp only [rQ,comb];rw [←h,←e];unfold sh;by_cases z:i<3*K <;> simp [z,comb]
theorem DF{cs:List Nat}{a:Int}{f g h:Row}{d M:Nat}(red:Red a f g h d):∀(K:Nat) (A:List Row),K+d≤M→a.natAbs ^ K*nd cs (A++(b6 f K++b6 g M))=nd cs (A++(b6 h K++b6 g M))
 | 0,A,_=>by simp [b6]
 | K+1,A,hM=>by
  obtain ⟨l,hl,e⟩:=id red;have ih:=DF (cs:=cs) (M:=M) red K (A++[sh K h]) (by lia)
  simp only [iq,fC,iX,b6] at ih ⊢;rw [←ih];have eh:sh K h=fun i=>a*sh K f i+comb (l.map fun p=>(p.1,sh (K+p.2) g)) i:=by
   funext i
   rw [←Jd];unfold sh;by_cases z:i<3*K;·simp [z]
   ·simp only [ao z];exact e _
  have dc:=Jc (cs:=cs) (A:=A) (B:=b6 f K++b6 g M) (x:=sh K f) (a:=a) (l.map fun p=>(p.1,sh (K+p.2) g)) fun p hp=>by obtain ⟨p',QY,rfl⟩:=fE.mp hp;exact .inr (dS _ (nF.mpr ⟨K+p'.2,by have:=hl p' QY;lia,rfl⟩))
  rw [←eh] at dc;unfold nd;rw [dc,a8,fF];grind
theorem DG{g:Row}{m t:Nat}{H:List Row}(g0:∀u,m<u→g (3*u)=0):∀(p M hi cnt lO:Nat),hi+1=m+(M+p)→lO+p≤hi→(∀r∈H,∀u,lO<u→r (3*u)=0)→nd (cols hi (cnt+p)++[t]) (H++b6 g (M+p))=(g (3*m)).natAbs ^ p*nd (cols (hi-p) cnt++[t]) (H++b6 g M)
 | 0,M,hi,cnt,lO,_,_,_=>by simp
 | p+1,M,hi,cnt,lO,e1,e2,hH=>by
  have ih:=DG (t:=t) g0 p M (hi-1) cnt lO (by lia) (by lia) hH
  have mv:=xf (cs:=cols hi (cnt+(p+1))++[t]) (sh (M+p) g) (b6 g (M+p)) H [];rw [show b6 g (M+(p+1))=sh (M+p) g::b6 g (M+p) from rfl];rw [fC,fC] at mv;rw [mv];have pl:det (cols hi (cnt+(p+1))++[t]) (sh (M+p) g::(H++b6 g (M+p)))=g (3*m)*det (cols (hi-1) (cnt+p)++[t]) (H++b6 g (M+p)):=by
   have:=Ja (c:=3*hi) (cs:=cols (hi-1) (cnt+p)++[t]) (r:=sh (M+p) g) (rows:=H++b6 g (M+p)) fun r hr=>by
    rcases ik.mp hr with hr | hr;·exact hH r hr hi (by lia)
    ·obtain ⟨k,hk,rfl⟩:=nF.mp hr
     rw [xg (by lia)]
     exact g0 _ (by lia)
   rw [xg (by lia),show hi-(M+p)=m by lia] at this
   exact this
  unfold nd at ih ⊢;rw [pl,a8,ih,fF,show hi-1-p=hi-(p+1) by lia]
  grind
theorem DH{h:Row}{l t:Nat}(h0:∀u,l<u→h (3*u)=0):∀k,nd (cols (l+k) k++[t]) (b6 h (k+1))=(h (3*l)).natAbs ^ k*(h t).natAbs
 | 0=>by unfold nd b6 b6 cols;show (dh t (det []) [] [sh 0 h]).natAbs=_;rw [QX];simp [dh,det]
 | k+1=>by
  have ih:=DH h0 (t:=t) k;have pl:=Ja (c:=3*(l+(k+1))) (cs:=cols (l+k) k++[t]) (r:=sh (k+1) h) (rows:=b6 h (k+1)) fun r hr=>by
   obtain ⟨k',hk,rfl⟩:=nF.mp hr;rw [xg (by lia)]
   exact h0 _ (by lia)
  rw [xg (by lia),show l+(k+1)-(k+1)=l by lia] at pl
  unfold nd at ih ⊢;rw [show cols (l+(k+1)) (k+1)++[t]=3*(l+(k+1))::(cols (l+k) k++[t]) from rfl,show b6 h (k+1+1)=sh (k+1) h::b6 h (k+1) from rfl,pl,a8,ih,fF];grind
theorem Je{cs:List Nat}{c:Row}{e:Int}:∀(K:Nat) (A:List Row),nd cs (A++b6 (fun i=>e*c i) K)=e.natAbs ^ K*nd cs (A++b6 c K)
 | 0,A=>by simp [b6]
 | K+1,A=>by
  have ih:=Je (cs:=cs) (c:=c) (e:=e) K (A++[sh K fun i=>e*c i]);simp only [iq,fC,iX,b6] at ih ⊢;rw [ih];have es:(sh K fun i=>e*c i)=jb e 0 (sh K c) (sh K c):=by
   funext i
   unfold sh jb;by_cases z:i<3*K <;> simp [z]
  unfold nd;rw [es,xc,jt,oG,a8,fF];grind
def S(j:Nat)(f:Row)(n:Nat)(g:Row)(m t:Nat):Nat:=nd (cols (n+m-j-1) (n+m-2*j-1)++[t]) (b6 f (m-j)++b6 g (n-j))
section
variable {f g h:Row} {n m l j t:Nat} {a:Int}
theorem Jf(h0:∀u,l<u→h (3*u)=0)(K:Nat):∀r∈b6 h K,∀u,l+K-1<u→r (3*u)=0:=fun r hr u hu=>by
 obtain ⟨k,hk,rfl⟩:=nF.mp hr;rw [xg (by lia)]
 exact h0 _ (by lia)
theorem QZ(red:Red a f g h (n-m))(mn:m≤n)(g0:∀u,m<u→g (3*u)=0)(h0:∀u,l<u→h (3*u)=0)(lm:l<m)(jl:j<l):a.natAbs ^ (m-j)*S j f n g m t=(g (3*m)).natAbs ^ (n-l)*S j g m h l t:=by
 have r:=DF (cs:=cols (n+m-j-1) (n+m-2*j-1)++[t]) (M:=n-j) red (m-j) [] (by lia)
 rw [fC,fC] at r;have p:=DG (t:=t) (H:=b6 h (m-j)) g0 (n-l) (l-j) (n+m-j-1) (m+l-2*j-1) (l+(m-j)-1) (by lia) (by lia) (Jf h0 (m-j))
 rw [show m+l-2*j-1+(n-l)=n+m-2*j-1 by lia,show l-j+(n-l)=n-j by lia,show n+m-j-1-(n-l)=m+l-j-1 by lia] at p
 have s:=Jb (cs:=cols (m+l-j-1) (m+l-2*j-1)++[t]) [] (b6 h (m-j)) (b6 g (l-j)) [];simp only [fC,oB] at s;unfold S;rw [r,p,s]
theorem Jg(red:Red a f g h (n-m))(mn:m≤n)(g0:∀u,m<u→g (3*u)=0)(h0:∀u,l<u→h (3*u)=0)(lj:l≤j)(jm:j<m):a.natAbs ^ (m-j)*S j f n g m t=(g (3*m)).natAbs ^ (n-j)*nd (cols (m-1) (m-j-1)++[t]) (b6 h (m-j)):=by
 have r:=DF (cs:=cols (n+m-j-1) (n+m-2*j-1)++[t]) (M:=n-j) red (m-j) [] (by lia)
 rw [fC,fC] at r;have p:=DG (t:=t) (H:=b6 h (m-j)) g0 (n-j) 0 (n+m-j-1) (m-j-1) (l+(m-j)-1) (by lia) (by lia) (Jf h0 (m-j))
 rw [show m-j-1+(n-j)=n+m-2*j-1 by lia,v_,show n+m-j-1-(n-j)=m-1 by lia,show b6 g 0=[] from rfl,oB] at p
 unfold S;rw [r,p]
theorem Q0(red:Red ((g (3*m)) ^ (n-m+1)) f g h (n-m))(mn:m≤n)(m1:1≤m)(G:g (3*m)≠0)(g0:∀u,m<u→g (3*u)=0)(h0:∀u,m-1<u→h (3*u)=0):S (m-1) f n g m t=(h t).natAbs:=by
 have e:=Jg (t:=t) (l:=m-1) (j:=m-1) red mn g0 h0 (aJ _) (by lia)
 have p:=DH (t:=t) h0 0;rw [show m-(m-1)-1=0 by lia,show m-(m-1)=1 by lia] at e
 rw [Nat.add_zero,Nat.pow_zero,Nat.one_mul] at p;rw [p,rX,gH,show n-(m-1)=n-m+1 by lia] at e
 exact wa (ka (gE.mpr G)) e
end
def Ch(f:Row)(n0:Nat)(g:Row)(m0:Nat)(A:Row)(n:Nat)(B:Row)(m la ht:Nat):Prop:=∀j,j<m→∀t,S j A n B m t=la ^ (m-j)*ht ^ (n-j-1)*S j f n0 g m0 t
section
variable {f g A B C h:Row} {n0 m0 n m l la ht H:Nat}
theorem Q1:Ch f n0 g m0 f n0 g m0 1 1:=fun j _ t=>by simp
theorem Q2(c:Ch f n0 g m0 A n B m la ht)(red:Red ((B (3*m)) ^ (n-m+1)) A B h (n-m))(mn:m≤n)(m1:1≤m)(G:B (3*m)≠0)(g0:∀u,m<u→B (3*u)=0)(h0:∀u,m-1<u→h (3*u)=0)(t:Nat):(h t).natAbs=la*ht ^ (n-m)*S (m-1) f n0 g m0 t:=by rw [←Q0 (t:=t) red mn m1 G g0 h0,c (m-1) (by lia) t,show m-(m-1)=1 by lia,rX,show n-(m-1)-1=n-m by lia]
variable {G s gap e k:Nat}
theorem pw_next{S':Nat}(hG:0<G)(hl:0<la)(hh:0<ht)(he:e≤k)(hH:H*ht ^ gap=G ^ gap*ht)(q:(G ^ (gap+1)) ^ (k+1)*(la ^ (k+1)*ht ^ (gap+k)*s)=G ^ (gap+e)*((la*ht ^ gap) ^ (k+1)*S')):S'=G ^ (k+1-e)*H ^ k*s:=by
 have p1:0<G ^ (gap+e)*(la*ht ^ gap) ^ (k+1):=Nat.mul_pos (ka hG) (ka (Nat.mul_pos hl (ka hh)))
 refine wa p1 ?_
 rw [mH,←q]
 have e1:H ^ k*(ht ^ gap) ^ k=(G ^ gap) ^ k*ht ^ k:=by rw [←Nat.mul_pow,hH,Nat.mul_pow]
 have e2:G ^ (gap+e)*G ^ (k+1-e)=G ^ gap*(G ^ k*G):=by
  rw [←Nat.pow_add,←fF,←Nat.pow_add]
  congr 1
  lia
 have e3:(G ^ (gap+1)) ^ (k+1)=(G ^ gap) ^ k*G ^ gap*(G ^ k*G):=by rw [fF G gap,Nat.mul_pow,fF,fF]
 have e4:(la*ht ^ gap) ^ (k+1)=la ^ (k+1)*((ht ^ gap) ^ k*ht ^ gap):=by rw [Nat.mul_pow,fF (ht ^ gap)]
 rw [e3,e4,Nat.pow_add]
 calc _=(G ^ gap*(G ^ k*G))*la ^ (k+1)*ht ^ gap*((G ^ gap) ^ k*ht ^ k)*s:=by grind
  _=(G ^ (gap+e)*G ^ (k+1-e))*la ^ (k+1)*ht ^ gap*(H ^ k*(ht ^ gap) ^ k)*s:=by rw [e1,e2]
  _=_:=by grind
theorem Q3{e:Int}(c:Ch f n0 g m0 A n B m la ht)(hl:0<la)(hh:0<ht)(red:Red ((B (3*m)) ^ (n-m+1)) A B (fun i=>e*C i) (n-m))(he:e.natAbs=la*ht ^ (n-m))(mn:m≤n)(G:B (3*m)≠0)(g0:∀u,m<u→B (3*u)=0)(lm:l<m)(c0:∀u,l<u→C (3*u)=0)(hH:H*ht ^ (n-m)=(B (3*m)).natAbs ^ (n-m)*ht):Ch f n0 g m0 B m C l (B (3*m)).natAbs H:=fun j hj t=>by
 have s:=QZ (t:=t) red mn g0 (fun u hu=>by rw [c0 u hu,cJ]) lm hj
 have gm:=Je (cs:=cols (m+l-j-1) (m+l-2*j-1)++[t]) (c:=C) (e:=e) (m-j) (b6 B (l-j));have Q4:S j B m (fun i=>e*C i) l t=e.natAbs ^ (m-j)*S j B m C l t:=gm;rw [Q4,c j (by lia) t,he,gH] at s
 obtain ⟨k,hk⟩:∃k,m-j=k+1:=⟨m-j-1,by lia⟩
 have z:=pw_next (gap:=n-m) (e:=m-l) (k:=k) (gE.mpr G) hl hh (by lia) hH (by
  rw [hk,show n-j-1=n-m+k by lia,show n-l=n-m+(m-l) by lia] at s
  exact s)
 rw [z,show k+1-(m-l)=l-j by lia,show k=m-j-1 by lia]
theorem pw_high{e c:Nat}(hG:0<G)(hl:0<la)(hh:0<ht)(hH:H*ht ^ gap=G ^ gap*ht)(q:(G ^ (gap+1)) ^ (k+1)*(la ^ (k+1)*ht ^ (gap+k)*s)=G ^ (gap+(k+1))*((la*ht ^ gap) ^ (k+1)*c ^ (k+1))):s*H ^ k=c ^ (k+1):=by
 have z:=pw_next (e:=k) (S':=G*c ^ (k+1)) hG hl hh (aJ _) hH (by
  rw [q,show gap+(k+1)=gap+k+1 by lia,fF]
  grind)
 rw [show k+1-k=1 by lia,rX] at z
 have z:G*c ^ (k+1)=G*(s*H ^ k):=by rw [z];grind
 exact (wa hG z).symm
theorem Q5{e:Int}(c:Ch f n0 g m0 A n B m la ht)(hl:0<la)(hh:0<ht)(red:Red ((B (3*m)) ^ (n-m+1)) A B (fun i=>e*C i) (n-m))(he:e.natAbs=la*ht ^ (n-m))(mn:m≤n)(G:B (3*m)≠0)(g0:∀u,m<u→B (3*u)=0)(lm:l<m)(c0:∀u,l<u→C (3*u)=0)(hH:H*ht ^ (n-m)=(B (3*m)).natAbs ^ (n-m)*ht):S l f n0 g m0 (3*l)*H ^ (m-l-1)=(C (3*l)).natAbs ^ (m-l):=by
 have h0:∀u,l<u→(fun i=>e*C i) (3*u)=0:=fun u hu=>by show e*C (3*u)=0;rw [c0 u hu,cJ]
 have s:=Jg (t:=3*l) red mn g0 h0 (aJ l) lm;have p:=DH (h:=fun i=>e*C i) (l:=l) (t:=3*l) h0 (m-l-1);rw [show l+(m-l-1)=m-1 by lia,show m-l-1+1=m-l by lia] at p
 rw [p,c l lm,gH] at s;obtain ⟨k,hk⟩:∃k,m-l=k+1:=⟨m-l-1,by lia⟩
 have z:=pw_high (gap:=n-m) (k:=k) (c:=(C (3*l)).natAbs) (e:=0) (s:=S l f n0 g m0 (3*l)) (gE.mpr G) hl hh hH (by
  rw [hk,show n-l-1=n-m+k by lia,show n-l=n-m+(k+1) by lia] at s
  rw [s,←he];rw [a8,show k+1-1=k by lia,←fF,Nat.mul_pow])
 rw [hk,show k+1-1=k by lia]
 exact z
end
end Srs
namespace My
open PySem L2
def o1:Int×Int:=(0,1)
theorem getD_at{α:Type}{xs:List α}{d:α}{i:Nat}(hi:i<xs.length):xs.getD i d=xs[i]:=by
 rw [fD,show xs[i]?=some xs[i] by simp [hi]]
 rfl
def aS(q:Int)(p t:Int×Int):Prop:=q∣p.1*t.2-t.1*p.2
variable {q:Int}
theorem aS.refl(p:Int×Int):aS q p p:=⟨0,by rw [Int.sub_self,cJ]⟩
variable {t:Int×Int}
theorem aS.symm{p:Int×Int}(h:aS q p t):aS q t p:=by obtain ⟨k,e⟩:=h;exact ⟨-k,by rw [gF];lia⟩
variable {x:Int}
theorem aS.cancel{b:Int}(ok:aY q b)(h:q∣b*x):q∣x:=by
 by_cases z:q=0
 ·subst z
  have h0:=gG.mp h;have b1:=ok.1 rfl;rcases Int.mul_eq_zero.mp h0 with e | e;·lia
  ·rw [e];exact iW 0
 ·rw [ok.2 z,k_] at h
  exact h
theorem aS.trans{p s:Int×Int}(h1:aS q p t)(h2:aS q t s)(ok:aY q t.2):aS q p s:=by obtain ⟨k1,e1⟩:=h1;obtain ⟨k2,e2⟩:=h2;refine aS.cancel ok ⟨k1*s.2+k2*p.2,?_⟩;grind
def aQ:Nat→(Nat→Int)→Int
 | 0,_=>0
 | n+1,f=>f 0+aQ n fun i=>f (i+1)
theorem cY:∀{n:Nat} {f g:Nat→Int},(∀i,i<n→f i=g i)→aQ n f=aQ n g
 | 0,f,g,_=>rfl
 | n+1,f,g,h=>by unfold aQ;rw [h 0 (by lia),cY fun i hi=>h (i+1) (by lia)]
theorem zM:∀(n:Nat) (f g:Nat→Int),aQ n (fun i=>f i+g i)=aQ n f+aQ n g
 | 0,f,g=>rfl
 | n+1,f,g=>by show f 0+g 0+aQ n (fun i=>f (i+1)+g (i+1))=(f 0+aQ n fun i=>f (i+1))+(g 0+aQ n fun i=>g (i+1));rw [zM n];lia
theorem tF(c:Int):∀(n:Nat) (f:Nat→Int),c*aQ n f=aQ n fun i=>c*f i
 | 0,f=>by unfold aQ;rw [cJ]
 | n+1,f=>by unfold aQ;rw [j8,tF c n]
theorem jM:∀(n:Nat),aQ n (fun _=>0)=0
 | 0=>rfl
 | n+1=>by unfold aQ;rw [jM n];rfl
theorem Jh:∀(n j:Nat) (f:Nat→Int),j<n→aQ n (fun i=>if i=j then f i else 0)=f j
 | n+1,0,f,_=>by
  show (if (0:Nat)=0 then f 0 else 0)+aQ n (fun i=>if i+1=0 then f (i+1) else 0)=f 0
  rw [ar rfl,show (fun i=>if i+1=0 then f (i+1) else 0)=fun _=>(0:Int) from funext fun i=>ao (by lia),jM]
  lia
 | n+1,j+1,f,h=>by
  show (if (0:Nat)=j+1 then f 0 else 0)+aQ n (fun i=>if i+1=j+1 then f (i+1) else 0)=f (j+1)
  rw [ao (by lia),show (fun i=>if i+1=j+1 then f (i+1) else 0)=fun i=>if i=j then (fun i=>f (i+1)) i else 0 from funext fun i=>by by_cases z:i=j <;> simp [z],Jh n j (fun i=>f (i+1)) (by lia)]
  lia
variable {B:Nat} {H:Hp} {v:V}
theorem Ji(hB:1≤B){a:Int}(h:pE H q v a 1)(hq:ax q)(ha:a=0∨a=1):a7 B H q v a 1:=by
 rcases h with ⟨rfl,r,rfl,e⟩ | ⟨q2,r,rfl,r0,r1,er⟩
 ·rw [(IH a).1,(IH a).2] at e
  exact .bS e ⟨by decide,yN ..⟩ (by rcases ha with rfl | rfl <;> simp [hB]) (by simpa using hB)
 ·have q3:q≤997:=by rcases hq with z | ⟨_,z,_⟩ <;> lia
  rw [mG (show (0:Int)≤1 by decide) (show (1:Int)<q by lia),fU,mG r0 r1] at er
  have ea:a % q=a:=mG (by lia) (by lia)
  rw [ea] at er;subst er;exact .rem r0 r1 q3
theorem DI(hq:ax q):¬kB q 1:=fun h=>by
 unfold kB at h;rcases hq with rfl | ⟨q2,q3,q4⟩;·rw [ar rfl] at h;lia
 ·rw [ao (by lia),mG (by lia) (by lia)] at h;lia
theorem aY.mul{a b:Int}(h1:aY q a)(h2:aY q b):aY q (a*b):=⟨fun z=>by
  have:=Int.mul_pos (show 0<a by have:=h1.1 z;lia) (show 0<b by have:=h2.1 z;lia)
  lia,fun z=>by rw [h1.2 z,h2.2 z];rfl⟩
theorem aY.one:aY q 1:=⟨fun _=>by decide,fun _=>rfl⟩
def er(P:Addr)(H:Hp):Hp:=fun b=>if b=P then none else H b
variable {P:Addr}
theorem dZ:ai (er P H) H:=fun b o e=>by
 unfold er at e
 split at e
 ·cases e
 ·exact e
variable {b:Addr}
theorem pK(h:b≠P):er P H b=H b:=ao h
variable {o:HO}
theorem lR(h:b≠P)(e:H b=some o):er P H b=some o:=by rw [pK h];exact e
variable {H':Hp}
theorem xh(s:ai H H'):ai (er P H) (er P H'):=fun b o e=>by
 unfold er at e ⊢
 split at e
 ·cases e
 ·rename_i h
  rw [ao h];exact s _ _ e
theorem Jj:er P (upd H P o)=er P H:=funext fun b=>by
 unfold er
 split
 ·rfl
 ·rename_i h
  exact b7 h
def cS(H:Hp)(P a:Addr):Prop:=∃x y:Int,H P=some (.lst [.ref a,.int x,.int y])∧0≤x∧0≤y
theorem cS.mono{a:Addr}(h:cS H P a)(s:ai H H'):cS H' P a:=by obtain ⟨x,y,e,h1,h2⟩:=h;exact ⟨x,y,s _ _ e,h1,h2⟩
variable {D:Addr}
theorem cS.upd{a:Addr}(h:cS H P a)(n:D≠P):cS (L2.upd H D o) P a:=by obtain ⟨x,y,e,h1,h2⟩:=h;exact ⟨x,y,by rw [b7 n.symm];exact e,h1,h2⟩
theorem cS.ne{a:Addr}(h:cS H P a)(n:H D=none):D≠P:=fun z=>by obtain ⟨x,y,e,_⟩:=h;rw [z,e] at n;cases n
def aL(P:Addr)(H H':Hp):Prop:=ai (er P H) (er P H')
theorem aL.refl(H:Hp):aL P H H:=ai.refl _
theorem aL.trans{H2:Hp}(s:aL P H H')(t:aL P H' H2):aL P H H2:=ai.trans s t
theorem aL.of(s:ai H H'):aL P H H':=xh s
theorem aL.kH:aL P H (upd H P o):=by unfold aL;rw [Jj];exact ai.refl _
theorem aL.but(s:aL P H H')(n:H D=none):aL P H (upd H' D o):=fun b u e=>by
 have e0:=s b u e;have nb:b≠P:=fun z=>by unfold er at e;rw [ar z] at e;cases e
 rw [pK nb] at e e0 ⊢;rw [b7 (fG e n)];exact e0
theorem aL.at(s:aL P H H')(nb:b≠P)(e:H b=some o):H' b=some o:=by have z:=s b o (lR nb e);rw [pK nb] at z;exact z
def aE(B:Nat)(H:Hp)(q:Int)(a:Addr)(ps:aK):Prop:=∃vs:List V,H a=some (.lst vs)∧vs.length=ps.length∧∀(i:Nat) (v:V) (p:Int×Int),vs[i]?=some v→ps[i]?=some p→a7 B H q v p.1 p.2
variable {ps:aK}
theorem aE.mono{a:Addr}(h:aE B H q a ps)(s:ai H H'):aE B H' q a ps:=by obtain ⟨vs,e,l,k⟩:=h;exact ⟨vs,s _ _ e,l,fun i v p h1 h2=>(k i v p h1 h2).mono s⟩
variable {B':Nat} {m:Int}
theorem a7.weak(h:a7 B H q v x m)(hb:B≤B'):a7 B' H q v x m:=by
 cases h with
 | bS e l bx bm=>exact .bS e l (ae bx hb) (ae bm hb)
 | rem h0 h1 h2=>exact .rem h0 h1 h2
theorem aE.weak{a:Addr}(h:aE B H q a ps)(hb:B≤B'):aE B' H q a ps:=by obtain ⟨vs,e,l,k⟩:=h;exact ⟨vs,e,l,fun i v p h1 h2=>(k i v p h1 h2).weak hb⟩
variable {K:aF}
theorem ab0(hq:ax q){a:Addr}(h1:aE B H q a ps)(h2:aE B' H q b ps)(n:Nat):xa K H (n+2) (.ref a) (.ref b):=by
 obtain ⟨vs,e1,l1,f1⟩:=h1;obtain ⟨us,e2,l2,f2⟩:=h2;refine .inr ⟨a,b,vs,us,rfl,rfl,.inl ⟨.of e1,.of e2⟩,by lia,fun j x y hx hy=>?_⟩
 have hj:j<ps.length:=by rw [←l1];exact (cV.mp hx).1
 exact IV ((f1 j x ps[j] hx (by simp [hj])).zA hq) ((f2 j y ps[j] hy (by simp [hj])).zA hq) rfl n
variable {R:VK}
theorem xi(hq:ax q){a:Addr}{r:Bool}(h1:aE B H q a ps)(h2:aE B' H q b ps)(k:R (.bl r) H):DC K 1 r (.ref a) (.ref b) H R:=by
 obtain ⟨vs,e1,l1,f1⟩:=h1;obtain ⟨us,e2,l2,f2⟩:=h2;refine ⟨a,b,vs,us,rfl,rfl,.of e1,.of e2,by lia,fun j x y hx hy=>?_,k⟩
 have hj:j<ps.length:=by rw [←l1];exact (cV.mp hx).1
 exact IV ((f1 j x ps[j] hx (by simp [hj])).zA hq) ((f2 j y ps[j] hy (by simp [hj])).zA hq) rfl 0
theorem Jk{u:V}(hv:a7 B H q v x m)(hu:a7 B' H q u 0 1)(k:R (.bl (decide (x=0))) H):IF K v u H R:=by
 cases hv with
 | bS e l bx bm=>
  cases hu with
  | bS e' l' _ _=>
   refine .inr (.inr (.inl ⟨_,_,_,_,rfl,rfl,.of e,.of e',rfl,rfl,?_⟩));have z:(ia [V.int x,V.int m] [V.int 0,V.int 1])=decide (x=0):=by
    show ((x == 0) && ((m == 1) && true))=_;by_cases hx:x=0
    ·subst hx
     have:=l.zt;rw [Int.gcd_zero_left] at this;have:=l.pos;have:m=1:=by lia
     subst this;rfl
    ·rw [fS hx,show (x == 0)=false from vK.mpr hx]
     rfl
   show R (.bl (ia [V.int x,V.int m] [V.int 0,V.int 1])) H;rw [z];exact k
  | rem h0 h1 h2=>lia
 | rem h0 h1 h2=>
  cases hu with
  | bS=>lia
  | rem nq zD Jl=>
   refine .inr (.inr (.inr ⟨by simp [CS],?_⟩))
   rw [pB];exact k
def di(ps:aK):Nat→Nat
 | 0=>0
 | n+1=>if (ps.getD n o1).1=0 then di ps n else n+1
theorem DJ(ps:aK):∀n,di ps n≤n
 | 0=>aJ _
 | n+1=>by
  unfold di
  split
  ·exact ae (DJ ps n) (Nat.le_succ n)
  ·exact aJ _
def aN(ps:aK):List (Int×Int):=ps.take (di ps ps.length)
theorem tG(xs:List V)(k:Nat)(h:k≤xs.length):mY xs none (some (k:Int))=xs.take k:=by
 have e:HT.eJ xs.length xs.length (some (k:Int))=k:=by rw [HT.O0];lia
 unfold mY;rw [e,show HT.eJ xs.length 0 none=0 from rfl,List.drop_zero,rY]
theorem aE.take{r:Addr}{vs:List V}{k:Nat}(e:H r=some (.lst (vs.take k)))(l:vs.length=ps.length)(f:∀(i:Nat) (v:V) (p:Int×Int),vs[i]?=some v→ps[i]?=some p→a7 B H q v p.1 p.2):aE B H q r (ps.take k):=by
 refine ⟨vs.take k,e,by simp [l],fun i v p h1 h2=>?_⟩
 have hi:i<k:=by have:=(cV.mp h1).1;rw [mD] at this;lia
 rw [Cf hi] at h1 h2;exact f i v p h1 h2
end My
namespace L2
open PySem PySem.Spec PyProof.Rows
def Q6(K:aF):R2:=fun x y H Q=>∃a b xs,x=.ref a∧y=.ref b∧bo K H a xs∧H b=some (.lst [])∧(∀v∈xs,∃i,v=.int i)∧Q (.bl (!xs.isEmpty)) H
theorem Q7{X:Cx}(hu:X.A.units+64<cLine):cE X (compareOp .NotEq) (Q6 X.K):=by
 intro pins s σ H x y v u Q I rx ry h;obtain ⟨a,b,xs,rfl,rfl,h1,h2,_,q⟩:=h;cases rx;cases ry;obtain ⟨us,r1,t1,_⟩:=I.list h1;obtain ⟨vs,r2,t2,_⟩:=I.list (bo.of h2);have l1:=r1.length;have l2:=r2.length;cases xs with
 | nil=>
  refine SeqAt.RcNeAt.lists (e:=fun _=>true) t1.isList t2.isList (by simp at l1 l2 ⊢;lia) (by lia) (fun j z1 z2=>?_) _ _ _ _ ?_
  ·simp at l1
   have:us=[]:=mI.mp l1.symm;subst this;simp at z1
  ·rw [all_range]
   exact ⟨.bl false,H,I,rfl,q⟩
 | cons w ws=>
  refine SeqAt.RcNeAt.lists_lengths t1.isList t2.isList ?_ (by lia) _ _ _ _ ⟨.bl true,H,I,rfl,q⟩
  simp at l1 l2 ⊢;lia
end L2
namespace My
open PySem L2
def jN(q:Int):Td:=if q=0 then .a "fractions" else .b "wheel" q
variable {q:Int}
theorem Q8(hq:ax q):(jN q).good=true:=by
 unfold jN;rcases hq with rfl | ⟨h1,h2,h3⟩;·rw [ar rfl];simp [Td.good,Td.wV]
 ·rw [ao (by lia)];simp [Td.good,Td.wV,Td.i_,h1,h2,h3]
theorem pL:jN 0=.a "fractions":=ar rfl
theorem nH(h:q≠0):jN q=.b "wheel" q:=ao h
def dE(H:Hp)(td:Addr)(q:Int):Prop:=H td=some (.tup (jN q).vs)
variable {H H':Hp}
theorem dE.mono{td:Addr}(h:dE H td q)(s:ai H H'):dE H' td q:=s _ _ h
def Q9:Sp:=fun vs H Q _=>∃c a:Int,vs=[.int c,.int a]∧0≤a∧∀r:Int,0≤r→Q (.int r) H
def Q_(K:aF):Sp:=fun vs H Q _=>∃(P a:Addr) (ns:List Int) (many:Int),vs=[.ref P,.int many]∧cS H P a∧bo K (er P H) a (ns.map V.int)∧1≤many∧aP many∧∀(r:Int) (H':Hp),0≤r→r<many→aL P H H'→cS H' P a→Q (.int r) H'
def cf(q i:Int):Int×Int:=if q=0 then (i,1) else (i % q,1)
def nI(q:Int)(p r:Int×Int):Int×Int:=if q=0 then (fN (p.1*r.2+r.1*p.2) (p.2*r.2),fO (p.1*r.2+r.1*p.2) (p.2*r.2)) else ((p.1+r.1) % q,1)
def mulQ(q:Int)(p r:Int×Int):Int×Int:=if q=0 then (fN (p.1*r.1) (p.2*r.2),fO (p.1*r.1) (p.2*r.2)) else (p.1*r.1 % q,1)
def Jm(B:Nat):Sp:=fun vs H Q _=>∃(td:Addr) (q i:Int),vs=[.ref td,.int i]∧dE H td q∧ax q∧i.natAbs≤B∧1000≤B∧∀(v:V) (H':Hp),ai H H'→a7 B H' q v (cf q i).1 (cf q i).2→Q v H'
variable {B:Nat} {r:Addr}
theorem zN{a b:Int}(e:H r=some (.tup [.int (fN a b),.int (fO a b)]))(hb:1≤b)(ba:a.natAbs≤B)(bb:b.natAbs≤B):a7 B H 0 (.ref r) (fN a b) (fO a b):=by obtain ⟨u,d,e1,e2,l,l1,l2⟩:=IE (a:=a) hb;unfold fN fO at e ⊢;rw [e1,e2] at e ⊢;exact .bS e l (ae l1 ba) (ae l2 bb)
def Rf:Sp:=fun vs H Q _=>∃(td:Addr) (q:Int) (v:V) (x m:Int) (B:Nat),vs=[.ref td,v]∧dE H td q∧ax q∧a7 B H q v x m∧B≤10 ^ 300∧∀H',ai H H'→Q (.bl true) H'
def Rg:Sp:=fun vs H Q _=>∃(td a:Addr) (q:Int) (ps:aK) (B:Nat),vs=[.ref td,.ref a]∧dE H td q∧ax q∧aE B H q a ps∧ps.length≤1000∧B≤10 ^ 300∧∀H',ai H H'→Q (.bl true) H'
def Rh(K:aF):Sp:=fun vs H Q _=>∃(P a:Addr) (ns:List Int),vs=[.ref P]∧cS H P a∧bo K (er P H) a (ns.map V.int)∧∀(td:Addr) (q:Int) (H':Hp),ax q→aL P H H'→cS H' P a→dE (er P H') td q→Q (.ref td) H'
def Ri(C:Addr):Sp:=fun vs H Q _=>∃(z a:Addr) (q:Int) (ps:aK) (B:Nat),vs=[.ref z,.ref a]∧dg C H z q∧ax q∧aE B H q a ps∧ps.length≤1000∧∀(b:Addr) (H':Hp),ai H H'→H b=none→aE B H' q b (aN ps)→Q (.ref b) H'
def Rj:Sp:=fun vs H Q _=>∃(td a:Addr) (q:Int) (ps:aK) (B:Nat),vs=[.ref td,.ref a]∧dE H td q∧ax q∧aE B H q a ps∧ps.length≤1000∧∀(b:Addr) (H':Hp),ai H H'→H b=none→aE B H' q b (aN ps)→Q (.ref b) H'
variable {v:V} {x m:Int} {P:Addr}
theorem a7.er{H':Hp}{a:Addr}(h:a7 B H q v x m)(p:cS H P a):a7 B (er P H) q v x m:=by
 cases h with
 | bS e l bx bm=>refine .bS (lR (fun z=>?_) e) l bx bm;obtain ⟨x,y,e',_⟩:=p;rw [z,e'] at e;cases e
 | rem h0 h1 h2=>exact .rem h0 h1 h2
variable {D:Addr} {ys:List V}
theorem a7.zO(h:a7 B (My.er P H) q v x m)(eD:H D=some (.lst ys))(k:∀b o,b≠D→b≠P→H b=some o→H' b=some o):a7 B (My.er P H') q v x m:=by
 cases h with
 | bS e l bx bm=>
  rename_i r
  have nP:r≠P:=fun z=>by unfold My.er at e;rw [ar z] at e;cases e
  rw [pK nP] at e;refine .bS (lR nP (k _ _ (fun z=>?_) nP e)) l bx bm;rw [z,eD] at e;cases e
 | rem h0 h1 h2=>exact .rem h0 h1 h2
theorem DK(eD:H D=some (.lst ys))(hP:∀(i:Nat) (y:V),ys[i]?=some y→∃xm:Int×Int,a7 B H q y xm.1 xm.2):∃ps,aE B H q D ps∧ps.length=ys.length:=by obtain ⟨ps,lp,hp⟩:=pick (R:=fun _ y xm=>a7 B H q y (Prod.fst xm) (Prod.snd xm)) hP;exact ⟨ps,⟨ys,eD,lp.symm,fun i v x h1 h2=>hp i v x h1 h2⟩,lp⟩
theorem aE.cat{vs us:List V}{ps rs:aK}(e:H r=some (.lst (vs++us)))(l1:vs.length=ps.length)(l2:us.length=rs.length)(f1:∀(i:Nat) (v:V) (p:Int×Int),vs[i]?=some v→ps[i]?=some p→a7 B H q v p.1 p.2)(f2:∀(i:Nat) (v:V) (p:Int×Int),us[i]?=some v→rs[i]?=some p→a7 B H q v p.1 p.2):aE B H q r (ps++rs):=by
 refine ⟨vs++us,e,by simp [l1,l2],fun i v p h1 h2=>?_⟩
 by_cases hi:i<vs.length
 ·rw [ip hi] at h1
  rw [ip (by lia)] at h2
  exact f1 i v p h1 h2
 ·rw [g8 (by lia)] at h1
  rw [g8 (by lia),←l1] at h2
  exact f2 _ v p h1 h2
end My
namespace L2
open PySem PySem.Spec PyProof.Rows
theorem Rk{K:aF}{wi:TI}{ρ:St→St}{te:TE}{σ:St}{H:Hp}{Q:VK}{Z:List (V×V)→Hp→Prop}(iF:∀R:It→Hp→Prop,(∀J H1 zs,ai H H1→zI J zs H1→zs.length<sizeLine→Z zs H1→R J H1)→wi σ H R)
  (P:Addr→Nat→V→Hp→Prop) (mono:∀D i y H H' ys,P D i y H→H D=some (.lst ys)→(∀b o,b≠D→H b=some o→H' b=some o)→P D i y H')
  (step:∀zs H1,Z zs H1→ai H H1→∀D i x y,zs[i]?=some (x,y)→∀(Hc:Hp) (R:VK),ai H1 Hc→(∃ys,Hc D=some (.lst ys))→(∀v H3,ai Hc H3→P D i v H3→R v H3)→te (some x::some y::ρ σ) Hc R)
  (fin:∀zs H1,Z zs H1→ai H H1→∀D vs Hc,H D=none→ai H1 Hc→vs.length=zs.length→(∀(i:Nat) (v:V),vs[i]?=some v→P D i v Hc)→Hc D=some (.lst vs)→Q (.ref D) Hc):tD K wi ρ (fun _ H Q=>Q true H) te σ H Q:=by
 refine iF _ fun J H1 zs s1 js hn hZ=>?_;intro D nD;have hD:H D=none:=by
  cases e:H D with
  | none=>rfl
  | some o=>rw [s1 _ _ e] at nD;cases nD
 refine ⟨fun i m vs Hc=>m=zs.length-i∧i≤zs.length∧Hc D=some (.lst vs)∧ai H1 Hc∧vs.length=i∧∀(j:Nat) (v:V),vs[j]?=some v→P D j v Hc,⟨_,rfl,b9 _,av,kD (ai.refl H1) nD,rfl,fun j y e=>by simp at e⟩,?_⟩
 rintro i m vs Hc ⟨rfl,hi,eD,sH,el,hP⟩;refine ⟨eD,?_⟩;by_cases cN:i<zs.length
 ·refine .inr ⟨js.go i Hc sH cN,fun v H' hy=>?_⟩
  obtain ⟨T,x,y,ev,nT,eH,hx⟩:=js.eW i Hc v H' sH hy;subst ev eH;refine ⟨T,x,y,rfl,.of av,?_⟩;dsimp only;rw [ar rfl];have sT:ai Hc (upd Hc T (.tup [x,y])):=fun b o e=>by rw [b7 (fG e nT)];exact e
  refine step zs H1 hZ s1 D i x y (hx cN) _ _ (sH.trans sT) ⟨vs,sT _ _ eD⟩ fun w H3 s3 hp=>?_;have e3:=s3 _ _ (sT _ _ eD);have cR:∀b o,b≠D→H3 b=some o→upd H3 D (.lst (vs++[w])) b=some o:=fun b o nb e=>by rw [b7 nb];exact e
  refine ⟨e3,by lia,zs.length-(i+1),by lia,rfl,cN,av,kD (sH.trans (sT.trans s3)) nD,by simp [el],fun j v' e=>?_⟩
  by_cases hj:j<i;·exact mono D j v' Hc _ vs (hP j v' (by rw [ip (by lia)] at e;exact e)) eD fun b o nb e=>cR b o nb (s3 _ _ (sT _ _ e))
  ·have hj:j=i:=by have:=(cV.mp e).1;simp at this;lia
   subst hj;have e':v'=w:=by rw [g8 (by lia),el,k8] at e;simpa using e.symm
   subst e';exact mono D _ _ H3 _ vs hp e3 cR
 ·have e:i=zs.length:=by lia
  subst e;exact .inl ⟨js.stop _ Hc sH (aJ _),fin zs H1 hZ s1 D vs Hc hD sH el hP eD⟩
end L2
namespace My
open PySem L2
def jc(ps:aK)(n:Nat):List (Int×Int):=ps++List.replicate (n-ps.length) o1
def Rl(C:Addr):Sp:=fun vs H Q _=>∃(z a:Addr) (q:Int) (ps:aK) (B n:Nat),vs=[.ref z,.ref a,.int (n:Int)]∧dg C H z q∧ax q∧aE B H q a ps∧1≤B∧ps.length≤n∧n≤1000∧∀(b:Addr) (H':Hp),ai H H'→H b=none→aE B H' q b (jc ps n)→Q (.ref b) H'
theorem jd(ps:aK):(aN ps).length≤ps.length:=by unfold aN;rw [mD];lia
end My
namespace L2
open PySem PySem.Spec PyProof.Rows
def xj(K:aF)(l:Addr):It:=
  ⟨fun i H=>∃xs x,bo K H l xs∧xs[i]?=some x,
   fun i H v H'=>∃T x,H T=none∧v=.ref T∧H'=upd H T (.tup [.int (i:Int),x])∧∀xs,bo K H l xs→xs[i]?=some x,
   fun i H=>∃xs,bo K H l xs∧xs.length≤i⟩
variable {K:aF} {l:Addr}
theorem Rn{P:Program}{w:World}{elts:List Expr}{k:Nat}{pos:Pos}{e it:Addr}(Jn:e≠it):Turn P w K (.Tuple elts k pos) (xj K l) [e,it] e
  (fun i h=>(∃old,IsEnum h e it (i:Int) old)∧h.IsListIter it l i) where
 mem:=by simp
 obj:=fun i h st b hb=>by
  obtain ⟨⟨old,he⟩,h1⟩:=st;simp only [dR,j9,j_] at hb;rcases hb with rfl | rfl;·exact ⟨_,he,fun v z=>by cases z⟩
  ·obtain ⟨o,e,c,d⟩:=h1
   exact ⟨o,e,fun v z=>by rw [d] at z;cases z⟩
 keep:=fun i h h' st k=>by obtain ⟨⟨old,he⟩,h1⟩:=st;exact ⟨⟨old,k _ (by simp) _ he⟩,h1.at fun o e=>k _ (by simp) o e⟩
 item:=by
  intro X hP hw hK hc i pins s σ H E I hf st hg;subst hP hw hK;obtain ⟨⟨old,he⟩,h1⟩:=st;obtain ⟨xs,x,iH,hx⟩:=hg;obtain ⟨aq,rv,p,_⟩:=I.list iH;obtain ⟨u,hu,ru⟩:=rv.get hx;refine wpAny_pyNext_enum_item he h1 p.isList (x:=u) (by simpa using hu) Jn fun h' g1 g2 g3 g4 g5=>⟨_,rfl,?_⟩
  refine wpAny_letOwnedTupleGo_enum g1 fun kG q1 sb=>?_;have w_:H s.heap.objs.size=none:=I.aC.fresh (aJ _);have lt:∀b o,s.heap.get? b=some o→b≠s.heap.objs.size:=fun b o e=>d9 (bV e);have keep:∀b o,b∉[e,it]→s.heap.get? b=some o→kG.get? b=some o:=fun b o nb e=>by simp only [dR,j9,j_,not_or] at nb;exact sb.extBut _ _ nb.1 (g5 b o nb.1 nb.2 e)
  have elt:e≠s.heap.objs.size:=lt _ _ he;have pT:=sb.extBut _ _ elt.symm g3;have jK:∀{b:Addr} {o:HO} (e:H b=some o),upd H s.heap.objs.size (.tup [.int (i:Int),x]) b=some o:=fun e=>by rw [b7 (fG e w_)];exact e
  have aC:cL X.prog X.w (upd H s.heap.objs.size (.tup [.int (i:Int),x])) kG:=fun b o e=>by
   by_cases hb:b=s.heap.objs.size
   ·subst hb
    rw [av] at e;cases e;exact ⟨by show 2≤sizeLine;decide,[.int i s.toks,u],.cons ⟨_,rfl⟩ (.cons ru .nil),⟨_,pT,rfl,_,rfl⟩⟩
   ·rw [b7 hb] at e
    refine (I.aC b o e).g_ (fun c v d7 q=>keep c v (fun m=>?_) q) (fun c q=>jK q) fun c xs q=>jK q;have nn:=(hf c m).1;rcases d7 with rfl | d7;·rw [nn] at e;cases e
    ·rw [nn] at d7;cases d7
  have u1:Un (cD X.stack) [e,it] H (upd H s.heap.objs.size (.tup [.int (i:Int),x])) s.heap kG:=
   ⟨fun b o e n _ hx=>keep b o hx e,fun b o e n _ hx=>⟨o.slots,keep b o hx e⟩,fun b o e n hx=>by rw [b7 (lt b o e)];exact n,fun b o e hx=>⟨o,keep b o hx e⟩,fun b xs e=>jK e,fun b o u e=>jK e,fun b ps e=>⟨#[],by rw [jK e];simp⟩⟩
  refine ⟨.ref s.heap.objs.size,upd H s.heap.objs.size (.tup [.int (i:Int),x]),I.kg (s':={s with heap:=kG,toks:=s.toks+1}) (ch:=[e,it]) rfl u1 aC I.bare (fun b hb=>?_),rfl,⟨_,x,w_,rfl,rfl,fun as ha=>by rw [I.yZ ha iH];exact hx⟩,?_,fun b hb=>?_⟩
  ·obtain ⟨f0,f1,f2,f3,f4,f5⟩:=hf b hb
   exact ⟨f3,f1,f4,f5⟩
  ·refine ⟨⟨u,?_⟩,g2.extBut sb.extBut Jn.symm⟩
   have z:((i+1:Nat):Int)=(i:Int)+1:=by lia
   rw [z];exact q1
  ·have nb:b≠s.heap.objs.size:=by
    simp only [dR,j9,j_] at hb;rcases hb with rfl | rfl;·exact lt _ _ he
    ·obtain ⟨o,e,_⟩:=h1;exact lt _ _ e
   rw [b7 nb];exact (hf b hb).1
 done:=by
  intro X hP hw hK hc i pins s σ H E I hf st hg;subst hP hw hK;obtain ⟨⟨old,he⟩,h1⟩:=st;obtain ⟨xs,iH,hx⟩:=hg;obtain ⟨aq,rv,p,_⟩:=I.list iH;have hl:=rv.length;refine wpAny_pyNext_enum_end (I.ok.hd hc) he h1 p.isList (by simp;lia) fun h' g=>⟨rfl,?_⟩
  have keep:∀b o,b∉[e,it]→s.heap.get? b=some o→h'.get? b=some o:=fun b o nb e=>by simp only [dR,j9,j_,not_or] at nb;exact g b o nb.2 e
  have aC:cL X.prog X.w H h':=fun b o e=>by
   refine (I.aC b o e).g_ (fun c v d7 q=>keep c v (fun m=>?_) q) (fun c q=>q) fun c xs q=>q;have nn:=(hf c m).1;rcases d7 with rfl | d7;·rw [nn] at e;cases e
   ·rw [nn] at d7;cases d7
  have u1:Un (cD X.stack) [e,it] H H s.heap h':=
   ⟨fun b o e n _ hx=>keep b o hx e,fun b o e n _ hx=>⟨o.slots,keep b o hx e⟩,fun b o e n hx=>n,fun b o e hx=>⟨o,keep b o hx e⟩,fun b xs e=>e,fun b o u e=>e,fun b ps e=>⟨#[],by rw [e];simp⟩⟩
  refine I.kg (s':={s with heap:=h'}) (ch:=[e,it]) rfl u1 aC I.bare fun b hb=>?_;obtain ⟨f0,f1,f2,f3,f4,f5⟩:=hf b hb;exact ⟨f3,f1,f4,f5⟩
 self:=fun _ _ _ _ _ st h=>by obtain ⟨⟨old,he⟩,_⟩:=st;exact wpAny_pyIter_enum he h
theorem boot_enumerate:bootBuiltins "enumerate"=some (.type "enumerate"):=by decide +kernel
def Ro(K:aF)(ta:TA):TI:=fun σ H R=>ta σ H fun vs H1=>∃l,vs=[.ref l]∧(∃xs,bo K H1 l xs)∧R (xj K l) H1
section
variable {X:Cx}
theorem Jo{elts:List Expr}{k:Nat}{sC:Pos}{a:Expr}{ta:TA}{p pos:Pos}(hg:Gl X "enumerate")(hm:X.mg "enumerate"=none)(ha:PA X [a] ta)(hs:starEach [a] X.env=[(false,eval a X.env)]:=by rfl) :
  PI X (.Tuple elts k sC) (.Call (.Name "enumerate" p) [a] [] pos) (Ro X.K ta):=by
 intro pins s σ H R I h;refine Call_ (oO I hg hm boot_enumerate (vQ (aG (ha pos pins s σ H _ I h) fun us s1 ⟨vs,H1,I1,r1,q1⟩=>?_) hs rfl));obtain ⟨l,e,⟨xs,iH⟩,q⟩:=q1;subst e;obtain ⟨u,rfl,ru⟩:=vals1 r1;cases ru;obtain ⟨aq,rv,p1,_⟩:=I1.list iH;refine call_enumerate_list p1.isList fun h' z1 z2 z3 z4=>?_;refine wpAny_pyIter_enum (s:={s1 with heap:=h'}) z1 ?_;refine ⟨_,_,_,_,H1,rfl,I1.kept (t':=s1.toks) z4,Rn (Nat.succ_ne_self _),⟨⟨_,z1⟩,z2⟩,fun b hb=>?_,q⟩;have le:s1.heap.objs.size≤b:=by
  simp only [dR,j9,j_] at hb;rcases hb with rfl | rfl;·exact oF ..
  ·exact aJ _
 exact I1.sD le (I1.aC.fresh le)
end
theorem Jp{xs:List V}{g:TG}{tb:TS}{D:Ends}{σ:St}{H:Hp}(Pv:Nat→St→Hp→Prop)(h0:Pv 0 σ H)(hl:∀i σ H,Pv i σ H→bo K H l xs)
  (hs:∀(i:Nat) (x:V) σ H T,xs[i]?=some x→Pv i σ H→H T=none→g (.ref T) σ (upd H T (.tup [.int (i:Int),x])) fun σ2 H2=>tb {D with nx:=Pv (i+1),ct:=Pv (i+1),bk:=D.nx} σ2 H2) (hd:∀σ H,Pv xs.length σ H→D.nx σ H) :
  ∃W:Nat→Nat→St→Hp→Prop,(∃m,W 0 m σ H)∧∀i m σ H,W i m σ H→
   ((xj K l).stop i H∧D.nx σ H)∨((xj K l).go i H∧∃N:St→Hp→Prop,(∀σ' H',N σ' H'→∃m',m'<m∧W (i+1) m' σ' H')∧∀x H',(xj K l).eW i H x H'→g x σ H' fun σ2 H2=>tb {D with nx:=N,ct:=N,bk:=D.nx} σ2 H2):=by
 refine ⟨fun i m σ H=>m=xs.length-i∧i≤xs.length∧Pv i σ H,⟨xs.length,by simp,b9 _,h0⟩,?_⟩
 rintro i m σ H ⟨rfl,hi,p⟩;have q1:=hl i σ H p;by_cases cN:i<xs.length
 ·refine .inr ⟨⟨xs,xs[i],q1,by simp [cN]⟩,Pv (i+1),fun σ' H' p'=>⟨xs.length-(i+1),by lia,rfl,cN,p'⟩,fun v H' hy=>?_⟩
  obtain ⟨T,x,nT,rfl,rfl,hx⟩:=hy;exact hs i x σ H T (hx xs q1) p nT
 ·have e:i=xs.length:=by lia
  subst e;exact .inl ⟨⟨xs,q1,aJ _⟩,hd σ H p⟩
def Rp(K:aF):V→V→Hp→VK→Prop:=fun o i H Q=>∃p xs k v,o=.ref p∧i=.int k∧0≤k∧bo K H p xs∧dD xs k=some v∧Q v H
theorem Rq{X:Cx}:G7 X (Rp X.K):=by
 intro pins s σ H o i ov iv Q I ro ri h;obtain ⟨p,xs,k,z,rfl,rfl,h0,hq,he,q⟩:=h;cases ro;obtain ⟨t,rfl⟩:=ri;obtain ⟨aq,r,pl,hz⟩:=I.list hq;obtain ⟨j,h1,h2,h3,h4,h5⟩:=CZ he;obtain ⟨w,ew,oR⟩:=r.get h2;have hl:=r.length;have hn:=wK;have hj:k.toNat=j:=by rw [seqIndex_of h0 h5] at h1;exact Option.some.inj h1
 exact wpAny_getItem_list pl.isList h0 (by lia) (by rw [hj];simpa using ew) ⟨z,H,I,oR,q⟩
end L2
namespace My
open PySem L2
theorem gw:∀(n:Nat) (f:Nat→Int),aQ (n+1) f=aQ n f+f n
 | 0,f=>by show f 0+0=0+f 0;lia
 | n+1,f=>by show f 0+aQ (n+1) (fun i=>f (i+1))=(f 0+aQ n fun i=>f (i+1))+f (n+1);rw [gw n];lia
def cK(m:Nat)(t:Int)(u:Nat→Int)(i k:Nat):Int:=aQ m fun j=>if i+j=k then t*u j else 0
def bK(n m:Nat)(f g:Nat→Int)(k:Nat):Int:=aQ n fun i=>cK m (f i) g i k
def gQ(ts us:List Int):List Int:=(List.range (ts.length+us.length-1)).map fun k=>bK ts.length us.length (fun i=>ts.getD i 0) (fun j=>us.getD j 0) k
def Rr:Sp:=fun vs H Q _=>∃(a b:Addr) (ts us:List Int),vs=[.ref a,.ref b]∧H a=some (.lst (ts.map V.int))∧H b=some (.lst (us.map V.int))∧(∀t∈ts,aP t)∧(∀t∈us,aP t)∧ts.length≤100∧us.length≤100 ∧
 ∀(c:Addr) (H':Hp),ai H H'→H c=none→H' c=some (.lst ((gQ ts us).map V.int))→Q (.ref c) H'
theorem Rt{N x:Nat}{A:Nat→Int}{d:Int}(hx:x<N):(((List.range N).map A).map V.int).set x (.int (A x+d))=((List.range N).map fun k=>A k+if x=k then d else 0).map V.int:=by
 refine yP fun i=>?_;by_cases hi:i<N
 ·by_cases z:x=i
  ·subst z
   rw [vM (by simpa using hx)]
   simp [hx]
  ·rw [vN z]
   simp [hi,z]
 ·rw [k9 (by simp;lia),k9 (by simp;lia)]
variable {B:Nat} {x:Int}
theorem aP.zP(hB:B≤10 ^ 300)(h:x.natAbs≤2*B*B):aP x:=by have z:2*B*B≤2*10 ^ 300*10 ^ 300:=bH (d4 2 hB) hB;exact gh (ae h z) (by decide +kernel)
def Jq(f:Int→Int×Int→Int×Int→Int×Int):Sp:=fun vs H Q _=>∃(td:Addr) (q:Int) (v u:V) (p r:Int×Int) (B:Nat),vs=[.ref td,v,u]∧dE H td q∧ax q∧a7 B H q v p.1 p.2∧a7 B H q u r.1 r.2∧1000≤B∧B≤10 ^ 300∧∀(v':V) (H':Hp),ai H H'→a7 (2*B*B) H' q v' (f q p r).1 (f q p r).2→Q v' H'
def cz(q T D:Int):Int×Int:=if q=0 then (fN T D,fO T D) else (T % q,1)
variable {q T D:Int}
theorem gx(ok:aY q D):aS q (cz q T D) (T,D):=by
 unfold cz aS;by_cases z:q=0
 ·subst z
  have hD:=ok.1 rfl;have e:=(Dr (a:=T) (show D≠0 by lia)).2.1
  rw [ar rfl];exact ⟨0,by dsimp only;rw [e];lia⟩
 ·rw [ao z,ok.2 z]
  obtain ⟨w,ew⟩:=zC T q;exact ⟨-w,by dsimp only;rw [gF];lia⟩
def Canon(q:Int)(p:Int×Int):Prop:=(q=0→iD p.1 p.2)∧(q≠0→p.2=1∧0≤p.1∧p.1<q)
variable {H:Hp} {v:V}
theorem a7.canon{m:Int}(h:a7 B H q v x m):Canon q (x,m):=by
 cases h with
 | bS e l bx bm=>exact ⟨fun _=>l,fun z=>absurd rfl z⟩
 | rem h0 h1 h2=>exact ⟨fun z=>by lia,fun _=>⟨rfl,h0,h1⟩⟩
variable {r:Int×Int}
theorem kI(hq:ax q){p:Int×Int}(h1:Canon q p)(h2:Canon q r)(e:aS q p r):p=r:=by
 obtain ⟨x,m⟩:=p;obtain ⟨y,n⟩:=r;unfold aS at e;dsimp only at e;by_cases z:q=0
 ·subst z
  have l1:=h1.1 rfl;have l2:=h2.1 rfl;have e:=gG.mp e;obtain ⟨a,b⟩:=IL l1 l2 (show x*n=y*m by lia)
  dsimp only at a b;rw [a,b]
 ·obtain ⟨a1,a2,a3⟩:=h1.2 z
  obtain ⟨b1,b2,b3⟩:=h2.2 z;dsimp only at a1 a2 a3 b1 b2 b3;subst a1 b1;rw [fU,fU] at e;obtain ⟨k,ek⟩:=e;have:k=0:=by
   rcases Int.lt_trichotomy k 0 with h | h | h
   ·have:=j6 (show k≤-1 by lia) (show 0≤q by lia)
    lia
   ·exact h
   ·have:=j6 (show 1≤k by lia) (show 0≤q by lia)
    lia
  rw [this,cJ] at ek;rw [show x=y by lia]
theorem gR(hq:ax q)(ok:aY q D):Canon q (cz q T D):=by
 unfold cz;refine ⟨fun z=>?_,fun z=>?_⟩
 ·rw [ar z]
  exact (Dr (a:=T) (show D≠0 by have:=ok.1 z;lia)).1
 ·rw [ao z]
  have q2:0<q:=by rcases hq with h | h <;> lia
  exact ⟨rfl,dA _ z,dN _ q2⟩
theorem DL(hq:ax q)(ok:aY q D)(b1:1000≤B)(bt:T.natAbs≤B)(bd:D.natAbs≤B):(cz q T D).1.natAbs≤B∧(cz q T D).2.natAbs≤B:=by
 unfold cz;by_cases z:q=0
 ·rw [ar z]
  have hD:=ok.1 z;obtain ⟨u,d,e1,e2,l,l1,l2⟩:=IE (a:=T) hD;unfold fN fO;dsimp only;rw [e1,e2];exact ⟨ae l1 bt,ae l2 bd⟩
 ·rw [ao z]
  have q2:0<q∧q≤997:=by rcases hq with h | h <;> lia
  have:=dA T z;have:=dN T q2.1;exact ⟨by dsimp only;lia,by dsimp only;lia⟩
theorem a7.DM{B':Nat}{m:Int}(h:a7 B H q v x m)(bx:x.natAbs≤B')(bm:m.natAbs≤B'):a7 B' H q v x m:=by
 cases h with
 | bS e l _ _=>exact .bS e l bx bm
 | rem h0 h1 h2=>exact .rem h0 h1 h2
theorem Canon.bot{p:Int×Int}(h:Canon q p):aY q p.2:=⟨fun z=>(h.1 z).pos,fun z=>(h.2 z).1⟩
theorem Ru(hq:ax q){p:Int×Int}(h1:Canon q p)(h2:Canon q r):Canon q (nI q p r)∧aS q (nI q p r) (p.1*r.2+r.1*p.2,p.2*r.2):=by
 have e:nI q p r=cz q (p.1*r.2+r.1*p.2) (p.2*r.2):=by
  unfold nI cz;by_cases z:q=0;·rw [ar z,ar z]
  ·rw [ao z,ao z,(h1.2 z).1,(h2.2 z).1,fU,fU]
 rw [e];exact ⟨gR hq (h1.bot.mul h2.bot),gx (h1.bot.mul h2.bot)⟩
theorem Rv(hq:ax q){p:Int×Int}(h1:Canon q p)(h2:Canon q r):Canon q (mulQ q p r)∧aS q (mulQ q p r) (p.1*r.1,p.2*r.2):=by have e:mulQ q p r=cz q (p.1*r.1) (p.2*r.2):=rfl;rw [e];exact ⟨gR hq (h1.bot.mul h2.bot),gx (h1.bot.mul h2.bot)⟩
variable {U:Int}
theorem Jr(hq:ax q)(ok:aY q D){p:Int×Int}(h1:Canon q p)(h2:Canon q r)(w1:aS q p (T,D))(w2:aS q r (U,D)):nI q p r=cz q (T+U) D:=by obtain ⟨c,w⟩:=Ru hq h1 h2;refine kI hq c (gR hq ok) ?_;refine aS.trans ?_ (gx (T:=T+U) ok).symm ok;refine aS.trans w ?_ (h1.bot.mul h2.bot);obtain ⟨k1,e1⟩:=w1;obtain ⟨k2,e2⟩:=w2;dsimp only at e1 e2;exact ⟨k1*r.2+k2*p.2,by dsimp only;grind⟩
variable {b:Int}
theorem aY.nz(hq:ax q)(h:aY q b):¬q∣b:=fun hd=>by
 by_cases z:q=0
 ·subst z
  have:=h.1 rfl;have:=gG.mp hd;lia
 ·rw [h.2 z] at hd
  have q2:2≤q:=by rcases hq with h | h <;> lia
  have:=rT (by decide) hd
  lia
theorem lcm_dvd{m:Int}(hb:1≤b)(hm:1≤m)(h1:b∣D)(h2:m∣D):b / (Int.gcd b m:Int)*m∣D:=by
 have gp:=pD (a:=b) (b:=m) (by lia)
 obtain ⟨b',eb⟩:=vW (a:=b) (b:=m)
 have g0:(Int.gcd b m:Int)≠0:=by lia
 have gb:b / (Int.gcd b m:Int)=b':=by
  conv=>lhs;lhs;rw [eb]
  exact mF _ g0
 have z:((Int.lcm b m:Nat):Int)∣D:=Int.coe_lcm_dvd h1 h2
 have e:((Int.lcm b m:Nat):Int)=b'*m:=by
  have h:=Int.gcd_mul_lcm b m
  have h2:((Int.gcd b m:Nat):Int)*((Int.lcm b m:Nat):Int)=((b*m).natAbs:Int):=by
   rw [←Int.natCast_mul,h,a8]
  have bm:0<b*m:=Int.mul_pos (by lia) (by lia)
  have h3:((b*m).natAbs:Int)=b*m:=by lia
  rw [h3] at h2
  refine Int.eq_of_mul_eq_mul_left g0 ?_
  rw [h2,←ir,←eb]
 rw [gb,←e]
 exact z
structure Js (q:Int) (ps:aK) (ts:List Int) (b D:Int) (B:Nat):Prop where
 len:ts.length=ps.length
 ok:aY q b
 dvd:b∣D
 each:∀i,i<ps.length→ts.getD i 0*(ps.getD i o1).2=(ps.getD i o1).1*b∧(ts.getD i 0).natAbs≤B*D.natAbs
theorem je(h:b∣D)(hD:D≠0):b.natAbs≤D.natAbs:=Nat.le_of_dvd (gE.mpr hD) (Cr.mpr h)
theorem zQ(ok:aY q D):(cz q T D).2∣D:=by
 unfold cz;by_cases z:q=0
 ·rw [ar z]
  have hD:=ok.1 z;have e:lowG T D=(Int.gcd T D:Int):=by unfold lowG;rw [ao (by lia)]
  have gp:=pD (a:=T) (b:=D) (by lia)
  unfold fO;dsimp only;rw [e,vR _ (by lia)]
  exact Int.ediv_dvd_of_dvd (oE ..)
 ·rw [ao z]
  exact Int.one_dvd D
theorem DN{q b D:Int}:∀(n:Nat) (f g:Nat→Int),(∀i,i<n→aS q (f i,b) (g i,D))→aS q (aQ n f,b) (aQ n g,D)
 | 0,f,g,_=>⟨0,by show (0:Int)*D-0*b=_;simp⟩
 | n+1,f,g,h=>by
  obtain ⟨k1,e1⟩:=h 0 (by lia)
  obtain ⟨k2,e2⟩:=DN n (fun i=>f (i+1)) (fun i=>g (i+1)) (fun i hi=>h (i+1) (by lia))
  refine ⟨k1+k2,?_⟩;show (f 0+aQ n fun i=>f (i+1))*D-(g 0+aQ n fun i=>g (i+1))*b=_;dsimp only at e1 e2;grind
variable {n m:Nat} {f g:Nat→Int}
theorem Rw{b1 b2 D1 D2:Int}{f' g':Nat→Int}(hf:∀i,i<n→aS q (f i,b1) (f' i,D1))(hg:∀j,j<m→aS q (g j,b2) (g' j,D2))(k:Nat):aS q (bK n m f g k,b1*b2) (bK n m f' g' k,D1*D2):=by
 unfold bK;refine DN n _ _ fun i hi=>?_;unfold cK;refine DN m _ _ fun j hj=>?_;by_cases z:i+j=k
 ·rw [ar z,ar z]
  obtain ⟨k1,e1⟩:=hf i hi;obtain ⟨k2,e2⟩:=hg j hj;dsimp only at e1 e2;exact ⟨f i*D1*k2+g' j*b2*k1,by dsimp only;grind⟩
 ·rw [ao z,ao z]
  exact ⟨0,by simp⟩
theorem tH{M:Nat}:∀(n:Nat) (f:Nat→Int),(∀i,i<n→(f i).natAbs≤M)→(aQ n f).natAbs≤n*M
 | 0,f,_=>by simp [aQ]
 | n+1,f,h=>by
  have a:=h 0 (by lia)
  have b:=tH n (fun i=>f (i+1)) (fun i hi=>h (i+1) (by lia))
  show (f 0+aQ n fun i=>f (i+1)).natAbs≤_;rw [Nat.succ_mul];lia
variable {k:Nat}
theorem DO{M:Nat}(h:∀i j,i<n→j<m→(f i*g j).natAbs≤M):(bK n m f g k).natAbs≤n*(m*M):=by
 unfold bK;refine tH n _ fun i hi=>?_;unfold cK;refine tH m _ fun j hj=>?_;by_cases z:i+j=k;·rw [ar z];exact h i j hi hj
 ·rw [ao z];exact b9 _
theorem Jt(hq:ax q)(DP:aY q b)(o2:aY q D)(w:aS q (T,b) (U,D)):cz q T b=cz q U D:=
 kI hq (gR hq DP) (gR hq o2) (((gx (T:=T) DP).trans w DP).trans (gx (T:=U) o2).symm o2)
def B2:Nat:=10 ^ 290
def cZ(q:Int)(n m:Nat)(f g:Nat→Int)(D:Int)(N:Nat):List (Int×Int):=(List.range N).map fun k=>cz q (bK n m f g k) D
theorem Ju{ps:aK}{x:Int×Int}:∀n,n≤ps.length→di (ps++[x]) n=di ps n
 | 0,_=>rfl
 | n+1,h=>by
  have e:(ps++[x]).getD n o1=ps.getD n o1:=by rw [fD,fD,ip (by lia)]
  show (if ((ps++[x]).getD n o1).1=0 then di (ps++[x]) n else n+1)=if (ps.getD n o1).1=0 then di ps n else n+1
  rw [e,Ju n (by lia)]
theorem Rx{ps:aK}{x:Int×Int}(h:x.1=0):aN (ps++[x])=aN ps:=by
 unfold aN;rw [jo,Ci];have e:(ps++[x]).getD ps.length o1=x:=by
  rw [fD,g8 (by lia),k8]
  rfl
 have e2:di (ps++[x]) (ps.length+1)=di ps ps.length:=by
  show (if ((ps++[x]).getD ps.length o1).1=0 then di (ps++[x]) ps.length else ps.length+1)=_
  rw [e,ar h,Ju _ (aJ _)]
 rw [e2,List.take_append_of_le_length (DJ ps _)]
theorem Ry:(cz q 0 D).1=0:=by
 unfold cz fN
 split
 ·show Int.fdiv 0 (lowG 0 D)=0
  exact Int.zero_fdiv _
 ·exact Int.zero_emod q
theorem Jv(h:n+m≤k+1):bK n m f g k=0:=by
 unfold bK;have:∀i,i<n→cK m (f i) g i k=0:=fun i hi=>by
  unfold cK;refine Eq.trans (cY (g:=fun _=>0) fun j hj=>?_) (jM m);have:¬i+j=k:=by lia
  rw [ao this]
 rw [cY this,jM]
theorem Rz:aN (cZ q n m f g D (n+m))=aN (cZ q n m f g D (n+m-1)):=by
 by_cases z:n+m=0;·rw [z]
 ·obtain ⟨N,e⟩:∃N,n+m=N+1:=⟨n+m-1,by lia⟩
  rw [e,mJ];unfold cZ;rw [List.range_succ,rZ];refine Rx ?_;show (cz q (bK n m f g N) D).1=0;rw [Jv (by lia)]
  exact Ry
def RA(K:aF):Sp:=fun vs H Q _=>∃(P a td:Addr) (ns:List Int) (q cR:Int) (F:Nat),vs=[.ref P,.ref td,.int cR]∧cS H P a∧bo K (er P H) a (ns.map V.int)∧dE (er P H) td q∧ax q∧1≤cR∧cR≤(F:Int)∧4≤F∧F≤10 ^ 20∧∀(v:V) (x m:Int) (H':Hp),aL P H H'→cS H' P a→a7 F (er P H') q v x m→Q v H'
theorem zR{wi:TI}{ρ:St→St}{te:TE}{σ:St}{Q:VK}{P a:Addr}(hn:n<sizeLine)
  (iF:∀R:It→Hp→Prop,(∀(H1:Hp),aL P H H1→cS H1 P a→R (mU 0 n) H1)→wi σ H R)
  (Pr:Addr→Nat→V→Hp→Prop) (mono:∀D i y Hc H' ys,Pr D i y Hc→Hc D=some (.lst ys)→D≠P→(∀b o,b≠D→b≠P→Hc b=some o→H' b=some o)→Pr D i y H')
  (step:∀(D:Addr) (i:Nat),i<n→∀(Hc:Hp) (R:VK),aL P H Hc→cS Hc P a→(∃ys,Hc D=some (.lst ys))→D≠P→(∀y H3,aL P Hc H3→cS H3 P a→Pr D i y H3→R y H3)→te (some (.int (0+(i:Int)))::ρ σ) Hc R)
  (fin:∀(D:Addr) (ys:List V) (Hc:Hp),D≠P→aL P H Hc→cS Hc P a→ys.length=n→(∀(i:Nat) (y:V),ys[i]?=some y→Pr D i y Hc)→Hc D=some (.lst ys)→Q (.ref D) Hc):pb wi ρ (fun _ H Q=>Q true H) te σ H Q:=by
 refine iF _ fun H1 s1 p1=>?_;intro D nD;have nP:=p1.ne nD;refine ⟨fun i m ys Hc=>m=n-i∧i≤n∧Hc D=some (.lst ys)∧aL P H1 Hc∧cS Hc P a∧ys.length=i∧∀j y,ys[j]?=some y→Pr D j y Hc,⟨_,rfl,b9 _,av,(aL.refl H1).but nD,p1.upd nP,rfl,fun j y e=>by simp at e⟩,?_⟩
 rintro i m ys Hc ⟨rfl,hi,eD,sH,pc,el,hP⟩;refine ⟨eD,?_⟩;by_cases cN:i<n
 ·refine .inr ⟨cN,fun x H' hy=>?_⟩
  obtain ⟨rfl,rfl⟩:=hy;rw [ar rfl];refine step D i (by lia) _ _ (s1.trans sH) pc ⟨ys,eD⟩ nP fun y H3 s3 p3 hp=>?_
  have e3:=s3.at nP eD;refine ⟨e3,by lia,n-(i+1),by lia,rfl,cN,av,(sH.trans s3).but nD,p3.upd nP,by simp [el],fun j y' e=>?_⟩
  have cR:∀b o,b≠D→b≠P→H3 b=some o→upd H3 D (.lst (ys++[y])) b=some o:=fun b o nb _ e=>by rw [b7 nb];exact e
  by_cases hj:j<i
  ·have e':ys[j]?=some y':=by rw [ip (by lia)] at e;exact e
   refine mono D j y' H' _ ys (hP j y' e') eD nP fun b o nb np e=>?_;exact cR b o nb np (s3.at np e)
  ·have hj:j=i:=by have:=(cV.mp e).1;simp at this;lia
   subst hj;have e':y'=y:=by rw [g8 (by lia),el,k8] at e;simpa using e.symm
   subst e';exact mono D _ _ H3 _ ys hp e3 nP cR
 ·have e:i=n:=by lia
  subst e;exact .inl ⟨aJ _,fin D ys Hc nP (s1.trans sH) pc el hP eD⟩
theorem Jw{M:Nat}:∀(n:Nat) (f:Nat→Int),(∀i,i<n→(f i).natAbs≤M)→(aQ n f).natAbs≤n*M
 | 0,_,_=>by show (0:Int).natAbs≤_;simp
 | n+1,f,h=>by rw [gw,Nat.succ_mul];exact ae (wb ..) (oH (Jw n f fun i hi=>h i (by lia)) (h n (by lia)))
end My
namespace L2
open PySem PySem.Spec PyProof.Rows
section
variable {X:Cx} {tg:Expr}
def tI(lo:Int)(n:Nat):It:=⟨fun i _=>i<n,fun i H x H'=>H'=H∧x=.int (lo-i),fun i _=>n≤i⟩
theorem RC{P:Program}{w:World}{K:aF}(it:Addr)(lo:Int)(n:Nat):Turn P w K tg (tI lo n) [it] it (fun i h=>IsRangeIter h it (lo+(i:Nat)*(-1)) ((n:Int)-(i:Nat)) (-1)) where
 mem:=by simp
 obj:=fun i h st b hb=>by
  have e:b=it:=by simpa using hb
  subst e;exact ⟨_,st,fun v z=>by have z':Data.fields _=Data.cell v:=z;cases z'⟩
 keep:=fun i h h' st k=>k it (by simp) _ st
 item:=by
  intro X hP hw hK hc i pins s σ H E I hf st hg;subst hP hw hK;obtain ⟨f0,f1,f2,f3,f4,f5⟩:=hf it (by simp)
  have W:=Walks.range (prog:=X.prog) (w:=X.w) (I.ok.hd hc) it lo (-1) n;refine W.item i s _ _ hg st fun v h' tk hv jx kk=>?_;obtain ⟨t,rfl⟩:=hv;have I1:Inv X pins σ H {s with heap:=h',toks:=tk}:=I.turned (fun b o hb e=>kk b o (by simpa using hb) e) f0 f1 f3 f4 f5
  refine ⟨_,rfl,za (s:={s with heap:=h',toks:=tk}) (n:="range_iterator") jx rfl rfl (by decide) ⟨.int (lo-i),H,I1,⟨t,?_⟩,⟨rfl,rfl⟩,jx,fun b hb=>(hf b hb).1⟩⟩
  rw [show lo+(i:Int)*(-1)=lo-i by lia]
 done:=by
  intro X hP hw hK hc i pins s σ H E I hf st hg;subst hP hw hK;obtain ⟨f0,f1,f2,f3,f4,f5⟩:=hf it (by simp)
  exact wpAny_pyNext_range_end (I.ok.hd hc) st (by have:n≤i:=hg;lia) fun h' eb=>⟨rfl,I.turned (t':=s.toks) (fun b o hb e=>eb b o hb e) f0 f1 f3 f4 f5⟩
 self:=fun _ _ _ _ _ st h=>wpAny_pyIter_rangeiter st h
variable {σ:St} {H:Hp} {lo:Int}
theorem RD{pins:aZ}{s:Shared}{R:It→Hp→Prop}{E:b_}{hi:Int}{t u v:Tok}{tk:Nat}(I:Inv X pins σ H s)(RE:Builtin.Range.small lo hi (-1)=true)
  (q:R (tI lo (lo-hi).toNat) H):wpAny (model X.prog X.w) X.A (pyIter (.ref s.heap.objs.size)) (CM X pins σ tg R) E {s with heap:=s.heap.push {cls:=.type "range",data:=.fields #[.int lo t,.int hi u,.int (-1) v]},toks:=tk}:=by
 refine wpAny_pyIter_range (IsRange.new ..) RE ?_;have I1:Inv X pins σ H {s with heap:=s.heap.push {cls:=.type "range",data:=.fields #[.int lo t,.int hi u,.int (-1) v]},toks:=tk}:=I.kept fun b o e=>dj _ e
 refine ⟨(s.heap.push {cls:=.type "range",data:=.fields #[.int lo t,.int hi u,.int (-1) v]}).objs.size,[(s.heap.push {cls:=.type "range",data:=.fields #[.int lo t,.int hi u,.int (-1) v]}).objs.size],_,_,H,rfl,
  I1.kept (t':=tk) fun b o e=>dj _ e,RC _ lo (lo-hi).toNat,?_,fun b hb=>?_,q⟩
 ·have e1:lo+((0:Nat):Int)*(-1)=lo:=by simp
  have e2:(((lo-hi).toNat:Nat):Int)-((0:Nat):Int)=Builtin.Range.rangeSize lo hi (-1):=by
   unfold Builtin.Range.rangeSize;rw [ao (by decide)]
   split
   ·rw [show -(-1:Int)=1 from rfl,Int.ediv_one];lia
   ·lia
  show IsRangeIter _ _ (lo+((0:Nat):Int)*(-1)) ((((lo-hi).toNat:Nat):Int)-((0:Nat):Int)) (-1);rw [e1,e2];exact gC _ rfl
 ·have e:b=(s.heap.push {cls:=.type "range",data:=.fields #[.int lo t,.int hi u,.int (-1) v]}).objs.size:=by simpa using hb
  subst e;exact I1.sD (aJ _) (I1.aC.fresh (aJ _))
theorem small_down{a b:Int}(h1:-(2 ^ 62)≤a)(h2:a<2 ^ 62)(h3:-(2 ^ 62)≤b)(h4:b<2 ^ 62):Builtin.Range.small a b (-1)=true:=by
 have e:Builtin.Range.rangeSize a b (-1)=if a>b then a-b else 0:=by
  unfold Builtin.Range.rangeSize;rw [ao (by decide)]
  split
  ·rw [show -(-1:Int)=1 from rfl,Int.ediv_one];lia
  ·rfl
 have f:∀{x:Int},-(2 ^ 63)≤x→x<2 ^ 63→Builtin.Range.rangeFitsLong x=true:=fun{x} h1 h2=>by unfold Builtin.Range.rangeFitsLong;simp;lia
 unfold Builtin.Range.small;rw [e,f (x:=a) (by lia) (by lia),f (x:=b) (by lia) (by lia),f (x:=-1) (by decide) (by decide),f (x:=if a>b then a-b else 0) (by split <;> lia) (by split <;> lia)]
 simp;exact .inr (f (by lia) (by lia))
def RF(ta:TA):TI:=fun σ H R=>ta σ H fun vs H1=>∃i j:Int,vs=[.int i,.int j,.int (-1)]∧(-(2 ^ 62)≤i∧i<2 ^ 62∧-(2 ^ 62)≤j∧j<2 ^ 62)∧R (tI i (i-j).toNat) H1
theorem RH{a b c:Expr}{ta:TA}{p pos:Pos}(hg:Gl X "range")(hm:X.mg "range"=none)(ha:PA X [a,b,c] ta)(hs:starEach [a,b,c] X.env=[(false,eval a X.env),(false,eval b X.env),(false,eval c X.env)]:=by rfl)(ku:starEach [b,c] X.env=[(false,eval b X.env),(false,eval c X.env)]:=by rfl) :
  PI X tg (.Call (.Name "range" p) [a,b,c] [] pos) (RF ta):=by
 intro pins s σ H R I h;refine Call_ (oO I hg hm boot_range (vQ (aG (ha pos pins s σ H _ I h) fun us s1 ⟨vs,H1,I1,r1,q1⟩=>?_) (by rw [hs,ku]) (by rw [ku];rfl)))
 obtain ⟨i,j,e,⟨q1,q2,q3,q4⟩,q⟩:=q1;subst e;cases r1 with
 | cons r rr=>
  cases rr with
  | cons r' rr=>
   cases rr with
   | cons r3 rr=>
    cases rr;obtain ⟨t,rfl⟩:=r;obtain ⟨t',rfl⟩:=r';obtain ⟨t3,rfl⟩:=r3;refine call_range_3 (by decide) (RD I1 (small_down q1 q2 q3 q4) q) (.inl ?_)
    have z:decide ((if ((-1:Int) == 0)=true then 0 else (-1:Int).natAbs.log2 / 30+1)>300)=false:=by decide +kernel
    unfold Builtin.divisionGoesByPylong;dsimp only;rw [z];rfl
theorem RI{n:Nat}{g:TG}{tb:TS}{D:Ends}(Pv:Nat→St→Hp→Prop)(h0:Pv 0 σ H)
  (hs:∀i σ H,i<n→Pv i σ H→g (.int (lo-i)) σ H fun σ2 H2=>tb {D with nx:=Pv (i+1),ct:=Pv (i+1),bk:=D.nx} σ2 H2) (hd:∀σ H,Pv n σ H→D.nx σ H) :
  ∃W:Nat→Nat→St→Hp→Prop,(∃m,W 0 m σ H)∧∀i m σ H,W i m σ H→
   ((tI lo n).stop i H∧D.nx σ H)∨((tI lo n).go i H∧∃N:St→Hp→Prop,(∀σ' H',N σ' H'→∃m',m'<m∧W (i+1) m' σ' H')∧∀x H',(tI lo n).eW i H x H'→g x σ H' fun σ2 H2=>tb {D with nx:=N,ct:=N,bk:=D.nx} σ2 H2):=by
 refine ⟨fun i m σ H=>m=n-i∧i≤n∧Pv i σ H,⟨n,by simp,b9 _,h0⟩,?_⟩
 rintro i m σ H ⟨rfl,hi,p⟩;by_cases cN:i<n
 ·refine .inr ⟨cN,Pv (i+1),fun σ' H' p'=>⟨n-(i+1),by lia,rfl,cN,p'⟩,fun x H' y=>?_⟩
  obtain ⟨e,y⟩:=y;subst e y;exact hs i σ _ cN p
 ·have e:i=n:=by lia
  subst e;exact .inl ⟨aJ _,hd σ H p⟩
end
theorem RJ{X:Cx}{K:aF}{e:Expr}{f:Str}{pos:Pos}{ta:TE}(he:PE X e ta)(hb:attributeBase e f X.env (eval e X.env)=eval e X.env)(hK:X.K=K:=by rfl):PE X (.Attribute e f pos) (HI K ta f):=by subst hK;exact oZ he hb
end L2
namespace My
open PySem L2
def Cg(q a b:Int):Prop:=q∣a-b
variable {q:Int}
theorem Cg.refl(a:Int):Cg q a a:=⟨0,by lia⟩
variable {b:Int}
theorem Cg.of_eq{a:Int}(h:a=b):Cg q a b:=h▸Cg.refl a
theorem Cg.symm{a:Int}(h:Cg q a b):Cg q b a:=by obtain ⟨k,e⟩:=h;exact ⟨-k,by rw [gF];lia⟩
variable {c:Int}
theorem Cg.trans{a:Int}(h1:Cg q a b)(h2:Cg q b c):Cg q a c:=by obtain ⟨k,e⟩:=h1;obtain ⟨l,e'⟩:=h2;exact ⟨k+l,by rw [j8];lia⟩
variable {d:Int}
theorem Cg.add{a:Int}(h1:Cg q a b)(h2:Cg q c d):Cg q (a+c) (b+d):=by obtain ⟨k,e⟩:=h1;obtain ⟨l,e'⟩:=h2;exact ⟨k+l,by rw [j8];lia⟩
theorem Cg.sub{a:Int}(h1:Cg q a b)(h2:Cg q c d):Cg q (a-c) (b-d):=by obtain ⟨k,e⟩:=h1;obtain ⟨l,e'⟩:=h2;exact ⟨k-l,by rw [mK];lia⟩
theorem Cg.mulL{a:Int}(c:Int)(h:Cg q a b):Cg q (c*a) (c*b):=by obtain ⟨k,e⟩:=h;exact ⟨c*k,by rw [←mK,e];grind⟩
theorem Cg.mulR{a:Int}(c:Int)(h:Cg q a b):Cg q (a*c) (b*c):=by rw [j7 a,j7 b];exact h.mulL c
theorem ib(q a:Int):Cg q (a % q) a:=⟨-(a / q),by have:=Int.mul_ediv_add_emod a q;rw [gF];lia⟩
theorem Cg.nz{a:Int}(h:Cg q a b)(n:¬q∣b):¬q∣a:=fun d=>n (by
 have:b=a-(a-b):=by lia
 rw [this];exact Int.dvd_sub d h)
theorem DQ{q:Int}:∀{n:Nat} {f g:Nat→Int},(∀i,i<n→Cg q (f i) (g i))→Cg q (aQ n f) (aQ n g)
 | 0,_,_,_=>Cg.refl _
 | n+1,f,g,h=>by unfold aQ;exact (h 0 (by lia)).add (DQ fun i hi=>h (i+1) (by lia))
variable {B:Nat}
theorem DR{a:Int}(hq:ax q)(b1:1000≤B)(h:a.natAbs≤B):(a % q).natAbs≤B:=by
 rcases hq with rfl | ⟨h2,h3,_⟩;·rw [Int.emod_zero];exact h
 ·have:=dA a (show q≠0 by lia)
  have:=dN a (show 0<q by lia)
  lia
theorem lT(t:Int)(u:Nat→Int)(i k:Nat):∀m,cK m t u i k=if i≤k∧k<i+m then t*u (k-i) else 0
 | 0=>by
  rw [ao (by lia)]
  rfl
 | m+1=>by
  have e:cK (m+1) t u i k=cK m t u i k+if i+m=k then t*u m else 0:=by unfold cK;rw [gw]
  rw [e,lT t u i k m];by_cases h:i+m=k
  ·rw [ao (by lia),ar h,ar (by lia),show k-i=m by lia]
   lia
  ·rw [ao h]
   by_cases h2:i≤k∧k<i+m;·rw [ar h2,ar (by lia)];lia
   ·rw [ao h2,ao (by lia)];lia
def convS(s n m:Nat)(f g:Nat→Int)(k:Nat):Int:=aQ n fun i=>cK m (f i) g (s+i) k
theorem RK(n m:Nat)(f g:Nat→Int)(k:Nat):convS 0 n m f g k=bK n m f g k:=by unfold convS bK;exact cY fun i _=>by rw [v_]
theorem RL(s n m:Nat)(f g:Nat→Int)(k:Nat):convS s (n+1) m f g k=cK m (f 0) g s k+convS (s+1) n m (fun i=>f (i+1)) g k:=by unfold convS;rw [aQ];exact fT (_ + ·) (cY fun i _=>by rw [show s+(i+1)=s+1+i by lia])
theorem RM(c t:Int)(u:Nat→Int)(m i k:Nat):cK m (c*t) u i k=c*cK m t u i k:=by
 rw [lT,lT]
 split
 ·rw [ir]
 ·rw [cJ]
theorem RN(c:Int)(s n m:Nat)(f g:Nat→Int)(k:Nat):convS s n m (fun i=>c*f i) g k=c*convS s n m f g k:=by unfold convS;rw [tF];exact cY fun i _=>RM ..
variable {t:Int}
theorem RO{t':Int}(h:Cg q t t')(u:Nat→Int)(m i k:Nat):Cg q (cK m t u i k) (cK m t' u i k):=by
 rw [lT,lT]
 split
 ·exact h.mulR _
 ·exact Cg.refl _
variable {n m k:Nat} {f g:Nat→Int}
theorem RP{s:Nat}{f':Nat→Int}(h:∀i,i<n→Cg q (f i) (f' i)):Cg q (convS s n m f g k) (convS s n m f' g k):=
 DQ fun i hi=>RO (h i hi) g m (s+i) k
structure kJ (q:Int) (ts us:List Int) (T U n i:Nat) (bs ls:List Int) (az:Int):Prop where
 lb:bs.length=i
 ll:ls.length=ts.length-i
 eq:∀k,Cg q (az*ts.getD k 0) (convS (n-i) i us.length (fun j=>bs.getD j 0) (fun j=>us.getD j 0) k+ls.getD k 0)
 nz:¬q∣az
 last:0<i→¬q∣bs.getD (i-1) 0
 bb:∀x∈bs,x.natAbs*(2*U)≤T*(2*U) ^ i
 bl:∀x∈ls,x.natAbs≤T*(2*U) ^ i
 bm:az.natAbs≤1000*(2*U) ^ i
theorem dw{α:Type}{xs:List α}{d:α}(h:xs.length≤k):xs.getD k d=d:=by rw [fD,k9 h];rfl
variable {xs:List Int}
theorem nJ(h:∀x∈xs,x.natAbs≤B)(k:Nat):(xs.getD k 0).natAbs≤B:=by
 by_cases hk:k<xs.length;·rw [getD_at hk];exact h _ (gD _)
 ·rw [dw (by lia)];exact b9 _
theorem xk{f:Int→Int}(h0:f 0=0)(k:Nat):(xs.map f).getD k 0=f (xs.getD k 0):=by
 by_cases hk:k<xs.length;·rw [getD_at (by simpa using hk),getD_at hk,ju]
 ·rw [dw (by simp;lia),dw (by lia),h0]
variable {ts us:List Int} {T U:Nat}
theorem kJ.start(hq:ax q)(hT:∀x∈ts,x.natAbs≤T)(hn:n=ts.length+1-us.length):kJ q ts us T U n 0 [] ts 1 where
 lb:=rfl
 ll:=rfl
 eq:=fun k=>Cg.of_eq (by unfold convS aQ;lia)
 nz:=fun h=>by
  rcases hq with rfl | ⟨h2,_⟩
  ·have:=gG.mp h
   lia
  ·have:=rT (by decide) h
   lia
 last:=fun h=>absurd h (by decide)
 bb:=fun x hx=>by simp at hx
 bl:=fun x hx=>by simpa using hT x hx
 bm:=by simp
def e7(place:Nat)(head:Int)(us:List Int):List Int:=List.replicate place 0++us.dropLast.map fun u=>head*u
variable {place:Nat} {head:Int}
theorem DS:(e7 place head us).length=place+(us.length-1):=by unfold e7;rw [jo,g9,aT,List.length_dropLast]
theorem RQ(hk:k<place+(us.length-1)):(e7 place head us).getD k 0=if place≤k then head*us.getD (k-place) 0 else 0:=by
 unfold e7;rw [fD];by_cases h:place≤k
 ·rw [ar h,g8 (by simpa using h),g9,fV,List.getElem?_dropLast,ar (by lia),List.getElem?_eq_getElem (show k-place<us.length by lia),getD_at (show k-place<us.length by lia)]
  rfl
 ·rw [ao h,ip (by simp;lia),k6,ar (by lia)]
  rfl
theorem kJ.step{i:Nat}{bs ls:List Int}{az:Int}(h:kJ q ts us T U n i bs ls az)(hq:ax q)(hn:n=ts.length+1-us.length)(hi:i<n)(hu:1≤us.length)
  (hU:∀x∈us,x.natAbs≤U) (Jx:1≤U) (xl:1000≤T) (lz:¬q∣us.getD (us.length-1) 0) (tz:¬q∣ts.getD (ts.length-1) 0) :
  kJ q ts us T U n (i+1) (([ls.getD (ls.length-1) 0]++bs.map fun x=>us.getD (us.length-1) 0*x).map fun x=>x % q)
   (((List.zip ls (e7 (n-1-i) (ls.getD (ls.length-1) 0) us)).map fun ab=>us.getD (us.length-1) 0*ab.1-ab.2).map fun x=>x % q) (az*us.getD (us.length-1) 0 % q):=by
 generalize lU:us.getD (us.length-1) 0=lead at lz;generalize tJ:ls.getD (ls.length-1) 0=head;have Jy:=h.ll;have RR:=h.lb;have xn:head.natAbs≤T*(2*U) ^ i:=by rw [←tJ];exact nJ h.bl _
 have xo:lead.natAbs≤U:=by rw [←lU];exact nJ hU _
 have pw:T*(2*U) ^ (i+1)=T*(2*U) ^ i*(2*U):=by rw [fF,mH]
 have pp:1≤(2*U) ^ i:=ka (by lia)
 have T1:1000≤T*(2*U) ^ i:=ae xl (fW _ pp);have T2:T*(2*U) ^ i≤T*(2*U) ^ (i+1):=by rw [pw];exact fW _ (by lia)
 have zl:(List.zip ls (e7 (n-1-i) head us)).length=ts.length-(i+1):=by rw [yQ,DS,Jy];lia
 refine ⟨?_,?_,?_,?_,?_,?_,?_,?_⟩;·simp [RR]
 ·rw [aT,aT,zl]
 ·intro k
  have e0:=h.eq k;have el:∀k,Cg q ((((List.zip ls (e7 (n-1-i) head us)).map fun ab=>lead*ab.1-ab.2).map fun x=>x % q).getD k 0) (lead*ls.getD k 0-cK us.length head (fun j=>us.getD j 0) (n-1-i) k):=fun k=>by
   rw [lT];by_cases hk:k<ts.length-(i+1)
   ·have DT:k<(List.zip ls (e7 (n-1-i) head us)).length:=by lia
    have k1:k<ls.length:=by lia
    have k2:k<(e7 (n-1-i) head us).length:=by rw [DS];lia
    rw [getD_at (by simpa using DT),ju,ju,List.getElem_zip,getD_at k1]
    have e1:(e7 (n-1-i) head us)[k]=if n-1-i≤k∧k<n-1-i+us.length then head*us.getD (k-(n-1-i)) 0 else 0:=by
     rw [←getD_at (d:=0) k2,RQ (by rw [DS] at k2;exact k2)]
     by_cases z:n-1-i≤k;·rw [ar z,ar (by lia)]
     ·rw [ao z,ao (by lia)]
    rw [e1];exact ib _ _
   ·rw [dw (by rw [aT,aT,zl];lia)]
    by_cases DT:k=ts.length-(i+1)
    ·have e1:ls.getD k 0=head:=by rw [←tJ,Jy,DT];congr 1
     have e2:k-(n-1-i)=us.length-1:=by lia
     rw [ar (by lia),e1,e2,lU,j7]
     exact Cg.of_eq (by lia)
    ·rw [ao (by lia),dw (by lia)]
     exact Cg.of_eq (by simp)
  have eb:∀j,Cg q ((([head]++bs.map fun x=>lead*x).map fun x=>x % q).getD j 0) (if j=0 then head else lead*bs.getD (j-1) 0):=fun j=>by
   rw [xk (by simp)]
   refine (ib _ _).trans (Cg.of_eq ?_);cases j with
   | zero=>rfl
   | succ j=>
    rw [ao (by lia)]
    show ((head::bs.map fun x=>lead*x).getD (j+1) 0)=_;rw [List.getD_cons_succ,xk (by simp)]
    simp
  have ec:Cg q (convS (n-(i+1)) (i+1) us.length (fun j=>(([head]++bs.map fun x=>lead*x).map fun x=>x % q).getD j 0) (fun j=>us.getD j 0) k) (cK us.length head (fun j=>us.getD j 0) (n-1-i) k+lead*convS (n-i) i us.length (fun j=>bs.getD j 0) (fun j=>us.getD j 0) k):=by
   refine (RP fun j _=>eb j).trans (Cg.of_eq ?_);rw [RL,show n-(i+1)+1=n-i by lia,show n-(i+1)=n-1-i by lia,ar rfl]
   have:(fun j=>if j+1=0 then head else lead*bs.getD (j+1-1) 0)=fun j=>lead*bs.getD j 0:=funext fun j=>by rw [ao (by lia),mJ]
   rw [this,RN]
  have em:Cg q (az*lead % q*ts.getD k 0) (lead*(az*ts.getD k 0)):=((ib q (az*lead)).mulR _).trans (Cg.of_eq (by grind))
  refine em.trans ((e0.mulL lead).trans (Cg.trans ?_ (ec.add (el k)).symm));exact Cg.of_eq (by rw [j8];lia)
 ·exact (ib q _).nz (dY hq h.nz lz)
 ·intro _
  rw [xk (by simp)]
  refine (ib q _).nz ?_;show ¬q∣(head::bs.map fun x=>lead*x).getD i 0;cases i with
  | zero=>
   rw [List.getD_cons_zero,←tJ,show ls.length-1=ts.length-1 by lia]
   have e0:=h.eq (ts.length-1);have z:convS (n-0) 0 us.length (fun j=>bs.getD j 0) (fun j=>us.getD j 0) (ts.length-1)=0:=rfl;rw [z,wc] at e0;exact e0.symm.nz (dY hq h.nz tz)
  | succ i=>
   rw [List.getD_cons_succ,xk (by simp)]
   exact dY hq lz (h.last (by lia))
 ·intro x hx
  obtain ⟨y,hy,rfl⟩:=fE.mp hx;refine ae (gi (2*U) (DR (B:=T*(2*U) ^ i) hq T1 ?_)) (iT pw.symm);rcases ik.mp hy with hy | hy
  ·rw [iV.mp hy]
   exact xn
  ·obtain ⟨w,hw,rfl⟩:=fE.mp hy
   rw [a8,jq];exact ae (d4 _ (ae xo (show U≤2*U by lia))) (h.bb w hw)
 ·intro x hx
  obtain ⟨y,hy,rfl⟩:=fE.mp hx;refine DR hq (ae T1 T2) ?_;obtain ⟨ab,DU,rfl⟩:=fE.mp hy;have m:=rR DU;have b1:(lead*ab.1).natAbs≤T*(2*U) ^ i*U:=by rw [a8,jq];exact bH (h.bl _ m.1) xo
  have b2:ab.2.natAbs≤T*(2*U) ^ i*U:=by
   have m2:=m.2;unfold e7 at m2;rcases ik.mp m2 with z | z;·rw [(yR.mp z).2];exact b9 _
   ·obtain ⟨u,kF,e⟩:=fE.mp z
    rw [←e,a8];exact bH xn (hU u (List.dropLast_subset _ kF))
  have e:T*(2*U) ^ i*(2*U)=T*(2*U) ^ i*U+T*(2*U) ^ i*U:=by rw [Nat.mul_left_comm,oI]
  rw [pw,e];show (lead*ab.1-ab.2).natAbs≤_;lia
 ·refine DR hq ?_ ?_
  ·exact fW _ (ka (by lia))
  ·rw [a8,fF,←mH]
   exact bH h.bm (ae xo (by lia))
variable {wi:TI} {ρ:St→St} {te:TE} {σ:St} {H:Hp} {Q:VK}
theorem xp(g:Int→Int)(hn:ts.length≤500)
  (iF:∀R:It→Hp→Prop,(∀J H1,ai H H1→tq J (ts.map V.int) H1→R J H1)→wi σ H R)
  (step:∀t∈ts,∀(Hc:Hp) (R:VK),ai H Hc→(∀H3,ai Hc H3→R (.int (g t)) H3)→te (some (.int t)::ρ σ) Hc R)
  (fin:∀D Hc,H D=none→ai H Hc→Hc D=some (.lst ((ts.map g).map V.int))→Q (.ref D) Hc):pb wi ρ (fun _ H Q=>Q true H) te σ H Q:=by
 refine pJ (xs:=ts.map V.int) iF (by rw [aT];exact jF (by lia)) (fun _ i y _=>∃t,ts[i]?=some t∧y=.int (g t)) (fun _ _ _ _ _ _ h _ _=>h) ?_ ?_
 ·intro D i v hi Hc R sc _ kc
  rw [fV] at hi;cases e:ts[i]? with
  | none=>rw [e] at hi;cases hi
  | some t=>rw [e] at hi;cases hi;exact step t (List.mem_of_getElem? e) Hc R sc fun H3 s3=>kc _ H3 s3 ⟨t,e,rfl⟩
 ·intro D ys Hc nD sc e_ hP eD
  have ey:ys=(ts.map g).map V.int:=zK (by rw [e_,aT,aT]) fun i v e=>by obtain ⟨t,e1,e2⟩:=hP i v e;exact ⟨g t,by rw [fV,e1];rfl,e2⟩
  rw [ey] at eD;exact fin D Hc nD sc eD
theorem Jz{K:aF}{ys:List Int}(g:Int→Int→Int)(hn:xs.length≤500)
  (iF:∀R:It→Hp→Prop,(∀J H1,ai H H1→zI J ((xs.map V.int).zip (ys.map V.int)) H1→R J H1)→wi σ H R)
  (step:∀x y,(x,y)∈xs.zip ys→∀(Hc:Hp) (R:VK),ai H Hc→(∀H3,ai Hc H3→R (.int (g x y)) H3)→te (some (.int x)::some (.int y)::ρ σ) Hc R)
  (fin:∀D Hc,ai H Hc→Hc D=some (.lst (((xs.zip ys).map fun ab=>g ab.1 ab.2).map V.int))→Q (.ref D) Hc):tD K wi ρ (fun _ H Q=>Q true H) te σ H Q:=by
 have lz:((xs.map V.int).zip (ys.map V.int)).length=(xs.zip ys).length:=by simp [yQ]
 have at':∀(i:Nat) (v u:V),((xs.map V.int).zip (ys.map V.int))[i]?=some (v,u)→∃x y,(xs.zip ys)[i]?=some (x,y)∧v=.int x∧u=.int y:=fun i v u e=>by
  obtain ⟨h1,h2⟩:=Cq.mp e;rw [fV] at h1 h2;cases e1:xs[i]? with
  | none=>rw [e1] at h1;cases h1
  | some x=>
   cases e2:ys[i]? with
   | none=>rw [e2] at h2;cases h2
   | some y=>rw [e1] at h1;rw [e2] at h2;cases h1;cases h2;exact ⟨x,y,Cq.mpr ⟨e1,e2⟩,rfl,rfl⟩
 refine QL (zs:=(xs.map V.int).zip (ys.map V.int)) iF (by rw [lz,yQ];exact jF (by lia)) (fun i v=>∃x y,(xs.zip ys)[i]?=some (x,y)∧v=.int (g x y)) ?_ ?_
 ·intro i v u hi Hc R sc kc
  obtain ⟨x,y,e,rfl,rfl⟩:=at' i v u hi;exact step x y (List.mem_of_getElem? e) Hc R sc fun H3 s3=>kc _ H3 s3 ⟨x,y,e,rfl⟩
 ·intro D vs Hc sc DV hP eD
  have ey:vs=((xs.zip ys).map fun ab=>g ab.1 ab.2).map V.int:=zK (by rw [DV,lz,aT]) fun i v e=>by obtain ⟨x,y,e1,e2⟩:=hP i v e;exact ⟨g x y,by rw [fV,e1];rfl,e2⟩
  rw [ey] at eD;exact fin D Hc sc eD
theorem RT(xs:List V):mY xs none (some (-1))=xs.dropLast:=by
 have e:HT.eJ xs.length xs.length (some (-1))=xs.length-1:=by unfold HT.eJ;simp;lia
 unfold mY;rw [e,show HT.eJ xs.length 0 none=0 from rfl,List.drop_zero,rY,List.dropLast_eq_take]
theorem zS(h:1≤xs.length):dD (xs.map V.int) (-1)=some (.int (xs.getD (xs.length-1) 0)):=by
 obtain ⟨ys,y,rfl⟩:∃ys y,xs=ys++[y]:=⟨xs.dropLast,xs.getLast (by intro e;simp [e] at h),(List.dropLast_concat_getLast _).symm⟩
 rw [rZ];show dD (ys.map V.int++[V.int y]) (-1)=_;rw [O5,jo,Ci,mJ,getD_at (by simp)]
 simp
theorem DW:∀place:Nat,(List.replicate ((place:Int).toNat) [V.int 0]).flatten=(List.replicate place (0:Int)).map V.int:=fun place=>by
 rw [dM,List.map_replicate]
 induction place with
 | zero=>rfl
 | succ m ih=>rw [k7,vT,ih,k7];rfl
theorem JA{a:Int}{v:V}(ho:pE H q v a b)(hq:ax q)(nb:¬q∣b)(ba:a.natAbs≤B)(bb:b.natAbs≤B):∃p:Int×Int,a7 B H q v p.1 p.2∧aS q p (a,b):=by
 rcases ho with ⟨rfl,r,rfl,e⟩ | ⟨q2,r,rfl,r0,r1,er⟩
 ·have hb:b≠0:=fun z=>nb (z▸iW 0)
  obtain ⟨l,w,b1,b2⟩:=Dr (a:=a) hb;exact ⟨(fN a b,fO a b),.bS e l (ae b1 ba) (ae b2 bb),⟨0,by dsimp only;lia⟩⟩
 ·have q3:q≤997:=by rcases hq with h | h <;> lia
  refine ⟨(r,1),.rem r0 r1 q3,?_⟩;show q∣r*b-a*1;have h1:Cg q (r*(b % q)) a:=(ib q _).symm.trans (er▸ib q a);have h2:Cg q (r*b) (r*(b % q)):=((ib q b).mulL r).symm;have h3:=h2.trans h1;rw [fU];exact h3
theorem JB(ps:aK):∀n k,di ps n≤k→k<n→(ps.getD k o1).1=0
 | 0,_,_,h=>by lia
 | n+1,k,h1,h2=>by
  unfold di at h1;by_cases z:(ps.getD n o1).1=0
  ·rw [ar z] at h1
   by_cases e:k=n;·rw [e];exact z
   ·exact JB ps n k h1 (by lia)
  ·rw [ao z] at h1
   lia
theorem JD(ps:aK):∀n,0<di ps n→(ps.getD (di ps n-1) o1).1≠0
 | 0,h=>by simp [di] at h
 | n+1,h=>by
  unfold di at h ⊢;by_cases z:(ps.getD n o1).1=0
  ·rw [ar z] at h ⊢
   exact JD ps n h
  ·rw [ao z] at h ⊢
   exact z
theorem DX(ps:aK):(aN ps).length=di ps ps.length:=by unfold aN;rw [mD];have:=DJ ps ps.length;lia
variable {ps:aK}
theorem iI(h:k<(aN ps).length):(aN ps).getD k o1=ps.getD k o1:=by have h':=h;rw [DX] at h';unfold aN;rw [fD,Cf h',←fD]
theorem JE(h:(aN ps).length≤k):(ps.getD k o1).1=0:=by
 rw [DX] at h;by_cases hk:k<ps.length;·exact JB ps ps.length k h hk
 ·rw [dw (by lia)];rfl
theorem zT(h:0<(aN ps).length):((aN ps).getD ((aN ps).length-1) o1).1≠0:=by
 rw [iI (by lia)]
 rw [DX] at h ⊢;exact JD ps ps.length h
theorem zU(h:0<ps.length→(ps.getD (ps.length-1) o1).1≠0):aN ps=ps:=by
 unfold aN;cases e:ps.length with
 | zero=>rw [mI.mp e];rfl
 | succ m=>
  unfold di;have z:=h (by lia)
  rw [e,mJ] at z;rw [ao z,←e,List.take_length]
theorem xq{p:Int×Int}(h:p∈aN ps):p∈ps:=List.mem_of_mem_take h
variable {D:Int}
theorem tK{f:Int}{p:Int×Int}(hq:ax q)(hT:1000≤T)(hc:Canon q p)(e:t*p.2=p.1*b)(ok:aY q b)(c_:aY q D)(db:b∣D)(w:aS q p (f,D))(bf:f.natAbs≤T):t.natAbs≤T:=by
 by_cases z:q=0
 ·subst z
  have hp:=(hc.bot).1 rfl;have hb:=ok.1 rfl;have hD:=c_.1 rfl;obtain ⟨k,ek⟩:=w;have e2:p.1*D=f*p.2:=by dsimp only at ek;omega
  have e3:t*D=f*b:=by
   have:(t*D)*p.2=(f*b)*p.2:=by rw [r6,e,r6,e2,r6]
   exact Co (show p.2≠0 by lia) this
  have e4:t.natAbs*D.natAbs=f.natAbs*b.natAbs:=by rw [←a8,e3,a8]
  have e5:b.natAbs≤D.natAbs:=je db (by lia)
  have e6:t.natAbs*D.natAbs≤f.natAbs*D.natAbs:=by rw [e4];exact d4 _ e5
  exact ae (Cm e6 (by lia)) bf
 ·have e1:=(hc.2 z)
  have q3:q≤997:=by rcases hq with h | h <;> lia
  rw [e1.1,ok.2 z] at e;lia
theorem JF(l:ts.length=(aN ps).length)(h:∀k,k<(aN ps).length→aS q ((aN ps).getD k o1) (ts.getD k 0,b))(k:Nat):aS q (ps.getD k o1) (ts.getD k 0,b):=by
 by_cases hk:k<(aN ps).length
 ·rw [←iI hk]
  exact h k hk
 ·have z:=JE (ps:=ps) (k:=k) (by lia)
  rw [dw (xs:=ts) (by lia)]
  exact ⟨0,by dsimp only;rw [z];simp⟩
theorem aE.dJ{a:Addr}(h:aE B H q a ps):∀p∈ps,Canon q p:=fun p hp=>by
 obtain ⟨vs,e,l,k⟩:=h;obtain ⟨i,hi,rfl⟩:=iu hp;have hv:i<vs.length:=by lia
 exact (k i vs[i] ps[i] (by simp [hv]) (by simp [hi])).canon
theorem JG(hq:ax q):Canon q o1:=⟨fun _=>⟨by decide,by decide⟩,fun z=>⟨rfl,by decide,by rcases hq with h | h;exact absurd h z;show (0:Int)<q;lia⟩⟩
theorem dP(hq:ax q)(h:∀p∈ps,Canon q p)(k:Nat):Canon q (ps.getD k o1):=by
 by_cases hk:k<ps.length;·rw [getD_at hk];exact h _ (gD _)
 ·rw [dw (by lia)];exact JG hq
theorem DY{x M:Int}{p:Int×Int}(hq:ax q)(hc:Canon q p)(nx:¬q∣x)(w:aS q p (x,M)):p.1≠0:=fun z=>by obtain ⟨k,e⟩:=w;dsimp only at e;rw [z,jt,rV] at e;refine dY hq nx (hc.bot.nz hq) ⟨-k,?_⟩;rw [gF,←e,Int.neg_neg]
theorem RU{p:Int×Int}(hc:Canon q p)(h:p.1≠0):¬q∣p.1:=fun d=>by
 by_cases z:q=0
 ·subst z
  exact h (gG.mp d)
 ·have e:=hc.2 z
  have:=rT (by lia) d
  lia
theorem zV{p:Int×Int}(hq:ax q)(hc:Canon q p)(h:p.1≠0)(e:t*p.2=p.1*b)(ok:aY q b):¬q∣t:=fun d=>by refine dY hq (RU hc h) (ok.nz hq) ?_;rw [←e];exact jr d (vX ..)
theorem JH{q:Int}{F:Nat}(hF:1≤F):∀(xs:aK),(∀p∈xs,aY q p.2∧p.2.natAbs≤F)→∃D:Int,aY q D∧(∀p∈xs,p.2∣D)∧D.natAbs≤F ^ xs.length∧∀p∈xs,D.natAbs≤p.2.natAbs*F ^ (xs.length-1)
 | [],_=>⟨1,aY.one,fun p hp=>by simp at hp,by simp,fun p hp=>by simp at hp⟩
 | x::xs,h=>by
  obtain ⟨D,h1,h2,h3,h4⟩:=JH hF xs (fun p hp=>h p (gZ _ hp));have hx:=h x kZ;refine ⟨x.2*D,hx.1.mul h1,fun p hp=>?_,?_,fun p hp=>?_⟩
  ·rcases dR.mp hp with e | e
   ·rw [e];exact vX ..
   ·exact jr (h2 p e) (vZ ..)
  ·rw [a8,eQ,fF,jq]
   exact bH h3 hx.2
  ·rw [a8,eQ,mJ]
   rcases dR.mp hp with e | e;·rw [e];exact d4 _ h3
   ·have l:1≤xs.length:=List.length_pos_of_mem e
    refine ae (bH hx.2 (h4 p e)) (iT ?_);rw [show xs.length=xs.length-1+1 by lia,fF,mJ]
    rw [Nat.mul_left_comm,jq F]
structure RowW (q:Int) (ps:aK) (D:Int) (f:Nat→Int) (X Y L:Nat):Prop where
 ok:aY q D
 dvd:∀p∈ps,p.2∣D
 w:∀i,aS q (ps.getD i o1) (f i,D)
 bf:∀i,(f i).natAbs≤X
 bD:D.natAbs≤Y
 out:∀i,L≤i→f i=0
theorem canon_zero{p:Int×Int}(hc:Canon q p)(h:p.1=0):p=o1:=by
 obtain ⟨x,m⟩:=p;dsimp only at h;subst h;by_cases z:q=0
 ·have l:=hc.1 z
  have e:m=1:=by have l1:=l.pos;have l2:=l.2;simp at l2;lia
  rw [e];rfl
 ·rw [show m=1 from (hc.2 z).1]
  rfl
theorem DZ(hq:ax q)(hc:∀p∈ps,Canon q p)(k:Nat):(aN ps).getD k o1=ps.getD k o1:=by
 by_cases hk:k<(aN ps).length;·exact iI hk
 ·rw [dw (by lia),canon_zero (dP hq hc k) (JE (by lia))]
theorem zW:aS q o1 (0,D):=⟨0,by show (0:Int)*D-0*1=_;simp⟩
variable {N:Nat}
theorem D4(hq:ax q)(ok:aY q D):∀p∈cZ q n m f g D N,Canon q p:=fun p hp=>by unfold cZ at hp;obtain ⟨k,_,rfl⟩:=fE.mp hp;exact gR hq ok
theorem zX{α:Type}{F:Nat→α}{d:α}(hk:k<N):((List.range N).map F).getD k d=F k:=by rw [getD_at (by simpa using hk),ju,List.getElem_range]
theorem D7(ok:aY q D)(k:Nat):aS q ((cZ q n m f g D (n+m-1)).getD k o1) (bK n m f g k,D):=by
 by_cases hk:k<n+m-1
 ·unfold cZ
  rw [zX hk];exact gx ok
 ·rw [dw (by simp [cZ];lia),Jv (by lia)]
  exact zW
end My
namespace L2
open PySem PySem.Spec PyProof.Rows
variable {c:TT} {t:TS} {D:Ends} {σ:St} {H:Hp}
theorem xr{u:TS}(k:∀R:St→Hp→Prop,(∀σ H,D.nx σ H→R σ H)→wt c t u {D with nx:=R} σ H):wt c t u D σ H:=k D.nx fun _ _ h=>h
theorem RV{u:TS}(hc:∀Q:Bool→Hp→Prop,(∀b,Q b H)→c σ H Q)(ht:t D σ H)(hu:u D σ H):wt c t u D σ H:=hc _ fun b=>by
 cases b with
 | true=>rw [ar rfl];exact ht
 | false=>rw [ao dk];exact hu
end L2
namespace My
open PySem L2
variable {q:Int}
theorem RowW.weak{ps:aK}{D:Int}{f:Nat→Int}{X Y L X' Y' L':Nat}(h:RowW q ps D f X Y L)(hx:X≤X')(hy:Y≤Y')(hl:L≤L'):RowW q ps D f X' Y' L':=
 ⟨h.ok,h.dvd,h.w,fun i=>ae (h.bf i) hx,ae h.bD hy,fun i hi=>h.out i (by lia)⟩
variable {b:Int}
theorem JI{a D1 D2:Int}{p r:Int×Int}(h1:aS q p (a,D1))(h2:aS q r (b,D2)):aS q (p.1*r.1,p.2*r.2) (a*b,D1*D2):=by obtain ⟨k1,e1⟩:=h1;obtain ⟨k2,e2⟩:=h2;dsimp only at e1 e2;refine ⟨k1*(r.1*D2)+a*p.2*k2,?_⟩;dsimp only;grind
theorem Cg.mul{a c d:Int}(h1:Cg q a b)(h2:Cg q c d):Cg q (a*c) (b*d):=(h1.mulR c).trans (h2.mulL b)
theorem Cg.pow{q a b:Int}(h:Cg q a b):∀k:Nat,Cg q (a ^ k) (b ^ k)
 | 0=>by rw [wd,wd];exact Cg.refl 1
 | k+1=>by rw [we,we];exact (Cg.pow h k).mul h
theorem pM{q a:Int}(hq:ax q)(ha:¬q∣a):∀k:Nat,¬q∣a ^ k
 | 0=>by rw [wd];exact aY.one.nz hq
 | k+1=>by rw [we];exact dY hq (pM hq ha k) ha
end My
namespace L2
open PySem PySem.Spec PyProof.Rows
section
variable {X:Cx} {e:Expr} {te:TE} {pos p2:Pos}
end
end L2
namespace My
open PySem L2
def zY(n:Nat):Prop:=n=0∨40<n
def RX(N:Addr):Sp:=fun vs H Q E=>∃(a:Addr) (xs:List V),vs=[.ref a]∧H a=some (.lst xs)∧xs.length≤1000∧(zY xs.length→E (.ref N) none H)∧(¬zY xs.length→Q (.int (xs.length:Int)) H)
def RY(N:Addr):Sp:=fun vs H Q E=>∃(n:Nat) (a:Addr) (xs:List V),vs=[.int (n:Int),.ref a]∧H a=some (.lst xs)∧(xs.length≠n→E (.ref N) none H)∧(xs.length=n→Q .aV H)
end My
namespace L2
open PySem PySem.Spec PyProof.Rows
section
variable {X:Cx} {pins:aZ} {σ:St} {H:Hp} {s:Shared}
end
end L2
namespace My
open PySem L2
theorem RZ{a b:Int}(h:Cg 0 a b):a=b:=by have:=gG.mp h;lia
variable {q:Int}
theorem R0{a:Int}(h:¬q∣a):a≠0:=fun e=>h (e▸dB q)
def JJ(C:Addr):Sp:=fun vs H Q _=>∃(z a:Addr) (q:Int) (ts:List Int) (b:Int) (u:Nat→Int),vs=[.ref z,.ref a,.int b]∧dg C H z q∧ax q∧H a=some (.lst (ts.map V.int))∧ts.length≤500∧(∀t∈ts,aP t)∧aP b∧¬q∣b∧(∀i,i<ts.length→Cg q (ts.getD i 0) (b*u i)) ∧
 ∀(c:Addr) (H':Hp) (rs:List Int),ai H H'→H c=none→H' c=some (.lst (rs.map V.int))→rs.length=ts.length→(∀i,i<ts.length→Cg q (rs.getD i 0) (u i))→(q≠0→∀x∈rs,0≤x∧x<q)→Q (.ref c) H'
def ag(xs:List Int):Nat→Int:=fun i=>xs.getD i 0
def cv(f g:Nat→Int)(k:Nat):Int:=aQ (k+1) fun i=>f i*g (k-i)
section
variable {q:Int} {f f' g g':Nat→Int} {k:Nat}
theorem zZ:cv (fun i=>f i+f' i) g k=cv f g k+cv f' g k:=by unfold cv;rw [←zM];exact cY fun i _=>by grind
theorem gS(c:Int):cv (fun i=>c*f i) g k=c*cv f g k:=by unfold cv;rw [tF];exact cY fun i _=>by grind
theorem JK:cv f (fun i=>g i+g' i) k=cv f g k+cv f g' k:=by unfold cv;rw [←zM];exact cY fun i _=>by grind
theorem nK(c:Int):cv f (fun i=>c*g i) k=c*cv f g k:=by unfold cv;rw [tF];exact cY fun i _=>by grind
theorem jO(h:∀i,Cg q (f i) (f' i))(h':∀i,Cg q (g i) (g' i)):Cg q (cv f g k) (cv f' g' k):=DQ fun i _=>((h i).mulR _).trans ((h' _).mulL _)
theorem D8(n:Nat)(F:Nat→Int):aQ (n+1) F=aQ n F+F n:=gw n F
theorem JL(F:Nr):∀k,(aQ (k+1) fun i=>aQ (k+1-i) fun j=>F i j)=aQ (k+1) fun s=>aQ (s+1) fun i=>F i (s-i)
 | 0=>rfl
 | k+1=>by
  have ih:=JL F k;rw [D8 (k+1) fun s=>aQ (s+1) fun i=>F i (s-i),←ih,D8 (k+1) fun i=>aQ (k+1+1-i) fun j=>F i j];rw [show (aQ (k+1) fun i=>aQ (k+1+1-i) fun j=>F i j)=(aQ (k+1) fun i=>aQ (k+1-i) fun j=>F i j)+aQ (k+1) fun i=>F i (k+1-i) by rw [←zM];refine cY fun i hi=>?_;rw [show k+1+1-i=k+1-i+1 by lia,gw]]
  rw [D8 (k+1) fun i=>F i (k+1-i),show k+1+1-(k+1)=1 by lia]
  have:(aQ 1 fun j=>F (k+1) j)=F (k+1) (k+1-(k+1)):=by rw [k8];show F (k+1) 0+0=_;lia
  rw [this];lia
theorem R3(n:Nat)(F:Nat→Int):aQ (n+1) F=aQ (n+1) fun i=>F (n-i):=by
 induction n with
 | zero=>rfl
 | succ n ih=>
  rw [gw,ih];show _=F (n+1-0)+aQ (n+1) fun i=>F (n+1-(i+1));rw [show (fun i=>F (n+1-(i+1)))=fun i=>F (n-i) from funext fun i=>by congr 1;lia,rY]
  lia
theorem z8(f g:Nat→Int)(k:Nat):cv f g k=cv g f k:=by unfold cv;rw [R3];refine cY fun i hi=>?_;rw [show k-(k-i)=i by lia,j7]
theorem tL(f g h:Nat→Int)(k:Nat):cv (cv f g) h k=cv f (cv g h) k:=by
 have l:cv (cv f g) h k=aQ (k+1) fun s=>aQ (s+1) fun i=>f i*g (s-i)*h (k-s):=by unfold cv;refine cY fun s _=>?_;rw [j7,tF];exact cY fun i _=>by grind
 have r:cv f (cv g h) k=aQ (k+1) fun i=>aQ (k+1-i) fun j=>f i*g j*h (k-(i+j)):=by
  unfold cv;refine cY fun i hi=>?_;rw [tF,show k-i+1=k+1-i by lia]
  exact cY fun j _=>by rw [show k-i-j=k-(i+j) by lia];grind
 rw [l,r,JL fun i j=>f i*g j*h (k-(i+j))];refine cY fun s _=>cY fun i hi=>?_;rw [show i+(s-i)=s by lia]
end
theorem z9{n m:Nat}{f g:Nat→Int}(hf:∀i,n≤i→f i=0)(hg:∀i,m≤i→g i=0)(k:Nat):bK n m f g k=cv f g k:=by
 have e:bK n m f g k=aQ n fun i=>if i≤k then f i*g (k-i) else 0:=by
  unfold bK;refine cY fun i _=>?_;rw [lT];by_cases h:i≤k
  ·rw [ar h]
   by_cases h2:k<i+m;·rw [ar ⟨h,h2⟩]
   ·rw [ao (by lia),hg _ (by lia),cJ]
  ·rw [ao (by lia),ao h]
 rw [e];unfold cv;have ext:∀(a b:Nat) (F:Nat→Int),(∀i,a≤i→F i=0)→aQ (a+b) F=aQ a F:=fun a b F hF=>by
  induction b with
  | zero=>rfl
  | succ b ih=>
   rw [show a+(b+1)=(a+b)+1 by lia,gw,ih,hF _ (by lia)]
   lia
 have p1:=ext n (k+1) (fun i=>if i≤k then f i*g (k-i) else 0) fun i hi=>by show (if i≤k then f i*g (k-i) else 0)=0;rw [hf i hi];simp
 have p2:=ext (k+1) n (fun i=>if i≤k then f i*g (k-i) else 0) fun i hi=>ao (by lia)
 rw [←p1,Nat.add_comm n (k+1),p2];exact cY fun i hi=>ar (by lia)
theorem da{xs:List Int}{i:Nat}(h:xs.length≤i):ag xs i=0:=dw h
theorem R4(ts us:List Int)(k:Nat):ag (gQ ts us) k=cv (ag ts) (ag us) k:=by
 rw [←z9 (n:=ts.length) (m:=us.length) (fun i hi=>da hi) (fun i hi=>da hi)];unfold ag gQ;by_cases hk:k<ts.length+us.length-1;·rw [getD_at (by simpa using hk),ju,List.getElem_range]
 ·rw [dw (by simp;lia)]
  unfold bK;rw [show (fun i=>cK us.length (ts.getD i 0) (fun j=>us.getD j 0) i k)=fun i=>if i<ts.length then 0 else cK us.length (ts.getD i 0) (fun j=>us.getD j 0) i k from funext fun i=>by
   by_cases h:i<ts.length
   ·rw [ar h,lT]
    by_cases h2:i≤k∧k<i+us.length;·lia
    ·rw [ao h2]
   ·rw [ao h]]
  rw [cY (g:=fun _=>0) fun i hi=>ar hi,jM]
theorem jf(hq:ax q):¬q∣1:=fun h=>by
 rcases hq with rfl | ⟨h2,_⟩
 ·have:=gG.mp h
  lia
 ·have:=rT (by decide) h
  lia
def cF(q:Int)(D X:Nat→Int):Prop:=∃(c:Int) (w:Nat→Int) (N:Nat),¬q∣c∧(∀i,N≤i→w i=0)∧∀t,Cg q (c*X t) (cv w D t)
section
variable {q:Int} {D X Y Z b:Nat→Int} {n:Nat}
theorem cF.self(hq:ax q)(D:Nat→Int):cF q D D:=⟨1,fun i=>if i=0 then 1 else 0,1,jf hq,fun i hi=>ao (by lia),fun t=>Cg.of_eq (by
 unfold cv;rw [aQ,show (fun i=>(fun i=>if i=0 then (1:Int) else 0) (i+1)*D (t-(i+1)))=fun _=>0 from funext fun i=>by simp,jM]
 simp)⟩
theorem cF.R5(hq:ax q)(h:∀t,Cg q (X t) 0):cF q D X:=⟨1,fun _=>0,0,jf hq,fun _ _=>rfl,fun t=>((h t).mulL 1).trans (Cg.of_eq (by
 unfold cv;rw [show (fun i=>0*D (t-i))=fun _=>0 from funext fun i=>by simp,jM]
 rfl))⟩
theorem JM{w:Nat→Int}{N M:Nat}(hw:∀i,N≤i→w i=0)(hb:∀i,M≤i→b i=0){k:Nat}(hk:N+M≤k):cv w b k=0:=by
 unfold cv;rw [cY (g:=fun _=>0) fun i hi=>by
  by_cases h:N≤i;·rw [hw i h,jt]
  ·rw [hb _ (by lia),cJ],jM]
theorem cF.made(hq:ax q)(hX:cF q D X)(hY:cF q D Y){az least:Int}(hb:∀i,n≤i→b i=0)(nm:¬q∣az)(e:∀t,Cg q (az*Z t) (cv b X t+least*Y t)):cF q D Z:=by
 obtain ⟨c1,w1,N1,a1,b1,d1⟩:=hX;obtain ⟨c2,w2,N2,a2,b2,d2⟩:=hY;refine ⟨c1*c2*az,fun i=>c2*cv b w1 i+least*c1*w2 i,n+N1+N2,dY hq (dY hq a1 a2) nm,fun i hi=>?_,fun t=>?_⟩
 ·show c2*cv b w1 i+least*c1*w2 i=0
  rw [JM (k:=i) hb b1 (by lia),b2 i (by lia)]
  simp
 ·have l:Cg q (c1*c2*az*Z t) (c1*c2*(cv b X t+least*Y t)):=(Cg.of_eq (by grind)).trans ((e t).mulL (c1*c2))
  have x:Cg q (c1*cv b X t) (cv (cv b w1) D t):=by rw [←nK,tL];exact jO (fun _=>Cg.refl _) d1
  have r:cv (fun i=>c2*cv b w1 i+least*c1*w2 i) D t=c2*cv (cv b w1) D t+least*c1*cv w2 D t:=by rw [zZ,gS,gS]
  rw [r];refine l.trans ((Cg.of_eq (show _=c2*(c1*cv b X t)+least*c1*(c2*Y t) by grind)).trans ((x.mulL c2).add ((d2 t).mulL _)))
end
end My
namespace Srs
def jP:Nat→Nat
 | 0=>1
 | n+1=>(n+1)*jP n
theorem JN:∀(k hi:Nat),(cols hi k).length=k
 | 0,_=>rfl
 | k+1,hi=>by rw [cols,eQ,JN]
theorem xt(r:Row):∀k,(b6 r k).length=k
 | 0=>rfl
 | k+1=>by rw [b6,eQ,xt]
theorem JO{W k:Nat}{r:Row}(h:∀i,(r i).natAbs≤W)(i:Nat):(sh k r i).natAbs≤W:=by
 unfold sh
 split
 ·simp
 ·exact h _
end Srs
namespace My
open PySem L2 Srs
def nN(b:Nat→Int)(B:Row)(i:Nat):Int:=aQ (i / 3+1) fun j=>b j*B (i-3*j)
def Lf(az:Int)(A:Row)(b:Nat→Int)(B:Row):Row:=fun i=>az*A i-nN b B i
theorem JP(a b:Nat){F:Nat→Int}(hF:∀i,a≤i→F i=0):aQ (a+b) F=aQ a F:=by
 induction b with
 | zero=>rfl
 | succ b ih=>
  rw [show a+(b+1)=(a+b)+1 by lia,gw,ih,hF _ (by lia)]
  lia
theorem JQ(b:Nat→Int)(g:Row)(i:Nat):∀N s,comb ((((List.range' s N)).map fun j=>(-(b j),j)).map fun p=>(p.1,sh p.2 g)) i=-aQ N fun j=>b (s+j)*sh (s+j) g i
 | 0,s=>by simp [comb,aQ]
 | N+1,s=>by
  have ih:=JQ b g i N (s+1);rw [List.range'_succ,rQ,rQ,comb];dsimp only;rw [ih,aQ,Nat.add_zero];rw [show (fun j=>b (s+1+j)*sh (s+1+j) g i)=fun j=>b (s+(j+1))*sh (s+(j+1)) g i from funext fun j=>by rw [show s+1+j=s+(j+1) by lia]]
  show -b s*sh s g i+_=_;grind
theorem JR{az:Int}{A B:Row}{b:Nat→Int}{d:Nat}(hb:∀j,d<j→b j=0):Red az A B (Lf az A b B) d:=by
 refine ⟨(List.range' 0 (d+1)).map fun j=>(-(b j),j),fun p hp=>?_,fun i=>?_⟩
 ·obtain ⟨j,hj,rfl⟩:=fE.mp hp
  have:=List.mem_range'.mp hj;show j≤d;obtain ⟨k,hk,e⟩:=this;lia
 ·rw [JQ]
  have e:nN b B i=aQ (d+1) fun j=>b (0+j)*sh (0+j) B i:=by
   have p1:=JP (d+1) (i / 3+1) (F:=fun j=>b (0+j)*sh (0+j) B i) fun j hj=>by rw [v_,hb j (by lia),jt]
   have p2:=JP (i / 3+1) (d+1) (F:=fun j=>b (0+j)*sh (0+j) B i) fun j hj=>by rw [v_];unfold sh;rw [ar (by lia),cJ]
   rw [←p1,Nat.add_comm (d+1),p2];unfold nN;refine cY fun j hj=>?_;rw [v_];unfold sh;rw [ao (by lia)]
  unfold Lf;rw [e];lia
def up1(r:Nat→Int):Nat→Int:=fun t=>if t=0 then 0 else r (t-1)
def aI(r u v:List Int):Row:=fun i=>if i % 3=0 then up1 (ag r) (i / 3) else if i % 3=1 then ag u (i / 3) else ag v (i / 3)
theorem R6(b r:Nat→Int)(t:Nat):cv b (up1 r) t=up1 (cv b r) t:=by
 cases t with
 | zero=>show b 0*up1 r 0+0=0;show b 0*0+0=0;lia
 | succ t=>show _=cv b r t;unfold cv;rw [gw,k8,show up1 r 0=0 from rfl,cJ,oG];exact cY fun i hi=>by unfold up1;rw [ao (by lia),show t+1-i-1=t-i by lia]
section
variable {r u v:List Int} {t:Nat} {b:Nat→Int} {B:Row}
theorem nO:aI r u v (3*t)=up1 (ag r) t:=by unfold aI;rw [ar (by lia),show 3*t / 3=t by lia]
theorem pN:aI r u v (3*t+1)=ag u t:=by unfold aI;rw [ao (by lia),ar (by lia),show (3*t+1) / 3=t by lia]
theorem pO:aI r u v (3*t+2)=ag v t:=by unfold aI;rw [ao (by lia),ao (by lia),show (3*t+2) / 3=t by lia]
theorem JS{P:Nat→Prop}(h0:∀t,P (3*t))(h1:∀t,P (3*t+1))(h2:∀t,P (3*t+2))(i:Nat):P i:=by
 have e:i=3*(i / 3)∨i=3*(i / 3)+1∨i=3*(i / 3)+2:=by lia
 rcases e with e | e | e;·rw [e];exact h0 _
 ·rw [e];exact h1 _
 ·rw [e];exact h2 _
theorem D9{c:Nat}(hc:c<3):nN b B (3*t+c)=cv b (fun k=>B (3*k+c)) t:=by
 unfold nN cv;rw [show (3*t+c) / 3=t by lia]
 exact cY fun j hj=>by rw [show 3*t+c-3*j=3*(t-j)+c by lia]
theorem R7:nN b (aI r u v) (3*t)=up1 (cv b (ag r)) t:=by
 have:=D9 (b:=b) (B:=aI r u v) (t:=t) (c:=0) (by decide)
 rw [Nat.add_zero] at this;rw [this,←R6]
 congr 1
 funext k
 exact nO
theorem JT:nN b (aI r u v) (3*t+1)=cv b (ag u) t:=by
 rw [D9 (by decide)]
 congr 1
 funext k
 exact pN
theorem JU:nN b (aI r u v) (3*t+2)=cv b (ag v) t:=by
 rw [D9 (by decide)]
 congr 1
 funext k
 exact pO
end
theorem R8:∀a b:Nat,∃x y:Int,(a:Int)*x+(b:Int)*y=(Nat.gcd a b:Nat):=fun a b=>by
 induction a,b using Nat.gcd.induction with
 | H0 n=>exact ⟨0,1,by simp⟩
 | H1 m n hm ih=>
  obtain ⟨x,y,e⟩:=ih;refine ⟨y-(n / m:Nat)*x,x,?_⟩;have h:=Nat.mod_add_div n m;have h':((n % m:Nat):Int)=(n:Int)-(m:Int)*((n / m:Nat):Int):=by
   have:((n % m:Nat):Int)+(m:Int)*((n / m:Nat):Int)=n:=by exact_mod_cast h
   lia
  rw [Nat.gcd_rec m n,←e,h'];grind
variable {q b:Int}
theorem JV(hq:ax q)(q0:q≠0)(nb:¬q∣b):∃c:Int,Cg q (b*c) 1:=by
 rcases hq with h | ⟨q2,q3,q4⟩;·exact absurd h q0
 ·have k1:=dA b (show q≠0 by lia)
  have k2:=dN b (show 0<q by lia)
  have k3:b % q≠0:=fun z=>nb (Cp z);have g:=Dq q2 q3 q4 (show 1≤b % q by lia) k2
  obtain ⟨x,y,e⟩:=R8 q.natAbs (b % q).natAbs;have g':Nat.gcd q.natAbs (b % q).natAbs=1:=g;rw [g',show (q.natAbs:Int)=q by lia,show ((b % q).natAbs:Int)=b % q by lia] at e
  refine ⟨y,?_⟩;have c:Cg q (b*y) (b % q*y):=((ib q b).symm).mulR y;exact c.trans ⟨-x,by rw [gF];lia⟩
theorem xu{u x y:Int}(hq:ax q)(nu:¬q∣u)(h:Cg q (u*x) (u*y)):Cg q x y:=by
 refine Cs fun z=>dY hq nu z ?_;unfold Cg at h
 rwa [mK]
theorem aux1{a k j:Int}(h:a-b*(q*k)=q*j):a=q*(j+b*k):=by grind
theorem aux2(m x y a b:Int):m*x-a+(m*y-b)=m*(x+y)-(a+b):=by grind
def ic(x:Int)(B:Nat):Prop:=x.natAbs≤B
structure CI (q:Int) (ts us:List Int) (f g:Row) (n0 m0:Nat) (W:Nat→Nat) (r u v r' u' v':List Int) (ld ht:Int):Prop where
 bz:∀t,Cg q (cv (ag u) (ag ts) t+cv (ag v) (ag us) t) (ag r t)
 JW:∀t,Cg q (cv (ag u') (ag ts) t+cv (ag v') (ag us) t) (ag r' t)
 tr:r≠[]→¬q∣ag r (r.length-1)
 pP:r'≠[]→¬q∣ag r' (r'.length-1)
 dv:∀D,cF q D (ag r)→cF q D (ag r')→cF q D (ag ts)∧cF q D (ag us)
 nl:¬q∣ld
 nh:¬q∣ht
 le:r'.length≤r.length
 h1:r.length=r'.length→ht=1
 ch:q=0→r'≠[]→Ch f n0 g m0 (aI r u v) r.length (aI r' u' v') r'.length ld.natAbs ht.natAbs
 ev:q=0→r'≠[]→∃X,X*ht.natAbs ^ (r.length-r'.length-1)=(ag r' (r'.length-1)).natAbs ^ (r.length-r'.length)∧X≤W r'.length
 bh:ht.natAbs≤W r.length
 bl:ld.natAbs≤W r.length
 bA:∀i,(aI r u v i).natAbs≤W r.length
 bB:∀i,(aI r' u' v' i).natAbs≤W r'.length
 JX:∀i,(aI r' u' v' i).natAbs≤W (r.length-1)
 rn:r.length≤n0
 rm:r'.length≤m0
structure CG (q:Int) (f g:Row) (n0 m0:Nat) (W:Nat→Nat):Prop where
 sb:q=0→∀j t,j<m0→S j f n0 g m0 t≤W j
 mn:m0≤n0
 n5:n0≤41
 w1:∀j,1000≤W j
 am:∀i j,i≤j→W j≤W i
section
variable {q:Int} {ts us:List Int} {f g:Row} {n0 m0:Nat} {W:Nat→Nat} {r u v r' u' v':List Int} {ld ht:Int} {az:Int} {bs ls:List Int}
variable {xs ys zs:List Int}
theorem xv:∀t,xs.length<t→aI xs ys zs (3*t)=0:=fun t h=>by
 rw [nO];unfold up1;rw [ao (by lia)]
 exact da (by lia)
theorem lV(h:1≤xs.length):aI xs ys zs (3*xs.length)=ag xs (xs.length-1):=by rw [nO];unfold up1;rw [ao (by lia)]
theorem z_{t:Nat}:Lf az (aI r u v) (ag bs) (aI r' u' v') (3*t)=up1 (fun k=>az*ag r k-cv (ag bs) (ag r') k) t:=by
 unfold Lf;rw [nO,R7];unfold up1
 split <;> simp
theorem CI.left(hq:ax q)(I:CI q ts us f g n0 m0 W r u v r' u' v' ld ht)(G:CG q f g n0 m0 W)(ne:r'≠[])(lb:bs.length=r.length-r'.length+1)(ll:ls.length=r'.length-1)(e:∀k,Cg q (az*ag r k) (cv (ag bs) (ag r') k+ag ls k))(em:q=0→az=ag r' (r'.length-1) ^ (r.length-r'.length+1)) :
  ∃C:Row,(∀i,Cg q (Lf az (aI r u v) (ag bs) (aI r' u' v') i) (ld*ht ^ (r.length-r'.length)*C i))∧(q=0→∀i,(C i).natAbs≤W (r'.length-1)):=by
 have kK:¬q∣ld*ht ^ (r.length-r'.length):=dY hq I.nl (pM hq I.nh _);have l1:1≤r'.length:=by
  cases r' with
  | nil=>exact absurd rfl ne
  | cons _ _=>simp
 by_cases q0:q=0
 ·subst q0
  have e0:∀k,az*ag r k=cv (ag bs) (ag r') k+ag ls k:=fun k=>by have:=gG.mp (e k);lia
  have red:Red ((aI r' u' v' (3*r'.length)) ^ (r.length-r'.length+1)) (aI r u v) (aI r' u' v') (Lf az (aI r u v) (ag bs) (aI r' u' v')) (r.length-r'.length):=by rw [lV l1,←em rfl];exact JR fun j hj=>da (by lia)
  have h0:∀t,r'.length-1<t→Lf az (aI r u v) (ag bs) (aI r' u' v') (3*t)=0:=fun t ht=>by
   rw [z_];unfold up1;rw [ao (by lia)]
   show az*ag r (t-1)-cv (ag bs) (ag r') (t-1)=0;rw [e0,da (show ls.length≤t-1 by lia)]
   lia
  have L:=fun t=>Q2 (I.ch rfl ne) red I.le l1 (by rw [lV l1];exact fun z=>I.pP ne (by rw [z];exact dB 0)) xv h0 t
  have dvd:∀t,ld*ht ^ (r.length-r'.length)∣Lf az (aI r u v) (ag bs) (aI r' u' v') t:=fun t=>by rw [←Cr,a8,gH,L t];exact ⟨_,rfl⟩
  refine ⟨fun t=>Lf az (aI r u v) (ag bs) (aI r' u' v') t / (ld*ht ^ (r.length-r'.length)),fun t=>Cg.of_eq (Int.mul_ediv_cancel' (dvd t)).symm,fun _ t=>?_⟩;have eC:(Lf az (aI r u v) (ag bs) (aI r' u' v') t / (ld*ht ^ (r.length-r'.length))).natAbs=S (r'.length-1) f n0 g m0 t:=by
   have p:0<(ld*ht ^ (r.length-r'.length)).natAbs:=gE.mpr fun z=>kK (by rw [z];exact dB 0)
   refine wa p ?_;rw [←a8,Int.mul_ediv_cancel' (dvd t),L t,a8,gH]
  rw [eC];have rm:=I.rm;exact G.sb rfl _ _ (show r'.length-1<m0 by lia)
 ·obtain ⟨c,hc⟩:=JV hq q0 kK
  refine ⟨fun i=>c*Lf az (aI r u v) (ag bs) (aI r' u' v') i,fun i=>?_,fun z=>absurd z q0⟩;have:=hc.mulR (Lf az (aI r u v) (ag bs) (aI r' u' v') i);exact ((Cg.of_eq (by grind)).trans (this.symm)).trans (Cg.of_eq (by grind))
theorem CI.next{r2 u2 v2:List Int}{h2:Int}{C:Row}(hq:ax q)(I:CI q ts us f g n0 m0 W r u v r' u' v' ld ht)(G:CG q f g n0 m0 W)(ne:r'≠[])(lb:bs.length=r.length-r'.length+1)(ll:ls.length=r'.length-1)(e:∀k,Cg q (az*ag r k) (cv (ag bs) (ag r') k+ag ls k))(nm:¬q∣az)(em:q=0→az=ag r' (r'.length-1) ^ (r.length-r'.length+1))
  (hC:∀i,Cg q (Lf az (aI r u v) (ag bs) (aI r' u' v') i) (ld*ht ^ (r.length-r'.length)*C i)) (bC:q=0→∀i,(C i).natAbs≤W (r'.length-1)) (e2:∀i,Cg q (aI r2 u2 v2 i) (C i)) (b2:q≠0→∀i,(aI r2 u2 v2 i).natAbs≤1000) (l2:r2.length≤r'.length-1) (t2:r2≠[]→¬q∣ag r2 (r2.length-1))
  (eh:Cg q (ag r' (r'.length-1) ^ (r.length-r'.length)) (ht ^ (r.length-r'.length-1)*h2)) (R9:ic h2 (W r'.length)):CI q ts us f g n0 m0 W r' u' v' r2 u2 v2 (ag r' (r'.length-1)) h2:=by
 have kK:¬q∣ld*ht ^ (r.length-r'.length):=dY hq I.nl (pM hq I.nh _);have l1:1≤r'.length:=by
  cases r' with
  | nil=>exact absurd rfl ne
  | cons _ _=>simp
 have nG:=I.pP ne;have eA:∀i,Cg q (Lf az (aI r u v) (ag bs) (aI r' u' v') i) (ld*ht ^ (r.length-r'.length)*aI r2 u2 v2 i):=fun i=>(hC i).trans ((e2 i).symm.mulL _);have bT:∀i,(aI r2 u2 v2 i).natAbs≤W (r'.length-1):=fun i=>by
  by_cases q0:q=0
  ·have z:=e2 i
   have z':=bC q0 i;subst q0
   rwa [oJ.mp (gG.mp z)]
  ·exact ae (b2 q0 i) (G.w1 _)
 have e0:∀t,Cg q (ld*ht ^ (r.length-r'.length)*ag r2 t) (az*ag r t-cv (ag bs) (ag r') t):=fun t=>by have z:=(eA (3*(t+1))).symm;rw [nO,z_] at z;exact z
 have e1:∀t,Cg q (ld*ht ^ (r.length-r'.length)*ag u2 t) (az*ag u t-cv (ag bs) (ag u') t):=fun t=>by
  have z:=(eA (3*t+1)).symm;unfold Lf at z
  rwa [pN,pN,JT] at z
 have e3:∀t,Cg q (ld*ht ^ (r.length-r'.length)*ag v2 t) (az*ag v t-cv (ag bs) (ag v') t):=fun t=>by
  have z:=(eA (3*t+2)).symm;unfold Lf at z
  rwa [pO,pO,JU] at z
 have R_:¬q∣h2:=fun z=>by have:=eh.nz (b:=ht ^ (r.length-r'.length-1)*h2);exact pM hq nG (r.length-r'.length) (by obtain ⟨k,hk⟩:=z;obtain ⟨j,hj⟩:=eh;exact ⟨j+ht ^ (r.length-r'.length-1)*k,aux1 (by rw [hk] at hj;exact hj)⟩)
 have hH:q=0→h2.natAbs*ht.natAbs ^ (r.length-r'.length)=(aI r' u' v' (3*r'.length)).natAbs ^ (r.length-r'.length)*ht.natAbs:=fun z=>by
  subst z;have z:=oJ.mp (gG.mp eh);have zz:=fT Int.natAbs z;rw [a8,gH,gH] at zz;rw [lV l1,zz];by_cases g0:r.length=r'.length
  ·have h1:=I.h1 g0
   rw [h1,g0];simp
  ·obtain ⟨k,hk⟩:∃k,r.length-r'.length=k+1:=⟨r.length-r'.length-1,by have:=I.le;lia⟩
   rw [hk,show k+1-1=k by lia,fF]
   ac_rfl
 have lp:ld≠0:=fun z=>I.nl (by rw [z];exact dB q)
 have hp:ht≠0:=fun z=>I.nh (by rw [z];exact dB q)
 have fz:q=0→Red ((aI r' u' v' (3*r'.length)) ^ (r.length-r'.length+1)) (aI r u v) (aI r' u' v') (fun i=>ld*ht ^ (r.length-r'.length)*aI r2 u2 v2 i) (r.length-r'.length):=fun z=>by
  have:(fun i=>ld*ht ^ (r.length-r'.length)*aI r2 u2 v2 i)=Lf az (aI r u v) (ag bs) (aI r' u' v'):=funext fun i=>by have y:=eA i;subst z;exact (oJ.mp (gG.mp y)).symm
  rw [this,lV l1,←em z];exact JR fun j hj=>da (by lia)
 have G0:aI r' u' v' (3*r'.length)≠0:=by rw [lV l1];exact fun z=>nG (by rw [z];exact dB q)
 refine ⟨I.JW,fun t=>xu hq kK ?_,I.pP,t2,fun D d1 d2=>I.dv D ?_ d1,nG,R_,by clear hH;lia,fun z=>by clear hH;lia,fun z n2=>?_,fun z n2=>?_,R9,by rw [←lV (ys:=u') (zs:=v') l1];exact I.bB _,I.bB,fun i=>?_,fun i=>?_,by have:=I.le;have:=I.rn;lia,by have:=I.rm;lia⟩
 ·have a:=jO (k:=t) e1 (fun i=>Cg.refl (ag ts i))
  have b:=jO (k:=t) e3 (fun i=>Cg.refl (ag us i));rw [gS] at a b;have s1:∀(x y w:Nat→Int),cv (fun i=>az*x i-cv (ag bs) y i) w t=az*cv x w t-cv (ag bs) (cv y w) t:=fun x y w=>by
   rw [←tL,←gS,show (fun i=>az*x i-cv (ag bs) y i)=fun i=>az*x i+(-1)*cv (ag bs) y i from funext fun i=>by lia,zZ,gS (-1),gS]
   lia
  rw [s1] at a b;have c1:=I.bz t;have c2:Cg q (cv (ag bs) (cv (ag u') (ag ts)) t+cv (ag bs) (cv (ag v') (ag us)) t) (cv (ag bs) (ag r') t):=by rw [←JK];exact jO (fun _=>Cg.refl _) I.JW
  refine (Cg.of_eq (j8 ..)).trans ((a.add b).trans (Cg.trans ?_ (e0 t).symm));exact (Cg.of_eq (aux2 ..)).trans ((c1.mulL az).sub c2)
 ·refine cF.made hq d1 d2 (least:=ld*ht ^ (r.length-r'.length)) (b:=ag bs) (n:=bs.length) (fun i hi=>da hi) nm fun t=>?_
  have z:=(Cg.refl (q:=q) (cv (ag bs) (ag r') t)).add (e0 t);exact (Cg.of_eq (by rw [Int.add_comm,Int.sub_add_cancel])).trans z.symm
 ·have c:=Q3 (e:=ld*ht ^ (r.length-r'.length)) (C:=aI r2 u2 v2) (l:=r2.length) (I.ch z ne) (gE.mpr lp) (gE.mpr hp) (fz z) (by rw [a8,gH]) I.le G0 xv (by clear hH;lia) xv (hH z)
  rwa [lV l1] at c
 ·have l3:1≤r2.length:=by
   cases r2 with
   | nil=>exact absurd rfl n2
   | cons _ _=>simp
  have c:=Q5 (e:=ld*ht ^ (r.length-r'.length)) (C:=aI r2 u2 v2) (l:=r2.length) (I.ch z ne) (gE.mpr lp) (gE.mpr hp) (fz z) (by rw [a8,gH]) I.le G0 xv (by clear hH;lia) xv (hH z)
  rw [lV l3] at c;have rm:=I.rm;exact ⟨_,c,by subst z;exact G.sb rfl _ _ (show r2.length<m0 by clear hH;lia)⟩
 ·exact ae (bT i) (G.am _ _ (by lia))
 ·exact bT i
end
end My
namespace L2
open PySem PySem.Spec PyProof.Rows
theorem Sa{X:Cx}:wx X .Mult (fun x y H Q=>∃i j,x=.int i∧y=.int j∧zm i j∧Q (.int (i*j)) H):=by intro pins s σ H x y v u Q I r1 r2 h;obtain ⟨i,j,e1,e2,c,q⟩:=h;subst e1;subst e2;obtain ⟨t,rfl⟩:=r1;obtain ⟨t',rfl⟩:=r2;exact imul_int ⟨.int _,H,I.tok _,⟨_,rfl⟩,q⟩ c.ok
end L2
namespace My
open PySem L2 Srs
variable {σ:St} {H:Hp}
theorem fP{a b:TS}{D:Ends}(h:∀R:St→Hp→Prop,(∀σ H,b D σ H→R σ H)→a {D with nx:=R} σ H):CB a b D σ H:=h _ fun _ _ h=>h
theorem Sb{te:TE}{tr:TA}{Q:List V→Hp→Prop}(h:te σ H fun x H1=>tr σ H1 fun ys H2=>Q (x::ys) H2):cX te tr σ H Q:=h
variable {x:Int}
theorem fb(h:x.natAbs≤10 ^ 600):aP x:=gh h (by decide +kernel)
def Rm(q:Int)(xs:List Int):Prop:=q≠0→∀x∈xs,0≤x∧x<q
def de(q:Int)(xs:List Int):Prop:=xs≠[]→¬q∣ag xs (xs.length-1)
variable {q:Int}
theorem Sd(h:q≠0→0≤x∧x<q)(n:x≠0):¬q∣x:=fun d=>by
 by_cases q0:q=0
 ·rw [q0] at d
  exact n (gG.mp d)
 ·obtain ⟨k,hk⟩:=d
  have b:=h q0;have:k=0:=by
   rcases Int.lt_trichotomy k 0 with y | y | y
   ·have:q*k≤q*(-1):=j6 (by lia) (by lia)
    lia
   ·exact y
   ·have:q*1≤q*k:=j6 (by lia) (by lia)
    lia
  rw [this,cJ] at hk;exact n hk
theorem JY{rs:List Int}{k:Nat}(nn:Rm q rs)(hk:k≤rs.length)(hn:0<k→ag rs (k-1)≠0)(hz:∀j,k≤j→ag rs j=0):Rm q (rs.take k)∧de q (rs.take k)∧∀t,ag (rs.take k) t=ag rs t:=by
 have ek:∀t,ag (rs.take k) t=ag rs t:=fun t=>by
  unfold ag;rw [fD,fD,List.getElem?_take];by_cases h:t<k;·rw [ar h]
  ·rw [ao h]
   have:=hz t (by lia)
   unfold ag at this;rw [fD] at this;rw [this];rfl
 refine ⟨fun q0 x hx=>nn q0 x (List.mem_of_mem_take hx),fun ne=>?_,ek⟩;have l:(rs.take k).length=k:=by rw [mD];lia
 have k1:0<k:=by rw [←l];exact iY.mpr ne
 rw [ek,l];have hi:k-1<rs.length:=by lia
 refine Sd (fun q0=>?_) (hn k1);rw [show ag rs (k-1)=rs[k-1] from getD_at hi];exact nn q0 _ (gD hi)
variable {ts:List Int}
theorem D_{C z a:Addr}{Q:VK}{E:XK}(hz:dg C H z q)(hq:ax q)(ea:H a=some (.lst (ts.map V.int)))(l:ts.length≤500)(m:∀t∈ts,aP t)(k:∀(c:Addr) (H':Hp),ai H H'→H c=none→H' c=some (.lst ((ts.map fun x=>x % q).map V.int))→Q (.ref c) H'):JJ C [.ref z,.ref a,.int 1] H Q E:=by
 refine ⟨z,a,q,ts,1,fun i=>ts.getD i 0,rfl,hz,hq,ea,l,m,aP.of_lt (by decide) (by decide),jf hq,fun i _=>Cg.of_eq (k_ _).symm,fun c H' rs s n e lr cg nn=>k c H' s n ?_⟩
 rw [e]
 congr 3
 refine List.ext_getElem (by simp [lr]) fun i h1 h2=>?_
 have hi:i<ts.length:=by lia
 have c1:Cg q (rs.getD i 0) (ts.getD i 0):=cg i hi;rw [getD_at h1,getD_at hi] at c1;rw [ju];by_cases q0:q=0
 ·subst q0
  rw [Int.emod_zero];exact oJ.mp (gG.mp c1)
 ·have b:=nn q0 _ (gD h1)
  have c2:=c1.trans (ib q ts[i]).symm;have k1:=dA ts[i] q0;have k2:=dN ts[i] (show 0<q by lia)
  obtain ⟨k,hk⟩:=c2;have:k=0:=by
   rcases Int.lt_trichotomy k 0 with y | y | y
   ·have:q*k≤q*(-1):=j6 (by lia) (by lia)
    lia
   ·exact y
   ·have:q*1≤q*k:=j6 (by lia) (by lia)
    lia
  rw [this] at hk;lia
def Se:Sp:=fun vs H Q _=>∃(a:Addr) (ts:List Int),vs=[.ref a]∧H a=some (.lst (ts.map V.int))∧ts.length≤500 ∧
 ∀(b:Addr) (H':Hp) (k:Nat),ai H H'→H b=none→k≤ts.length→(∀j,k≤j→ag ts j=0)→(0<k→ag ts (k-1)≠0)→H' b=some (.lst ((ts.take k).map V.int))→Q (.ref b) H'
def Sf:Sp:=fun vs H Q _=>∃(x n:Int),vs=[.int x,.int n]∧-5≤n∧n≤100∧(∀i,i≤n.toNat→(x ^ i).natAbs≤10 ^ 600)∧x.natAbs≤10 ^ 600∧Q (.int (x ^ n.toNat)) H
def Sg:Sp:=fun vs H Q _=>∃(a b:Addr) (ts us:List Int),vs=[.ref a,.ref b]∧H a=some (.lst (ts.map V.int))∧H b=some (.lst (us.map V.int))∧ts.length≤200∧us.length≤200 ∧
 ∀(c:Addr) (H':Hp) (rs:List Int),ai H H'→H' c=some (.lst (rs.map V.int))→rs.length=max ts.length us.length→(∀t,ag rs t=ag ts t-ag us t)→Q (.ref c) H'
def JZ(C0:Addr):Sp:=fun vs H Q _=>∃(z a b c:Addr) (q:Int) (xs ys bs:List Int) (az least:Int) (u:Nat→Int),vs=[.ref z,.ref a,.ref b,.ref c,.int az,.int least]∧dg C0 H z q∧ax q∧H a=some (.lst (xs.map V.int))∧H b=some (.lst (ys.map V.int))∧H c=some (.lst (bs.map V.int))∧xs.length≤50∧ys.length≤50∧bs.length≤50∧(∀x∈xs,x.natAbs≤10 ^ 600∧(az*x).natAbs≤10 ^ 599)∧(∀y∈ys,y.natAbs≤10 ^ 600)∧(∀b∈bs,b.natAbs≤10 ^ 600)∧(∀t,(cv (ag bs) (ag ys) t).natAbs≤10 ^ 599)∧az.natAbs≤10 ^ 600∧least.natAbs≤10 ^ 600∧¬q∣least∧(∀t,Cg q (az*ag xs t-cv (ag bs) (ag ys) t) (least*u t)) ∧
 ∀(r:Addr) (H':Hp) (rs:List Int),ai H H'→H r=none→H' r=some (.lst (rs.map V.int))→rs.length≤max xs.length (bs.length+ys.length-1)→(∀t,Cg q (ag rs t) (u t))→Rm q rs→de q rs→Q (.ref r) H'
def Sh(C0:Addr):Sp:=fun vs H Q _=>∃(z a b:Addr) (q:Int) (ts us:List Int) (T U:Nat),vs=[.ref z,.ref a,.ref b]∧dg C0 H z q∧ax q∧H a=some (.lst (ts.map V.int))∧H b=some (.lst (us.map V.int))∧ts.length≤100∧us.length≤100∧1≤us.length∧(∀x∈ts,x.natAbs≤T)∧(∀x∈us,x.natAbs≤U)∧1≤U∧1000≤T∧T*(2*U) ^ (ts.length+1-us.length)≤10 ^ 580∧U≤10 ^ 580∧¬q∣us.getD (us.length-1) 0∧(0<ts.length+1-us.length→¬q∣ts.getD (ts.length-1) 0) ∧
 ∀(p l1 l2:Addr) (bs ls:List Int) (az:Int) (H':Hp),ai H H'→H' p=some (.tup [.ref l1,.ref l2,.int az])→H' l1=some (.lst (bs.map V.int))→H' l2=some (.lst (ls.map V.int))→kJ q ts us T U (ts.length+1-us.length) (ts.length+1-us.length) bs ls az→(q=0→az=us.getD (us.length-1) 0 ^ (ts.length+1-us.length))→Q (.ref p) H'
variable {xs:List Int} {B:Nat}
theorem nQ(h:∀x∈xs,x.natAbs≤B)(k:Nat):(ag xs k).natAbs≤B:=by
 by_cases hk:k<xs.length
 ·rw [show ag xs k=xs[k] from getD_at hk]
  exact h _ (gD _)
 ·rw [da (by lia)]
  exact b9 _
theorem xw(f:Nat→Int)(t:Nat):cv (ag []) f t=0:=by unfold cv;rw [cY (g:=fun _=>0) fun i _=>by rw [da (b9 _),jt],jM]
theorem Aa(f:Nat→Int)(t:Nat):cv (ag [1]) f t=f t:=by
 unfold cv;rw [aQ,show (fun i=>ag [1] (i+1)*f (t-(i+1)))=fun _=>0 from funext fun i=>by rw [da (by simp),jt],jM]
 show (1:Int)*f (t-0)+0=f t;rw [k_,oG,rY]
variable {W:Nat}
theorem xx{a b c:List Int}(ha:∀x∈a,x.natAbs≤W)(hb:∀x∈b,x.natAbs≤W)(hc:∀x∈c,x.natAbs≤W):∀i,(aI a b c i).natAbs≤W:=JS (fun t=>by
 rw [nO];unfold up1
 split
 ·exact b9 _
 ·exact nQ ha _) (fun t=>by rw [pN];exact nQ hb _) (fun t=>by rw [pO];exact nQ hc _)
variable {r v:List Int}
theorem CI.start{us u r' u' v':List Int}{W:Nat→Nat}(hq:ax q)(w1:∀j,1000≤W j)(am:∀i j,i≤j→W j≤W i)(n5:r.length≤41)(le:r'.length≤r.length)(br:∀j,∀x∈r,x.natAbs≤W j)(Ab:∀j,∀x∈r',x.natAbs≤W j)(bx:∀j,(∀x∈u,x.natAbs≤W j)∧(∀x∈v,x.natAbs≤W j)∧(∀x∈u',x.natAbs≤W j)∧∀x∈v',x.natAbs≤W j)(tr:de q r)(pP:de q r')
  (sb:q=0→∀j t,j<r'.length→S j (aI r u v) r.length (aI r' u' v') r'.length t≤W j) (ev:q=0→(ag r' (r'.length-1)).natAbs ^ (r.length-r'.length)≤W r'.length)
  (b1:∀t,cv (ag u) (ag ts) t+cv (ag v) (ag us) t=ag r t) (b2:∀t,cv (ag u') (ag ts) t+cv (ag v') (ag us) t=ag r' t) (dv:∀D,cF q D (ag r)→cF q D (ag r')→cF q D (ag ts)∧cF q D (ag us)) :
  CI q ts us (aI r u v) (aI r' u' v') r.length r'.length W r u v r' u' v' 1 1∧CG q (aI r u v) (aI r' u' v') r.length r'.length W:=by
 have bf:=fun j=>xx (br j) (bx j).1 (bx j).2.1;have bg:=fun j=>xx (Ab j) (bx j).2.2.1 (bx j).2.2.2;have w0:∀j,1≤W j:=fun j=>by have:=w1 j;lia
 exact ⟨⟨fun t=>Cg.of_eq (b1 t),fun t=>Cg.of_eq (b2 t),tr,pP,dv,jf hq,jf hq,le,fun _=>rfl,fun _ _=>Q1,fun q0 _=>⟨(ag r' (r'.length-1)).natAbs ^ (r.length-r'.length),by simp,ev q0⟩,w0 _,w0 _,bf _,bg _,bg _,aJ _,aJ _⟩,sb,le,n5,w1,am⟩
structure Ea (q:Int) (ts us:List Int) (W:Nat→Nat):Prop where
 w1:∀j,1000≤W j
 am:∀i j,i≤j→W j≤W i
 bt:∀j,∀x∈ts,x.natAbs≤W j
 bu:∀j,∀x∈us,x.natAbs≤W j
 sA:ts.length<us.length→q=0→∀j t,j<ts.length→S j (aI us [] [1]) us.length (aI ts [1] []) ts.length t≤W j
 sB:us.length≤ts.length→q=0→∀j t,j<us.length→S j (aI ts [1] []) ts.length (aI us [] [1]) us.length t≤W j
 eA:ts.length<us.length→q=0→(ag ts (ts.length-1)).natAbs ^ (us.length-ts.length)≤W ts.length
 eB:us.length≤ts.length→q=0→(ag us (us.length-1)).natAbs ^ (ts.length-us.length)≤W us.length
 lim:∀n m,(n≤ts.length∨n≤us.length)→m≤n→1≤m→100*(W n*(2*W (n-1)) ^ (n-m+1))≤10 ^ 580
section
variable {q:Int} {ts us:List Int} {f g:Row} {n0 m0:Nat} {W:Nat→Nat} {r u v r' u' v':List Int} {ld ht:Int}
theorem CI.high(hq:ax q)(I:CI q ts us f g n0 m0 W r u v r' u' v' ld ht)(ne:r'≠[]):∃x:Int,Cg q (ag r' (r'.length-1) ^ (r.length-r'.length)) (ht ^ (r.length-r'.length-1)*x)∧(q=0→x.natAbs≤W r'.length):=by
 have nh:=pM hq I.nh (r.length-r'.length-1);by_cases q0:q=0
 ·obtain ⟨X,e,b⟩:=I.ev q0 ne
  have d:ht ^ (r.length-r'.length-1)∣ag r' (r'.length-1) ^ (r.length-r'.length):=by rw [←Cr,gH,gH,←e];exact ⟨X,jq _ _⟩
  obtain ⟨x,hx⟩:=d;refine ⟨x,Cg.of_eq hx,fun _=>?_⟩;have p:0<(ht ^ (r.length-r'.length-1)).natAbs:=gE.mpr fun z=>nh (by rw [z];exact dB q)
  have e2:(ht ^ (r.length-r'.length-1)).natAbs*x.natAbs=(ht ^ (r.length-r'.length-1)).natAbs*X:=by rw [←a8,←hx,gH,gH,←e,jq]
  rw [wa p e2];exact b
 ·obtain ⟨c,hc⟩:=JV hq q0 nh
  refine ⟨c*ag r' (r'.length-1) ^ (r.length-r'.length),?_,fun z=>absurd z q0⟩;have:=hc.mulR (ag r' (r'.length-1) ^ (r.length-r'.length));exact (Cg.of_eq (k_ _).symm).trans (this.symm.trans (Cg.of_eq (ir ..)))
end
def Si(C0:Addr):Sp:=fun vs H Q _=>∃(z a b:Addr) (q:Int) (ts us:List Int) (W:Nat→Nat),vs=[.ref z,.ref a,.ref b]∧dg C0 H z q∧ax q∧H a=some (.lst (ts.map V.int))∧H b=some (.lst (us.map V.int))∧ts.length≤41∧us.length≤41∧Ea q ts us W∧de q ts∧de q us ∧
 ∀(p l0 l1 l2:Addr) (r u v:List Int) (H':Hp),ai H H'→H' p=some (.lst [.ref l0,.ref l1,.ref l2])→H' l0=some (.lst (r.map V.int))→H' l1=some (.lst (u.map V.int))→H' l2=some (.lst (v.map V.int))→de q r→de q u→de q v→(∀t,Cg q (cv (ag u) (ag ts) t+cv (ag v) (ag us) t) (ag r t))→(r=[]→ts=[]∧us=[])→cF q (ag r) (ag ts)→cF q (ag r) (ag us)→r.length≤41→u.length≤42→v.length≤42→(r.length<max ts.length us.length→u.length+r.length≤max ts.length us.length∧v.length+r.length≤max ts.length us.length)→(r≠[]→(∀x∈r,x.natAbs≤W r.length)∧(∀x∈u,x.natAbs≤W r.length)∧∀x∈v,x.natAbs≤W r.length)→Q (.ref p) H'
def jg(H:Hp)(p:Addr)(r u v:List Int):Prop:=∃l0 l1 l2:Addr,H p=some (.lst [.ref l0,.ref l1,.ref l2])∧H l0=some (.lst (r.map V.int))∧H l1=some (.lst (u.map V.int))∧H l2=some (.lst (v.map V.int))
theorem jg.mono{H':Hp}{p:Addr}{u:List Int}(h:jg H p r u v)(s:ai H H'):jg H' p r u v:=let ⟨a,b,c,e0,e1,e2,e3⟩:=h;⟨a,b,c,s _ _ e0,s _ _ e1,s _ _ e2,s _ _ e3⟩
variable {i:Nat} {Hx:Hp} {R:VK}
theorem J0{x:Addr}(hσ:σ[i]?=some (some (.ref x)))(e:Hx x=some (.lst (xs.map V.int)))(kk:∀p H',ai Hx H'→jg H' p xs [1] []→R (.ref p) H'):o4 (cX (gL i) (cX (o4 (cX (tC (.int 1)) fH)) (cX (o4 fH) fH))) σ Hx R:=by
 refine ⟨_,hσ,by show 1≤sizeLine;decide,fun l1 n1=>⟨b9 _,fun l2 n2=>⟨by show 3≤sizeLine;decide,fun p np=>?_⟩⟩⟩
 have s1:=aB (o:=.lst [.int 1]) n1;have s2:=aB (o:=.lst []) n2;have s3:=aB (o:=.lst [.ref x,.ref l1,.ref l2]) np;exact kk p _ (s1.trans (s2.trans s3)) ⟨x,l1,l2,av,s3 _ _ (s2 _ _ (s1 _ _ e)),s3 _ _ (s2 _ _ av),s3 _ _ av⟩
theorem J5{x:Addr}(hσ:σ[i]?=some (some (.ref x)))(e:Hx x=some (.lst (xs.map V.int)))(kk:∀p H',ai Hx H'→jg H' p xs [] [1]→R (.ref p) H'):o4 (cX (gL i) (cX (o4 fH) (cX (o4 (cX (tC (.int 1)) fH)) fH))) σ Hx R:=by
 refine ⟨_,hσ,b9 _,fun l1 n1=>⟨by show 1≤sizeLine;decide,fun l2 n2=>⟨by show 3≤sizeLine;decide,fun p np=>?_⟩⟩⟩
 have s1:=aB (o:=.lst []) n1;have s2:=aB (o:=.lst [.int 1]) n2;have s3:=aB (o:=.lst [.ref x,.ref l1,.ref l2]) np;exact kk p _ (s1.trans (s2.trans s3)) ⟨x,l1,l2,av,s3 _ _ (s2 _ _ (s1 _ _ e)),s3 _ _ (s2 _ _ av),s3 _ _ av⟩
theorem Ac(hq:ax q)(w:1000≤W)(q0:q≠0)(h:Rm q xs):∀x∈xs,x.natAbs≤W:=fun x hx=>by
 have:=h q0 x hx;rcases hq with z | ⟨_,z,_⟩;·exact absurd z q0
 ·lia
theorem Eb(h:∀i,(ag xs i).natAbs≤B):∀x∈xs,x.natAbs≤B:=fun x hx=>by
 obtain ⟨i,hi,rfl⟩:=iu hx;have:=h i
 rwa [show ag xs i=xs[i] from getD_at hi] at this
section
variable {q:Int} {ts us:List Int} {f g:Row} {n0 m0:Nat} {W:Nat→Nat} {r u v r' u' v':List Int} {ld ht:Int} {B:Nat}
theorem Ec(h:∀i,(aI r u v i).natAbs≤B):(∀x∈r,x.natAbs≤B)∧(∀x∈u,x.natAbs≤B)∧∀x∈v,x.natAbs≤B:=
 ⟨Eb fun i=>by have:=h (3*(i+1));rw [nO] at this;exact this,Eb fun i=>by have:=h (3*i+1);rwa [pN] at this,Eb fun i=>by have:=h (3*i+2);rwa [pO] at this⟩
end
theorem Sj{bs ys:List Int}(h:∀x∈bs,∀y∈ys,(x*y).natAbs≤B)(t:Nat):(cv (ag bs) (ag ys) t).natAbs≤bs.length*B:=by
 rw [←z9 (n:=bs.length) (m:=ys.length) (fun i hi=>da hi) (fun i hi=>da hi)];unfold bK;refine Jw _ _ fun i hi=>?_;rw [lT]
 split
 ·rename_i h2
  show (ag bs i*ag ys (t-i)).natAbs≤B;rw [show ag bs i=bs[i] from getD_at hi,show ag ys (t-i)=ys[t-i]'(by lia) from getD_at (by lia)]
  exact h _ (gD _) _ (gD _)
 ·exact b9 _
variable {r' u' K:Nat}
theorem J6{u2 u r bs:Nat}(h:u2≤max u (bs+u'-1))(b:bs=r-r'+1)(le:r'≤r)(h1:u+r'≤K)(h2:u'+r≤K):u2+r'≤K:=by lia
theorem J7{r2 r:Nat}(l:r2<r')(le:r'≤r)(h2:u'+r≤K):u'+r2≤K:=by lia
theorem kL:10 ^ 580≤10 ^ 600:=dr (by decide) (by decide)
structure d0 (T U d:Nat):Prop where
 t:1000≤T
 tu:T≤U
 l:100*(T*(2*U) ^ (d+1))≤10 ^ 580
section
variable {T U d:Nat}
theorem d0.a(S:d0 T U d):T*(2*U) ^ (d+1)≤10 ^ 580:=ae (fX _ (by decide)) S.l
theorem d0.pw(S:d0 T U d)(h:i≤d+1):(2*U) ^ i≤(2*U) ^ (d+1):=dr (by have:=S.t;have:=S.tu;lia) h
theorem d0.p(S:d0 T U d):(2*U) ^ (d+1)≤10 ^ 580:=ae (fX _ (by have:=S.t;lia)) S.a
theorem d0.u(S:d0 T U d):U≤10 ^ 580:=ae (by lia) (ae (ae (iT (rX (2*U)).symm) (S.pw (i:=1) (by lia))) S.p)
theorem d0.to(S:d0 T U d):T≤10 ^ 580:=ae S.tu S.u
theorem d0.pow(S:d0 T U d)(h:x.natAbs≤U)(hi:i≤d+1):(x ^ i).natAbs≤10 ^ 580:=by rw [gH];exact ae (Nat.pow_le_pow_left (ae h (by lia)) i) (ae (S.pw hi) S.p)
theorem d0.lead(S:d0 T U d){y:Int}(h:x.natAbs≤T)(hy:y.natAbs≤U):(x*y ^ d).natAbs≤10 ^ 580:=by rw [a8,gH];exact ae (bH h (ae (Nat.pow_le_pow_left (ae hy (show U≤2*U by lia)) d) (S.pw (by lia)))) S.a
variable {m:Int}
theorem d0.az(S:d0 T U d)(h:m.natAbs≤1000*(2*U) ^ (d+1)):m.natAbs≤10 ^ 600:=ae h (ae (d4 1000 S.p) (by decide +kernel))
theorem d0.mx(S:d0 T U d)(h:m.natAbs≤1000*(2*U) ^ (d+1))(hx:x.natAbs≤T):(m*x).natAbs≤10 ^ 599:=by rw [a8];refine ae (bH h hx) ?_;rw [mH,jq _ T];exact ae (d4 1000 S.a) (by decide +kernel)
theorem d0.cv(S:d0 T U d){bs ys:List Int}(l:bs.length≤50)(hb:∀x∈bs,x.natAbs*(2*U)≤T*(2*U) ^ (d+1))(hy:∀y∈ys,y.natAbs≤U)(t:Nat):(cv (ag bs) (ag ys) t).natAbs≤10 ^ 599:=by
 refine ae (Sj (B:=10 ^ 580) (fun x hx y h=>?_) t) (ae (gi _ l) (by decide +kernel))
 rw [a8];exact ae (d4 _ (ae (hy y h) (show U≤2*U by lia))) (ae (hb x hx) S.a)
theorem d0.bs(S:d0 T U d)(h:x.natAbs*(2*U)≤T*(2*U) ^ (d+1)):x.natAbs≤10 ^ 600:=ae (fW _ (by have:=S.t;have:=S.tu;lia)) (ae h (ae S.a (dr (by decide) (by decide))))
end
section
variable {q:Int} {ts us:List Int} {f g:Row} {n0 m0:Nat} {W:Nat→Nat} {r u v r' u' v':List Int} {ld ht:Int}
theorem CI.Sk(I:CI q ts us f g n0 m0 W r u v r' u' v' ld ht)(G:CG q f g n0 m0 W)(L:∀n m,n≤n0→m≤n→1≤m→100*(W n*(2*W (n-1)) ^ (n-m+1))≤10 ^ 580)(ne:r'≠[]):d0 (W r.length) (W (r.length-1)) (r.length-r'.length):=
 ⟨G.w1 _,G.am _ _ (by lia),L _ _ I.rn I.le (iY.mpr ne)⟩
theorem CI.hU(I:CI q ts us f g n0 m0 W r u v r' u' v' ld ht)(G:CG q f g n0 m0 W):ht.natAbs≤W (r.length-1):=ae I.bh (G.am _ _ (by lia))
theorem Sl{r2 u2 v2:List Int}{C:Row}(hq:ax q){least:Int}(nl:¬q∣least)(h0:Cg q 0 (least*C 0))(e0:∀t,Cg q (ag r2 t) (C (3*(t+1))))(e1:∀t,Cg q (ag u2 t) (C (3*t+1)))(e2:∀t,Cg q (ag v2 t) (C (3*t+2))):∀i,Cg q (aI r2 u2 v2 i) (C i):=
 JS (fun t=>by
  rw [nO];unfold up1;by_cases z:t=0
  ·rw [ar z,z]
   exact xu hq nl ((Cg.of_eq (cJ _)).trans h0)
  ·rw [ao z]
   have:=e0 (t-1)
   rwa [show t-1+1=t by lia] at this) (fun t=>by rw [pN];exact e1 t) (fun t=>by rw [pO];exact e2 t)
variable {t:Nat}
theorem Sm{az:Int}{bs:List Int}:Lf az (aI r u v) (ag bs) (aI r' u' v') (3*t+1)=az*ag u t-cv (ag bs) (ag u') t:=by unfold Lf;rw [pN,JT]
theorem Sn{az:Int}{bs:List Int}:Lf az (aI r u v) (ag bs) (aI r' u' v') (3*t+2)=az*ag v t-cv (ag bs) (ag v') t:=by unfold Lf;rw [pO,JU]
theorem So{az:Int}{bs:List Int}:Lf az (aI r u v) (ag bs) (aI r' u' v') 0=0:=z_ (t:=0)
theorem kJ.fin{T U k:Nat}{bs ls:List Int}{az:Int}(I:kJ q r r' T U k k bs ls az)(t:Nat):Cg q (az*ag r t) (cv (ag bs) (ag r') t+ag ls t):=by
 have e:=I.eq t;rw [k8,RK] at e;have lb:=I.lb;rw [←lb] at e
 rwa [show bK bs.length r'.length (fun j=>bs.getD j 0) (fun j=>r'.getD j 0) t=cv (ag bs) (ag r') t from z9 (n:=bs.length) (m:=r'.length) (fun i hi=>da hi) (fun i hi=>da hi) t] at e
end
def Sq:Sp:=fun vs H Q _=>∃(a:Addr) (ps:aK) (B:Nat) (D:Int),vs=[.ref a]∧aE B H 0 a ps∧ps.length≤100∧aY 0 D∧(∀p∈ps,p.2∣D)∧B≤10 ^ 300∧D.natAbs≤10 ^ 300∧∀(v:V) (H':Hp) (ts:List Int) (b:Int),ai H H'→IU H H' v ts b→Js 0 ps ts b D B→Q v H'
def Sr(C:Addr):Sp:=fun vs H Q _=>∃(z a:Addr) (q:Int) (ps:aK) (B:Nat) (D:Int),vs=[.ref z,.ref a]∧dg C H z q∧ax q∧aE B H q a ps∧ps.length≤100∧aY q D∧(∀p∈ps,p.2∣D)∧B≤10 ^ 300∧1000≤B∧D.natAbs≤10 ^ 300∧∀(v:V) (H':Hp) (ts:List Int) (b:Int),ai H H'→IU H H' v ts b→Js q ps ts b D B→Q v H'
theorem J8(h:x.natAbs≤10 ^ 300):aP x:=gh h (by decide +kernel)
structure J9 (q:Int) (ps rs:aK) (D1 D2:Int) (f g:Nat→Int) (W V:Nat) (Z:Nat→Nat):Prop where
 lp:ps.length≤50
 lr:rs.length≤50
 nR:aY q D1
 gT:aY q D2
 Ad:∀p∈ps,p.2∣D1
 Ae:∀p∈rs,p.2∣D2
 w1:∀i,aS q (ps.getD i o1) (f i,D1)
 w2:∀i,aS q (rs.getD i o1) (g i,D2)
 t1:∀i,(f i).natAbs≤W
 u2:∀i,(g i).natAbs≤W
 u3:q=0→∀i,(g i).natAbs≤V
 hW:1000≤W
 d1:D1.natAbs≤W
 d2:D2.natAbs≤W
 c1:(aN ps).length≤41
 c2:(aN rs).length≤41
 lim:∀ts us:List Int,ts.length=(aN ps).length→us.length=(aN rs).length→(∀x∈ts,x.natAbs≤W)→(∀x∈us,x.natAbs≤W)→(q=0→∀x∈us,x.natAbs≤V)→Ea q ts us Z
 big:Z 1*W≤10 ^ 290
 zw:1≤Z 1∧W≤10 ^ 290
theorem Ss{t b f D:Int}{p:Int×Int}{T:Nat}(hc:Canon 0 p)(e:t*p.2=p.1*b)(ok:aY 0 b)(c_:aY 0 D)(db:b∣D)(w:aS 0 p (f,D))(bf:f.natAbs≤T):t.natAbs≤T:=by
 have hp:=(hc.bot).1 rfl;have hb:=ok.1 rfl;have hD:=c_.1 rfl;obtain ⟨k,ek⟩:=w;have e2:p.1*D=f*p.2:=by dsimp only at ek;omega
 have e3:t*D=f*b:=by
  have:(t*D)*p.2=(f*b)*p.2:=by rw [r6,e,r6,e2,r6]
  exact Co (show p.2≠0 by lia) this
 have e4:t.natAbs*D.natAbs=f.natAbs*b.natAbs:=by rw [←a8,e3,a8]
 have e5:b.natAbs≤D.natAbs:=je db (by lia)
 have e6:t.natAbs*D.natAbs≤f.natAbs*D.natAbs:=by rw [e4];exact d4 _ e5
 exact ae (Cm e6 (by lia)) bf
structure ft (q:Int) (ps rs gs us vs:aK) (ts ws r u v:List Int) (b1 b2 ld:Int):Prop where
 k1:aY q b1
 k2:aY q b2
 p1:∀k,aS q (ps.getD k o1) (ag ts k,b1)
 p2:∀k,aS q (rs.getD k o1) (ag ws k,b2)
 nl:¬q∣ld
 hg:∀k,k<gs.length→aS q (gs.getD k My.o1) (ag r k*1,ld)
 hu:∀k,k<us.length→aS q (us.getD k My.o1) (ag u k*b1,ld)
 hv:∀k,k<vs.length→aS q (vs.getD k My.o1) (ag v k*b2,ld)
 lg:gs.length=r.length
 lu:us.length=u.length
 lv:vs.length=v.length
 bz:∀t,Cg q (cv (ag u) (ag ts) t+cv (ag v) (ag ws) t) (ag r t)
 d1:cF q (ag r) (ag ts)
 d2:cF q (ag r) (ag ws)
 nil:gs=[]→aN ps=[]∧aN rs=[]∧us=[]∧vs=[]
 lead:r≠[]→ld=ag r (r.length-1)
 tr:de q r
def Su(C:Addr):Sp:=fun vs H Q _=>∃(z a b:Addr) (q:Int) (ps rs:aK) (D1 D2:Int) (f g:Nat→Int) (W V:Nat) (Z:Nat→Nat),vs=[.ref z,.ref a,.ref b]∧dg C H z q∧ax q∧aE (10 ^ 290) H q a ps∧aE (10 ^ 290) H q b rs∧J9 q ps rs D1 D2 f g W V Z ∧
 ∀(p l0 l1 l2:Addr) (gs us vs:aK) (ts ws r u v:List Int) (b1 b2 ld:Int) (H':Hp),ai H H'→H' p=some (.tup [.ref l0,.ref l1,.ref l2])→H l0=none→H l1=none→H l2=none→l0≠l1→l0≠l2→l1≠l2→aE B2 H' q l0 gs→aE B2 H' q l1 us→aE B2 H' q l2 vs→aN gs=gs→aN us=us→aN vs=vs→gs.length≤50→us.length≤50→vs.length≤50→(r.length<max (aN ps).length (aN rs).length→u.length+r.length≤max (aN ps).length (aN rs).length∧v.length+r.length≤max (aN ps).length (aN rs).length)→
  (∀x∈r,x.natAbs≤Z r.length)→(∀x∈u,x.natAbs≤Z 1)→(∀x∈v,x.natAbs≤Z 1)→(∀x∈ts,x.natAbs≤W)→(∀x∈ws,x.natAbs≤W)→b1.natAbs≤W→b2.natAbs≤W→ld.natAbs≤Z 1→ft q ps rs gs us vs ts ws r u v b1 b2 ld→Q (.ref p) H'
theorem Ed{a:Addr}(e:H a=some (.lst [])):aE B H q a []:=⟨[],e,rfl,fun i v p h=>by simp at h⟩
end My
namespace Srs
def gy(w:Row→Nat):List Row→Nat
 | []=>1
 | r::rs=>w r*gy w rs
theorem Af(w:Row→Nat):∀a b,gy w (a++b)=gy w a*gy w b
 | [],b=>by simp [gy]
 | x::a,b=>by rw [iX,gy,gy,Af w a b,mH]
theorem Ee{w:Row→Nat}{B:Nat}:∀rs,(∀r∈rs,w r≤B)→gy w rs≤B ^ rs.length
 | [],_=>aJ _
 | r::rs,h=>by rw [gy,eQ,fF,jq];exact bH (Ee rs fun s hs=>h s (gZ _ hs)) (h r kZ)
theorem J_{c L B:Nat}{w:Row→Nat}{F:List Row→Int}(hF:∀rows,rows.length=L→(∀r∈rows,∀i,(r i).natAbs≤w r)→(F rows).natAbs≤B*gy w rows):∀(rows pre:List Row),pre.length+rows.length=L+1→(∀r∈pre,∀i,(r i).natAbs≤w r)→(∀r∈rows,∀i,(r i).natAbs≤w r)→(dh c F pre rows).natAbs≤rows.length*(B*gy w (pre++rows))
 | [],pre,_,_,_=>by simp [dh]
 | r::post,pre,hl,hp,hr=>by
  have h1:=hF (pre++post) (by simp at hl ⊢;lia) fun s hs=>by
   rcases ik.mp hs with h | h;·exact hp s h
   ·exact hr s (gZ _ h)
  have h2:=J_ (c:=c) hF post (pre++[r]) (by simp at hl ⊢;lia) (fun s hs=>by
   rcases ik.mp hs with h | h;·exact hp s h
   ·rw [iV.mp h];exact hr r kZ) fun s hs=>hr s (gZ _ hs)
  have h3:=bH (hr r kZ c) h1;have h4:=Int.natAbs_sub_le (r c*F (pre++post)) (dh c F (pre++[r]) post);rw [a8] at h4;have e1:pre++[r]++post=pre++r::post:=by simp
  have e2:w r*(B*gy w (pre++post))=B*gy w (pre++r::post):=by
   rw [Af,Af,gy]
   ac_rfl
  rw [e1] at h2;rw [e2] at h3;rw [dh,eQ,Nat.succ_mul];lia
theorem Ka{w:Row→Nat}:∀(cs:List Nat) (rows:List Row),cs.length=rows.length→(∀r∈rows,∀i,(r i).natAbs≤w r)→(det cs rows).natAbs≤jP cs.length*gy w rows
 | [],[],_,_=>by simp [det,jP,gy]
 | [],_::_,h,_=>by simp at h
 | c::cs,rows,h,hr=>by
  have:=J_ (c:=c) (L:=cs.length) (w:=w) (fun rs hl hb=>Ka cs rs hl.symm hb) rows [] (by simp at h ⊢;lia) (fun _ z=>nomatch z) hr
  show (dh c (det cs) [] rows).natAbs≤_;refine ae this (iT ?_);rw [←h,eQ,jP,fC,mH]
open Classical in
theorem Sv{f g:Row}{n m j t W:Nat}(hf:∀i,(f i).natAbs≤1)(hg:∀i,(g i).natAbs≤W)(w1:1≤W)(hj:j<m)(mn:m≤n):S j f n g m t≤jP (n+m-2*j)*W ^ (n-j):=by
 have l:(cols (n+m-j-1) (n+m-2*j-1)++[t]).length=n+m-2*j:=by rw [jo,JN];simp;lia
 let w:Row→Nat:=fun r=>if ∃k,r=sh k f then 1 else W
 have hw:∀r,w r≤W:=fun r=>by
  show (if _ then 1 else W)≤W
  split
  ·exact w1
  ·exact aJ _
 have:=Ka (w:=w) (cols (n+m-j-1) (n+m-2*j-1)++[t]) (b6 f (m-j)++b6 g (n-j)) (by rw [l,jo,xt,xt];lia) fun r hr i=>by
  show (r i).natAbs≤if _ then 1 else W
  split
  ·rename_i h
   obtain ⟨k,rfl⟩:=h;exact JO hf i
  ·rename_i h
   rcases ik.mp hr with h' | h'
   ·obtain ⟨k,_,e⟩:=nF.mp h'
    exact absurd ⟨k,e⟩ h
   ·obtain ⟨k,_,rfl⟩:=nF.mp h';exact JO hg i
 rw [l] at this;refine ae this (d4 _ ?_);rw [Af];have a1:=Ee (w:=w) (B:=1) (b6 f (m-j)) fun r hr=>by
  obtain ⟨k,_,e⟩:=nF.mp hr;show (if _ then 1 else W)≤1
  rw [ar ⟨k,e⟩];exact aJ _
 have a2:=Ee (w:=w) (B:=W) (b6 g (n-j)) fun r _=>hw r;rw [xt,Nat.one_pow] at a1;rw [xt] at a2;exact ae (bH a1 a2) (iT (Nat.one_mul _))
theorem Kb{a b:Nat}(h:a≤b):jP a≤jP b:=by
 induction b with
 | zero=>rw [Nat.le_zero.mp h];exact aJ _
 | succ b ih=>
  by_cases e:a=b+1;·rw [e];exact aJ _
  ·exact ae (ih (by lia)) (by rw [jP];exact fX _ (by lia))
theorem Ag:∀a,1≤jP a
 | 0=>aJ _
 | a+1=>by rw [jP];exact ae (Ag a) (fX _ (by lia))
end Srs
namespace My
open PySem L2 Srs
def Zt(q:Int)(n W j:Nat):Nat:=if q=0 then jP (2*n+1-2*j)*W ^ (max 1 (n+1-j)) else 1000
def Kc(n W:Nat):Bool:=(List.range (n+2)).all fun a=>(List.range (a+1)).all fun m=>m == 0 || decide (100*(Zt 0 n W a*(2*Zt 0 n W (a-1)) ^ (a-m+1))≤10 ^ 580)
structure pQ (q:Int) (n W:Nat):Prop where
 w:1000≤W
 n1:1≤n
 dy:n≤40
 lim:q=0→Kc n W=true
variable {q:Int} {n W:Nat}
theorem jQ(s:pQ q n W)(j:Nat):1000≤Zt q n W j:=by
 unfold Zt
 split
 ·have h:=s.w
  have h1:W ^ 1≤W ^ (max 1 (n+1-j)):=dr (by lia) (by lia)
  have h2:=Ag (2*n+1-2*j);have h3:=bH h2 h1;rw [rX] at h3;lia
 ·exact aJ _
theorem Ef(s:pQ q n W)(i j:Nat)(h:i≤j):Zt q n W j≤Zt q n W i:=by
 unfold Zt
 split
 ·exact bH (Kb (by lia)) (dr (by have:=s.w;lia) (by lia))
 ·exact aJ _
theorem Sw(s:pQ q n W)(z:q=0)(j:Nat):W≤Zt q n W j:=by
 unfold Zt;rw [ar z];have h:=s.w;have h1:W ^ 1≤W ^ (max 1 (n+1-j)):=dr (by lia) (by lia)
 have h3:=bH (Ag (2*n+1-2*j)) h1;rw [rX] at h3;lia
variable {m:Nat}
theorem pQ.pw(s:pQ q n W){a:Nat}(ha:a≤n+1)(h:m≤a)(m1:1≤m):100*(Zt q n W a*(2*Zt q n W (a-1)) ^ (a-m+1))≤10 ^ 580:=by
 by_cases z:q=0
 ·subst z
  have h1:=vV.mp (s.lim rfl) a (vL.mpr (by lia))
  have h2:=vV.mp h1 m (vL.mpr (by lia))
  rcases Bool.or_eq_true_iff.mp h2 with z | z
  ·have:=jZ.mp z
   lia
  ·exact dm z
 ·unfold Zt
  rw [ao z,ao z];have:=s.dy;exact ae (d4 _ (d4 _ (dr (by decide) (show a-m+1≤42 by lia)))) (by decide +kernel)
variable {ts:List Int}
theorem Sx(hq:ax q)(s:pQ q n W){us:List Int}(lt:ts.length≤n)(lu:us.length=n+1)(bt:∀x∈ts,x.natAbs≤W)(Sy:q≠0→∀x∈ts,x.natAbs≤1000)(Eg:q≠0→∀x∈us,x.natAbs≤1000)(bu:q=0→∀x∈us,x.natAbs≤1):Ea q ts us (Zt q n W):=by
 have w1:1≤W:=by have:=s.w;lia
 refine ⟨jQ s,Ef s,fun j x hx=>?_,fun j x hx=>?_,fun _ z j t hj=>?_,fun h=>by lia,fun _ z=>?_,fun h=>by lia,fun a m ha h1 h2=>s.pw (by lia) h1 h2⟩
 ·by_cases z:q=0
  ·exact ae (bt x hx) (Sw s z j)
  ·exact ae (Sy z x hx) (jQ s j)
 ·by_cases z:q=0
  ·exact ae (bu z x hx) (ae (by decide) (jQ s j))
  ·exact ae (Eg z x hx) (jQ s j)
 ·have b:=Sv (f:=aI us [] [1]) (n:=us.length) (g:=aI ts [1] []) (m:=ts.length) (j:=j) (t:=t) (xx (bu z) (fun x h=>nomatch h) fun x h=>by rw [iV.mp h];decide) (xx bt (fun x h=>by rw [iV.mp h];exact w1) fun x h=>nomatch h) w1 hj (by lia)
  refine ae b ?_;unfold Zt;rw [ar z];exact bH (Kb (by lia)) (dr w1 (by lia))
 ·have b:=Nat.pow_le_pow_left (nQ bt (ts.length-1)) (us.length-ts.length)
  refine ae b ?_;unfold Zt;rw [ar z];exact ae (dr w1 (by lia)) (fX _ (Ag _))
section
variable {q:Int}
theorem Eh:∀(n:Nat) (F:Nat→Int),(∀j,j<n→q∣F j)→q∣aQ n F
 | 0,_,_=>dB q
 | n+1,F,h=>by rw [gw];exact Int.dvd_add (Eh n F fun j hj=>h j (by lia)) (h n (by lia))
theorem Kd:∀(k n:Nat) (F:Nat→Int),n<k→(∀j,j<k→j≠n→q∣F j)→Cg q (aQ k F) (F n)
 | 0,_,_,h,_=>absurd h (oC _)
 | k+1,n,F,h,z=>by
  rw [gw];by_cases e:n=k
  ·subst e
   have:=Eh (q:=q) n F fun j hj=>z j (by lia) (by lia)
   obtain ⟨c,hc⟩:=this;exact ⟨c,by lia⟩
  ·have a:=Kd k n F (by lia) fun j hj=>z j (by lia)
   obtain ⟨c,hc⟩:=z k (by lia) (by lia)
   obtain ⟨d,hd⟩:=a;exact ⟨d+c,by rw [j8];lia⟩
theorem Sz{r:List Int}{X:Nat→Int}(hq:ax q)(ne:r≠[])(tr:de q r)(hX:cF q (ag r) X)(sh:∀t,r.length-1≤t→q∣X t)(t:Nat):q∣X t:=by
 obtain ⟨c,w,N,nc,hw,e⟩:=hX;have l1:=iY.mpr ne;have all:∀n,(∀i,n≤i→q∣w i)→∀i,q∣w i:=fun n=>by
  induction n with
  | zero=>exact fun h i=>h i (b9 _)
  | succ n ih=>
   refine fun h=>ih fun i hi=>?_;by_cases z:i=n
   ·subst z
    have e1:=e (i+(r.length-1));have x0:q∣c*X (i+(r.length-1)):=jr (sh _ (by lia)) (vZ _ _)
    have s1:Cg q (cv w (ag r) (i+(r.length-1))) (w i*ag r (r.length-1)):=by
     unfold cv;refine (Kd (q:=q) _ i _ (by lia) fun j hj hn=>?_).trans (Cg.of_eq ?_)
     ·by_cases g:i<j
      ·exact jr (h j g) (vX _ _)
      ·rw [da (by lia),cJ]
       exact dB q
     ·rw [show i+(r.length-1)-i=r.length-1 by lia]
    obtain ⟨d,hd⟩:=e1.trans s1;obtain ⟨k,hk⟩:=x0;refine Cs fun nw=>dY hq nw (tr ne) ⟨k-d,?_⟩;rw [mK];lia
   ·exact h i (by lia)
 have w0:=all N fun i hi=>by rw [hw i hi];exact dB q
 have c0:q∣cv w (ag r) t:=Eh _ _ fun j _=>jr (w0 j) (vX _ _);obtain ⟨d,hd⟩:=e t;obtain ⟨k,hk⟩:=c0;refine Cs fun nx=>dY hq nc nx ⟨d+k,?_⟩;rw [j8];lia
end
def tp(n:Nat):Nat→Int:=fun i=>(if i=n then 1 else 0)+if i=0 then -1 else 0
def dl(E:Int):Nat→Int:=fun i=>if i=0 then E else 0
theorem Ei(c:Int)(st:Nat)(g:Nat→Int)(t:Nat):cv (fun i=>if i=st then c else 0) g t=if st≤t then c*g (t-st) else 0:=by
 unfold cv;rw [cY (g:=fun i=>if i=st then c*g (t-st) else 0) fun i _=>by
  dsimp only;by_cases e:i=st;·rw [ar e,ar e,e]
  ·rw [ao e,ao e,jt]]
 by_cases h:st≤t
 ·rw [ar h]
  exact Jh (t+1) st (fun _=>c*g (t-st)) (by lia)
 ·rw [ao h,cY (g:=fun _=>0) fun i hi=>ao (by lia),jM]
theorem xy(n:Nat)(w:Nat→Int)(t:Nat):cv w (tp n) t=(if n≤t then w (t-n) else 0)-w t:=by
 rw [z8];show cv (fun i=>(if i=n then 1 else 0)+if i=0 then -1 else 0) w t=_
 rw [zZ,Ei,Ei,ar (b9 t),rY,k_];lia
theorem xA(E:Int)(g:Nat→Int)(t:Nat):cv (dl E) g t=E*g t:=by
 show cv (fun i=>if i=0 then E else 0) g t=_
 rw [Ei,ar (b9 t),rY]
def dF(N:Nat)(f:Nat→Int):Prop:=∀i,N≤i→f i=0
theorem xB(E:Int):dF 1 (dl E):=fun i hi=>ao (by lia)
variable {f g:Nat→Int}
theorem gU{N M:Nat}(hf:dF N f)(hg:dF M g):dF (N+M) (cv f g):=fun _ hi=>JM hf hg hi
def Mo(q:Int)(n:Nat)(h h':Nat→Int):Prop:=∃(c:Int) (w:Nat→Int) (N:Nat),¬q∣c∧dF N w∧∀t,Cg q (c*h t) (c*h' t+cv w (tp n) t)
theorem SA(c d g x y:Int):c*(d*g+y)+d*x=c*d*g+(d*x+c*y):=by grind
section
variable {q:Int} {n:Nat} {h h' g f:Nat→Int}
theorem Mo.lW(hq:ax q)(e:∀t,Cg q (h t) (h' t)):Mo q n h h':=⟨1,fun _=>0,0,jf hq,fun _ _=>rfl,fun t=>((e t).mulL 1).trans (Cg.of_eq (by
 rw [xy]
 split <;> lia))⟩
theorem Mo.symm(e:Mo q n h h'):Mo q n h' h:=by
 obtain ⟨c,w,N,nc,l,e⟩:=e;refine ⟨c,fun i=>-1*w i,N,nc,fun i hi=>by show -1*w i=0;rw [l i hi];rfl,fun t=>?_⟩
 rw [gS];have:=(e t).symm.sub (Cg.refl (q:=q) (cv w (tp n) t));rw [Int.add_sub_cancel] at this;exact this.trans (Cg.of_eq (by lia))
theorem Mo.trans(hq:ax q)(e:Mo q n h h')(e':Mo q n h' g):Mo q n h g:=by
 obtain ⟨c,w,N,nc,l,e⟩:=e;obtain ⟨d,w',N',nd,l',e'⟩:=e';refine ⟨c*d,fun i=>d*w i+c*w' i,N+N',dY hq nc nd,fun i hi=>by show d*w i+c*w' i=0;rw [l i (by lia),l' i (by lia),cJ,cJ];rfl,fun t=>?_⟩
 rw [zZ,gS,gS];have a:=(e t).mulL d;have b:=((e' t).mulL c).add (Cg.refl (q:=q) (d*cv w (tp n) t));refine Cg.trans (Cg.of_eq ?_) (a.trans (Cg.trans (Cg.of_eq ?_) (b.trans (Cg.of_eq (SA ..)))));·grind
 ·grind
variable {N:Nat}
theorem Mo.Ah(e:Mo q n h h')(lg:dF N g):Mo q n (cv g h) (cv g h'):=by obtain ⟨c,w,M,nc,l,e⟩:=e;refine ⟨c,cv g w,N+M,nc,gU lg l,fun t=>?_⟩;rw [tL,←nK,←nK,←JK];exact jO (fun _=>Cg.refl _) e
theorem pR(f g:Nat→Int):cv f g=cv g f:=funext fun t=>z8 _ _ t
theorem iJ(f g h:Nat→Int):cv (cv f g) h=cv f (cv g h):=funext fun t=>tL f g h t
theorem Mo.kM(e:Mo q n h h')(lg:dF N g):Mo q n (cv h g) (cv h' g):=by rw [pR h g,pR h' g];exact e.Ah lg
theorem Ej(c:Int)(h:Nat→Int):cv (dl c) h=fun t=>c*h t:=funext fun t=>xA c h t
theorem Mo.mul(c:Int)(e:Mo q n h h'):Mo q n (fun t=>c*h t) (fun t=>c*h' t):=by
 have:=e.Ah (xB c)
 rwa [Ej,Ej] at this
theorem Mo.cancel(hq:ax q){k:Int}(nk:¬q∣k)(e:Mo q n (fun t=>k*h t) (fun t=>k*h' t)):Mo q n h h':=by obtain ⟨c,w,N,nc,l,e⟩:=e;refine ⟨c*k,w,N,dY hq nc nk,l,fun t=>?_⟩;rw [ir,ir];exact e t
theorem Mo.uniq(hq:ax q)(n1:1≤n)(e:Mo q n h h')(l1:∀t,n≤t→q∣h t)(l2:∀t,n≤t→q∣h' t)(t:Nat):Cg q (h t) (h' t):=by
 obtain ⟨c,w,N,nc,l,e⟩:=e;have l1:∀t,n≤t→q∣c*h t:=fun t ht=>jr (l1 t ht) (vZ ..);have l2:∀t,n≤t→q∣c*h' t:=fun t ht=>jr (l2 t ht) (vZ ..);refine xu hq nc ?_;have all:∀M,(∀i,M≤i→q∣w i)→∀i,q∣w i:=fun M=>by
  induction M with
  | zero=>exact fun h i=>h i (b9 _)
  | succ M ih=>
   refine fun hM=>ih fun i hi=>?_;by_cases z:i=M
   ·subst z
    have e1:=e (i+n);rw [xy,ar (by lia),mJ] at e1
    obtain ⟨a,ha⟩:=hM (i+n) (by lia)
    obtain ⟨b,hb⟩:=l1 (i+n) (by lia)
    obtain ⟨d,hd⟩:=l2 (i+n) (by lia)
    obtain ⟨x,hx⟩:=e1;rw [ha,hb,hd] at hx;refine ⟨b-d+a-x,?_⟩;rw [mK,j8,mK];lia
   ·exact hM i (by lia)
 have w0:=all N fun i hi=>by rw [l i hi];exact dB q
 have et:=e t;rw [xy] at et;obtain ⟨a,ha⟩:=w0 t;obtain ⟨b,hb⟩:=w0 (t-n);obtain ⟨d,hd⟩:=et
 split at hd
 ·refine ⟨d+b-a,?_⟩
  rw [mK,j8];lia
 ·refine ⟨d-a,?_⟩
  rw [mK];lia
def wr(n:Nat)(h:Nat→Int):Nat→Int:=fun t=>if t<n then h t+h (t+n) else 0
theorem xC(n:Nat)(h:Nat→Int):dF n (wr n h):=fun i hi=>ao (by lia)
theorem xD(hq:ax q)(l:dF (2*n) h):Mo q n (wr n h) h:=by
 refine ⟨1,fun t=>-h (t+n),2*n,jf hq,fun i hi=>by show -h (i+n)=0;rw [l _ (by lia)];rfl,fun t=>Cg.of_eq ?_⟩
 rw [xy];unfold wr;by_cases z:t<n
 ·rw [ar z,ao (by lia)]
  lia
 ·rw [ao z,ar (by lia),show t-n+n=t by lia,l (t+n) (by lia)]
  lia
variable {D X:Nat→Int}
theorem cF.kM{G:Nat→Int}(hX:cF q D X)(lg:dF N G):cF q D (cv X G):=by obtain ⟨c,w,M,nc,lw,e⟩:=hX;refine ⟨c,cv G w,N+M,nc,gU lg lw,fun t=>?_⟩;rw [z8 X G,←nK,tL];exact jO (fun _=>Cg.refl _) e
theorem cF.mo{Y:Nat→Int}(hq:ax q)(hX:cF q D X)(ht:cF q D (tp n))(e:Mo q n Y X):cF q D Y:=by obtain ⟨c,w,N,nc,l,e⟩:=e;refine cF.made hq ht hX (az:=c) (least:=c) (b:=w) (n:=N) l nc fun t=>?_;rw [Int.add_comm];exact e t
theorem SD{r:List Int}{E:Int}(hq:ax q)(l2:2≤r.length)(tr:de q r)(d1:cF q (ag r) f)(d2:cF q (ag r) (tp n))(lg:dF N g)(nE:¬q∣E)(e:Mo q n (cv f g) (dl E)):False:=by
 have d3:=cF.mo hq (d1.kM lg) d2 e.symm;have z:=Sz hq (fun z=>by rw [z] at l2;exact absurd l2 (by decide)) tr d3 (fun t ht=>by
  show q∣(if t=0 then E else 0)
  rw [ao (by lia)]
  exact dB q) 0
 exact nE z
end
def Inv(q:Int)(n:Nat)(f:Nat→Int):Prop:=∃(G:Nat→Int) (E:Int) (N:Nat),dF N G∧¬q∣E∧Mo q n (cv f G) (dl E)
section
variable {q:Int} {n:Nat} {f g f1 f2 F G h:Nat→Int}
variable {N:Nat}
theorem Mo.Ke(hq:ax q){a b c d:Nat→Int}(e1:Mo q n a c)(e2:Mo q n b d){M:Nat}(lb:dF N b)(lc:dF M c):Mo q n (cv a b) (cv c d):=(e1.kM lb).trans hq (e2.Ah lc)
theorem Inv.both(hq:ax q)(l1:dF n f1)(l2:dF n f2)(e:Mo q n h (cv f1 f2)):Inv q n h↔Inv q n f1∧Inv q n f2:=by
 constructor
 ·rintro ⟨G,E,N,lG,nE,m⟩
  have a:Mo q n (cv f1 (cv f2 G)) (dl E):=by rw [←iJ];exact (e.symm.kM lG).trans hq m
  have b:Mo q n (cv f2 (cv f1 G)) (dl E):=by rw [←iJ,pR f2 f1];exact (e.symm.kM lG).trans hq m
  exact ⟨⟨_,E,_,gU l2 lG,nE,a⟩,⟨_,E,_,gU l1 lG,nE,b⟩⟩
 ·rintro ⟨⟨G1,E1,N1,Kf,SE,m1⟩,⟨G2,E2,N2,Ek,SF,m2⟩⟩
  refine ⟨cv G1 G2,E1*E2,_,gU Kf Ek,dY hq SE SF,?_⟩;have a:=e.kM (gU Kf Ek);refine a.trans hq ?_;have b:=m1.Ke hq m2 (gU l2 Ek) (xB E1);rw [show cv (cv f1 f2) (cv G1 G2)=cv (cv f1 G1) (cv f2 G2) by rw [iJ,iJ,←iJ f2 G1,pR f2 G1,iJ]]
  refine b.trans hq (Mo.lW hq fun t=>Cg.of_eq ?_);rw [xA];unfold dl
  split
  ·rfl
  ·rw [cJ]
variable {M:Int}
theorem Mo.SG(hq:ax q){D1 D2 M1 M2:Int}{F1 F2:Nat→Int}(l2:dF n f2)(lh:dF n h)(SH:dF n F1)(Kg:dF n F2)(lF:dF n F)(e:Mo q n h (cv f1 f2))(m1:Mo q n (cv f1 F1) (dl (D1*M1)))(m2:Mo q n (cv f2 F2) (dl (D2*M2)))(m:Mo q n (cv h F) (dl (D1*D2*M)))(nd:¬q∣D1*D2):Mo q n (fun t=>M1*M2*F t) (fun t=>M*cv F1 F2 t):=by
 refine Mo.cancel hq nd ?_;have lX:=gU SH Kg;have a:Mo q n (cv h (cv F1 F2)) (cv (dl (D1*M1)) (dl (D2*M2))):=by
  refine (e.kM lX).trans hq ?_;have b:=m1.Ke hq m2 (gU l2 Kg) (xB (D1*M1))
  rwa [show cv (cv f1 F1) (cv f2 F2)=cv (cv f1 f2) (cv F1 F2) by rw [iJ,iJ,←iJ F1 f2,pR F1 f2,iJ]] at b
 have c:=a.kM lF;have d:=m.kM lX;rw [show cv (cv h F) (cv F1 F2)=cv (cv h (cv F1 F2)) F by rw [iJ,iJ,pR F]] at d
 have r:=c.symm.trans hq d;refine Mo.trans hq (Mo.lW hq fun t=>Cg.of_eq ?_) (r.trans hq (Mo.lW hq fun t=>Cg.of_eq ?_))
 ·rw [tL,xA,xA]
  grind
 ·rw [xA]
  grind
theorem Mo.El(hq:ax q){D:Int}{s g1:Nat→Int}(lF:dF n F)(ls:dF N s)(m:Mo q n (cv f F) (dl (D*M)))(e:Mo q n g1 (cv f s)):Mo q n (cv F g1) (fun t=>D*M*s t):=by refine (e.Ah lF).trans hq ?_;rw [←iJ,pR F f,←Ej];exact m.kM ls
theorem Inv.cg(hq:ax q){a b:Int}(na:¬q∣a)(nb:¬q∣b)(e:∀t,Cg q (a*f t) (b*g t))(h:Inv q n f):Inv q n g:=by
 obtain ⟨G,E,N,lG,nE,m⟩:=h;refine ⟨fun t=>b*G t,a*E,N,fun i hi=>by show b*G i=0;rw [lG i hi,cJ],dY hq na nE,?_⟩
 have m:=m.mul a;refine Mo.trans hq (Mo.lW hq fun t=>?_) (m.trans hq (Mo.lW hq fun t=>Cg.of_eq ?_))
 ·show Cg q (cv g (fun i=>b*G i) t) (a*cv f G t)
  rw [nK,←gS,←gS];exact jO (fun i=>(e i).symm) fun i=>Cg.refl _
 ·show a*dl E t=dl (a*E) t
  unfold dl
  split
  ·rfl
  ·exact cJ _
end
theorem pS{x:Int}(h:x.natAbs≤10 ^ 580):aP x:=gh h (by decide +kernel)
theorem Kh{x:Int}(h:x.natAbs≤10 ^ 290):aP x:=gh h (by decide +kernel)
def SI(C:Addr):Sp:=fun vs H Q _=>∃(z a b:Addr) (q:Int) (ps rs:aK) (D1 D2:Int) (f g:Nat→Int) (X1 X2 Y1 Y2 L1 L2:Nat),vs=[.ref z,.ref a,.ref b]∧dg C H z q∧ax q∧aE B2 H q a ps∧aE B2 H q b rs∧ps.length≤50∧rs.length≤50∧RowW q ps D1 f X1 Y1 L1∧RowW q rs D2 g X2 Y2 L2∧1000≤X1∧1000≤X2∧X1*X2≤10 ^ 270∧1≤Y1∧1≤Y2∧Y1*Y2≤10 ^ 270 ∧
 ∀(c:Addr) (H':Hp),ai H H'→H c=none→aE B2 H' q c (aN (cZ q ps.length rs.length f g (D1*D2) (ps.length+rs.length-1)))→Q (.ref c) H'
structure Em (q:Int) (ps rs:aK) (D1 D2:Int) (f g:Nat→Int) (T U L:Nat):Prop where
 lp:ps.length≤100
 lr:rs.length≤50
 nR:aY q D1
 gT:aY q D2
 Ad:∀p∈ps,p.2∣D1
 Ae:∀p∈rs,p.2∣D2
 w1:∀i,aS q (ps.getD i o1) (f i,D1)
 w2:∀i,aS q (rs.getD i o1) (g i,D2)
 t1:∀i,(f i).natAbs≤T
 u2:∀i,(g i).natAbs≤U
 hT:1000≤T
 hU:1000≤U
 d2:D2.natAbs≤U
 d1:D1.natAbs≤10 ^ 290
 Ai:U≤10 ^ 290
 ne:aN rs≠[]
 len:(aN ps).length+1≤L+(aN rs).length
 big:T*(2*U) ^ L≤10 ^ 570
 Ki:1000*(2*U) ^ L*D1.natAbs≤10 ^ 570
def SJ(C:Addr):Sp:=fun vs H Q _=>∃(z a b:Addr) (q:Int) (ps rs:aK) (D1 D2:Int) (f g:Nat→Int) (T U L:Nat),vs=[.ref z,.ref a,.ref b]∧dg C H z q∧ax q∧aE (10 ^ 290) H q a ps∧aE (10 ^ 290) H q b rs∧Em q ps rs D1 D2 f g T U L ∧
 ∀(p l1 l2:Addr) (pV tM:aK) (H':Hp),ai H H'→H' p=some (.tup [.ref l1,.ref l2])→aE (10 ^ 580) H' q l1 pV→aE (10 ^ 580) H' q l2 tM→tM.length<(aN rs).length→pV.length=(aN ps).length+1-(aN rs).length→Q (.ref p) H'
def df(q:Int)(n:Nat):List (Int×Int):=jc [cf q (-1)] n++[cf q 1]
def SK(C:Addr):Sp:=fun vs H Q _=>∃(z:Addr) (q:Int) (n:Nat),vs=[.ref z,.int (n:Int)]∧dg C H z q∧ax q∧1≤n∧n≤100∧∀(c:Addr) (H':Hp),ai H H'→H c=none→aE 1000 H' q c (df q n)→Q (.ref c) H'
theorem nS(q:Int)(x:Int)(hq:ax q):Canon q (cf q x)∧aS q (cf q x) (x,1):=by
 unfold cf;by_cases z:q=0
 ·subst z
  rw [ar rfl];exact ⟨⟨fun _=>⟨by show (1:Int)≤1;decide,by show Int.gcd x 1=1;simp⟩,fun z=>absurd rfl z⟩,aS.refl _⟩
 ·rw [ao z]
  have q2:0<q:=by rcases hq with h | h <;> lia
  refine ⟨⟨fun y=>absurd y z,fun _=>⟨rfl,dA _ z,dN _ q2⟩⟩,?_⟩;obtain ⟨w,ew⟩:=zC x q;exact ⟨-w,by dsimp only;rw [gF];lia⟩
theorem nU(n1:1≤n):(df q n).length=n+1:=by unfold df jc;simp;lia
theorem En(n1:1≤n)(i:Nat):(df q n).getD i o1=if i=0 then cf q (-1) else if i=n then cf q 1 else o1:=by
 unfold df jc;rw [fD];by_cases z:i=0
 ·subst z
  rfl
 ·rw [ao z]
  by_cases y:i=n
  ·rw [ar y,g8 (by simp;lia)]
   rw [show i-([cf q (-1)]++List.replicate (n - [cf q (-1)].length) o1).length=0 by simp;lia]
   rfl
  ·rw [ao y]
   by_cases h:i<n
   ·rw [ip (by simp;lia),g8 (by simp;lia),k6]
    split <;> rfl
   ·rw [k9 (by simp;lia)]
    rfl
theorem xE(hq:ax q)(n1:1≤n)(i:Nat):aS q ((df q n).getD i o1) (tp n i,1):=by
 rw [En n1];unfold tp;by_cases z:i=0
 ·rw [ar z,ar z,ao (by lia)]
  exact (nS q (-1) hq).2
 ·rw [ao z,ao z]
  by_cases y:i=n
  ·rw [ar y,ar y]
   exact (nS q 1 hq).2
  ·rw [ao y,ao y]
   exact ⟨0,by simp [o1]⟩
theorem Eo{p:Int×Int}(h:p∈df q n):p.2=1:=by
 have e:∀x,(cf q x).2=1:=fun x=>by unfold cf;split <;> rfl
 unfold df jc at h;rcases ik.mp h with h | h
 ·rcases ik.mp h with h | h
  ·rw [iV.mp h];exact e _
  ·rw [(yR.mp h).2];rfl
 ·rw [iV.mp h];exact e _
theorem jh(hq:ax q)(n1:1≤n):aN (df q n)=df q n:=zU fun _=>by
 rw [nU n1,mJ,En n1,ao (by lia),ar rfl]
 unfold cf;rcases hq with rfl | ⟨h2,_⟩;·rw [ar rfl];decide
 ·rw [ao (by lia),mG (by decide) (by lia)];decide
theorem Aj(n i:Nat):(tp n i).natAbs≤2:=by
 unfold tp
 split <;> split <;> decide
structure nV (q:Int) (n W:Nat):Prop where
 t:pQ q n W
 wq:q≠0→W=1000
 big:Zt q n W 1*W≤10 ^ 220
 loose:1000*(2*Zt q n W 2) ^ n*1000≤10 ^ 570
structure ji (q:Int) (n W:Nat) (ps:aK):Prop where
 sz:nV q n W
 len:ps.length=n
 row:∃(D:Int) (f:Nat→Int),RowW q ps D f W W n
structure fA (q:Int) (n:Nat) (ps:aK) (D:Int) (f:Nat→Int):Prop where
 ok:aY q D
 w:∀i,aS q (ps.getD i o1) (f i,D)
 low:dF n f
structure jR (q:Int) (n:Nat) (ps rs:aK) (X:Nat) (F:Nat→Int) (M:Int):Prop where
 len:rs.length=n
 cj:fA q n rs M F
 bF:∀i,(F i).natAbs≤X
 bM:M.natAbs≤X
 dvd:∀p∈rs,p.2∣M
 back:∀D f,fA q n ps D f→Mo q n (cv f F) (dl (D*M))
 inv:∀D f,fA q n ps D f→Inv q n f
def Kj(C:Addr):Sp:=fun vs H Q _=>∃(z a:Addr) (q:Int) (n W:Nat) (ps:aK),vs=[.ref z,.ref a]∧dg C H z q∧ax q∧aE (10 ^ 290) H q a ps∧ji q n W ps∧(∀H',ai H H'→(∀D f,fA q n ps D f→¬Inv q n f)→Q .aV H') ∧
 ∀(c:Addr) (rs:aK) (F:Nat→Int) (M:Int) (H':Hp),ai H H'→H c=none→aE B2 H' q c rs→jR q n ps rs (Zt q n W 1*W) F M→Q (.ref c) H'
def SM(C:Addr):Sp:=fun vs H Q _=>∃(z a b:Addr) (q S:Int) (n W X:Nat) (ps ss:aK) (s:Nat→Int),vs=[.ref z,.ref a,.ref b]∧dg C H z q∧ax q∧aE (10 ^ 290) H q a ps∧aE (10 ^ 290) H q b ss∧ji q n W ps∧ss.length=n∧RowW q ss S s X X n∧1000≤X∧X≤10 ^ 25 ∧
 ∀(p:Addr) (tg:Str) (xs:List V) (H':Hp),ai H H'→H' p=some (.tup (.str tg::xs))→((tg=Str.ofString "loose"∧∀D f,fA q n ps D f→¬Inv q n f)∨(tg=Str.ofString "one"∧∀D f,fA q n ps D f→Inv q n f))→Q (.ref p) H'
variable {ps:aK} {D D':Int} {f':Nat→Int}
theorem Ak(hq:ax q)(cp:∀p∈ps,Canon q p)(ok:aY q D)(wD:∀i,aS q (ps.getD i o1) (f i,D))(Ep:aY q D')(Er:∀i,aS q (ps.getD i o1) (f' i,D'))(h:Inv q n f):Inv q n f':=by refine Inv.cg hq (a:=D') (b:=D) (Ep.nz hq) (ok.nz hq) (fun t=>?_) h;obtain ⟨x,e⟩:=(wD t).symm.trans (Er t) (dP hq cp t).bot;exact ⟨x,by dsimp only at e;rw [←e];grind⟩
variable {M:Int} {F:Nat→Int}
theorem SN(hq:ax q)(cp:∀p∈ps,Canon q p)(ok:aY q D)(wD:∀i,aS q (ps.getD i o1) (f i,D))(Er:∀i,aS q (ps.getD i o1) (f' i,D'))(h:Mo q n (cv f F) (dl (D*M))):Mo q n (cv f' F) (dl (D'*M)):=by
 refine Mo.cancel hq (ok.nz hq) ?_;refine Mo.trans hq (Mo.lW hq fun t=>?_) ((h.mul D').trans hq (Mo.lW hq fun t=>Cg.of_eq ?_))
 ·show Cg q (D*cv f' F t) (D'*cv f F t)
  rw [←gS,←gS];refine jO (fun i=>?_) fun _=>Cg.refl _;obtain ⟨x,e⟩:=(Er i).symm.trans (wD i) (dP hq cp i).bot;exact ⟨x,by dsimp only at e;rw [←e];grind⟩
 ·unfold dl
  split
  ·grind
  ·rw [cJ,cJ]
variable {X Y:Nat}
theorem RowW.cj(h:RowW q ps D f X Y n):fA q n ps D f:=⟨h.ok,h.w,h.out⟩
theorem ji.Kk(hq:ax q)(h:ji q n W ps)(r:RowW q ps D f W W n):J9 q ps (df q n) D 1 f (tp n) W 1 (Zt q n W):=by
 have n1:=h.sz.t.n1;have dy:=h.sz.t.dy;have hW:=h.sz.t.w;have big:=h.sz.big;have z1:=jQ h.sz.t 1;have zw:W≤Zt q n W 1*W:=fX _ (by lia)
 have lt:=nU (q:=q) n1;have lp:=h.len;have cl:=jd ps;have lY:10 ^ 220≤10 ^ 290:=dr (by decide) (by decide)
 refine ⟨by lia,by lia,r.ok,aY.one,r.dvd,fun p hp=>by rw [Eo hp];exact iW 1,r.w,xE hq n1,r.bf,fun i=>ae (Aj n i) (by lia),fun _ i=>?_,hW,r.bD,by show 1≤W;lia,by lia,by rw [jh hq n1,lt];lia,fun ts us lt' Es bt bu SO=>?_,ae big lY,by lia,ae zw (ae big lY)⟩
 ·unfold tp
  by_cases z:i=0;·rw [ar z,ao (by lia)];decide
  ·rw [ao z];split <;> decide
 ·rw [jh hq n1,lt] at Es
  exact Sx hq h.sz.t (by lia) Es bt (fun z x hx=>by have:=bt x hx;have:=h.sz.wq z;lia) (fun z x hx=>by have:=bu x hx;have:=h.sz.wq z;lia) SO
section
variable {q ld b1 b2:Int} {n:Nat} {ps gs us vs:aK} {ts ws r u v:List Int}
theorem ft.tw(hq:ax q)(n1:1≤n)(C:ft q ps (df q n) gs us vs ts ws r u v b1 b2 ld)(t:Nat):Cg q (ag ws t) (b2*tp n t):=by
 have c:Canon q ((df q n).getD t o1):=by
  rw [En n1]
  split
  ·exact (nS q _ hq).1
  ·split
   ·exact (nS q _ hq).1
   ·exact JG hq
 obtain ⟨x,e⟩:=(C.p2 t).symm.trans (xE hq n1 t) c.bot;exact ⟨x,by dsimp only at e;rw [←e];grind⟩
theorem ft.no(hq:ax q)(n1:1≤n)(C:ft q ps (df q n) gs us vs ts ws r u v b1 b2 ld)(l2:2≤r.length):¬Inv q n (ag ts):=by
 rintro ⟨G,E,N,lG,nE,m⟩;have d2:cF q (ag r) (tp n):=by obtain ⟨c,w,M,nc,lw,e⟩:=C.d2;refine ⟨c*b2,w,M,dY hq nc (C.k2.nz hq),lw,fun t=>Cg.trans ?_ (e t)⟩;rw [ir];exact ((C.tw hq n1 t).symm).mulL c
 exact SD hq l2 C.tr C.d1 d2 lG nE m
theorem ft.mo(hq:ax q)(n1:1≤n)(C:ft q ps (df q n) gs us vs ts ws r u v b1 b2 ld)(l1:r.length=1):Mo q n (cv (ag ts) (ag u)) (dl ld):=by
 have lead:=C.lead (by intro e;rw [e] at l1;cases l1)
 rw [l1,k8] at lead;refine ⟨1,fun i=>-1*(b2*ag v i),v.length,jf hq,fun i hi=>by show -1*(b2*ag v i)=0;rw [da hi];simp,fun t=>?_⟩
 rw [k_,k_,gS,gS,←nK];have a:=C.bz t;have b:Cg q (cv (ag v) (ag ws) t) (cv (ag v) (fun i=>b2*tp n i) t):=jO (fun _=>Cg.refl _) (C.tw hq n1);have e:ag r t=dl ld t:=by
  unfold dl;by_cases z:t=0;·rw [ar z,z,lead]
  ·rw [ao z,da (by lia)]
 rw [e] at a;rw [z8 (ag ts)];have c:=a.sub b;rw [Int.add_sub_cancel] at c;exact c.trans (Cg.of_eq (by lia))
theorem ft.inv(hq:ax q)(n1:1≤n)(C:ft q ps (df q n) gs us vs ts ws r u v b1 b2 ld)(l1:r.length=1):Inv q n (ag ts):=⟨ag u,ld,u.length,fun i hi=>da hi,C.nl,C.mo hq n1 l1⟩
theorem ft.nn(hq:ax q)(n1:1≤n)(C:ft q ps (df q n) gs us vs ts ws r u v b1 b2 ld):1≤r.length:=by rw [←C.lg];refine iY.mpr fun e=>?_;have z:=(C.nil e).2.1;rw [jh hq n1] at z;have l:=nU (q:=q) n1;rw [z] at l;exact absurd l (by simp)
variable {xs:aK}
theorem Al(hq:ax q)(q0:q≠0)(cx:∀p∈xs,Canon q p)(lx:xs.length≤n)(hX:1000≤X):RowW q xs 1 (fun i=>(xs.getD i o1).1) X X n:=by
 have Kl:=fun i=>(dP hq cx i).2 q0;refine ⟨aY.one,fun p hp=>?_,fun i=>?_,fun i=>?_,by show 1≤X;lia,fun i hi=>by rw [dw (by lia)];rfl⟩
 ·rw [((cx p hp).2 q0).1]
  exact iW 1
 ·have e:=(Kl i).1
  exact ⟨0,by dsimp only;rw [e];simp⟩
 ·have e:=(Kl i).2
  have q3:q≤997:=by rcases hq with h | h <;> lia
  lia
theorem ft.row(hq:ax q)(n1:1≤n)(C:ft q ps (df q n) gs us vs ts ws r u v b1 b2 ld)(l1:r.length=1)(cu:∀p∈us,Canon q p)(lu:u.length≤n){Z:Nat}(hZ:1000≤Z)(hW:1000≤W)(bu:∀x∈u,x.natAbs≤Z)(bl:ld.natAbs≤Z)(bb:b1.natAbs≤W):∃(F:Nat→Int) (M:Int),RowW q us M F (Z*W) (Z*W) n∧Mo q n (cv (ag ts) F) (dl (b1*M)):=by
 have m:=C.mo hq n1 l1;have Es:=C.lu;have SQ:1000≤Z*W:=ae hZ (fW _ (by lia))
 have key:∀(F:Nat→Int) (M:Int),(∀k,Cg q (ld*F k) (M*b1*ag u k))→Mo q n (cv (ag ts) F) (dl (b1*M)):=fun F M h=>by
  refine Mo.cancel hq C.nl ?_;refine Mo.trans hq (Mo.lW hq fun t=>?_) ((m.mul (M*b1)).trans hq (Mo.lW hq fun t=>Cg.of_eq ?_))
  ·show Cg q (ld*cv (ag ts) F t) (M*b1*cv (ag ts) (ag u) t)
   rw [←nK,←nK];exact jO (fun _=>Cg.refl _) h
  ·show M*b1*dl ld t=ld*dl (b1*M) t
   unfold dl
   split
   ·grind
   ·rw [cJ,cJ]
 by_cases z:q=0
 ·have hu:=C.hu
  have nl:=C.nl;have hb:=C.k1;subst z;have tO:ld≠0:=fun e=>nl (e▸iW 0);obtain ⟨s,M,hs,eM,hM⟩:∃s M:Int,(s=1∨s=-1)∧M=s*ld∧1≤M:=by
   by_cases h:0<ld;·exact ⟨1,ld,.inl rfl,by lia,by lia⟩
   ·exact ⟨-1,-ld,.inr rfl,by lia,by lia⟩
  have ab:∀x:Int,(s*x).natAbs=x.natAbs:=fun x=>by rw [a8];rcases hs with rfl | rfl <;> simp
  have jS:aY 0 M:=⟨fun _=>hM,fun h=>absurd rfl h⟩;have wM:∀i,aS 0 (us.getD i o1) (s*(ag u i*b1),M):=fun i=>by
   by_cases hi:i<us.length
   ·obtain ⟨x,e⟩:=hu i hi
    refine ⟨s*x,?_⟩;dsimp only at e ⊢;rw [jt] at e ⊢;rw [eM];generalize us.getD i o1=p at e ⊢;have:p.1*ld=ag u i*b1*p.2:=oJ.mp e;rw [show p.1*(s*ld)=s*(p.1*ld) by grind,this]
    grind
   ·rw [dw (by lia),da (by lia)]
    exact ⟨0,by simp [o1]⟩
  refine ⟨fun k=>s*(ag u k*b1),M,⟨jS,fun p hp=>?_,wM,fun i=>?_,?_,fun i hi=>by rw [da (by lia)];simp⟩,key _ _ fun k=>Cg.of_eq (by rw [eM];grind)⟩
  ·obtain ⟨i,hi,rfl⟩:=iu hp
   have w:=wM i;rw [getD_at hi] at w;rw [kI hq (cu _ hp) (gR hq jS) (w.trans (gx jS).symm jS)];exact zQ jS
  ·rw [ab,a8]
   exact bH (nQ bu i) bb
  ·rw [eM,ab]
   exact ae bl (fW _ (by lia))
 ·refine ⟨_,1,Al hq z cu (by lia) SQ,key _ _ fun k=>?_⟩
  have SR:=fun i=>(dP hq cu i).2 z;by_cases hk:k<us.length
  ·obtain ⟨x,e⟩:=C.hu k hk
   have e2:=(SR k).1;dsimp only at e ⊢;rw [e2,fU] at e;exact ⟨x,by rw [←e];grind⟩
  ·show Cg q (ld*(us.getD k o1).1) _
   rw [dw (by lia),da (by lia),cJ]
   exact Cg.of_eq (by show ld*0=0;exact cJ _)
theorem SU{i:Nat}:(jc xs m).getD i o1=xs.getD i o1:=by
 unfold jc;by_cases h:i<xs.length;·rw [fD,ip h,fD]
 ·rw [dw (xs:=xs) (by lia),fD,g8 (by lia),k6]
  split <;> rfl
theorem ft.SV(hq:ax q)(n1:1≤n)(C:ft q ps (df q n) gs us vs ts ws r u v b1 b2 ld)(l1:r.length=1)(cp:∀p∈ps,Canon q p)(lu:us.length≤n)(R:RowW q us M F X X n)(m:Mo q n (cv (ag ts) F) (dl (b1*M))):jR q n ps (jc us n) X F M:=
 ⟨by unfold jc;simp;lia,⟨R.ok,fun i=>by rw [SU];exact R.w i,R.out⟩,R.bf,R.bD,fun p hp=>by
  unfold jc at hp;rcases ik.mp hp with h | h;·exact R.dvd p h
  ·rw [(yR.mp h).2];exact Int.one_dvd M,fun D f w=>SN hq cp C.k1 C.p1 w.w m,fun D f w=>Ak hq cp C.k1 C.p1 w.ok w.w (C.inv hq n1 l1)⟩
end
variable {ld b1 b2:Int} {gs us:aK} {ws r v:List Int}
theorem ft.SW{vs:aK}{u:List Int}(hq:ax q)(C:ft q ps (df q n) gs us vs ts ws r u v b1 b2 ld)(cg:∀p∈gs,Canon q p){U:Nat}(hU:1000≤U)(br:∀x∈r,x.natAbs≤U)(bl:ld.natAbs≤U):∃(M:Int) (G:Nat→Int),RowW q gs M G U U gs.length:=by
 have lg:=C.lg;by_cases z:q=0
 ·have hg:=C.hg
  have nl:=C.nl;subst z;have tO:ld≠0:=fun e=>nl (e▸iW 0);obtain ⟨s,M,hs,eM,hM⟩:∃s M:Int,(s=1∨s=-1)∧M=s*ld∧1≤M:=by
   by_cases h:0<ld;·exact ⟨1,ld,.inl rfl,by lia,by lia⟩
   ·exact ⟨-1,-ld,.inr rfl,by lia,by lia⟩
  have ab:∀x:Int,(s*x).natAbs=x.natAbs:=fun x=>by rw [a8];rcases hs with rfl | rfl <;> simp
  have jS:aY 0 M:=⟨fun _=>hM,fun h=>absurd rfl h⟩;have wM:∀i,aS 0 (gs.getD i o1) (s*ag r i,M):=fun i=>by
   by_cases hi:i<gs.length
   ·obtain ⟨x,e⟩:=hg i hi
    refine ⟨s*x,?_⟩;dsimp only at e ⊢;rw [jt] at e ⊢;rw [eM];generalize gs.getD i o1=p at e ⊢;have:p.1*ld=ag r i*1*p.2:=oJ.mp e;rw [show p.1*(s*ld)=s*(p.1*ld) by grind,this]
    grind
   ·rw [dw (by lia),da (by lia)]
    exact ⟨0,by simp [o1]⟩
  refine ⟨M,fun k=>s*ag r k,jS,fun p hp=>?_,wM,fun i=>by rw [ab];exact nQ br i,by rw [eM,ab];exact bl,fun i hi=>by rw [da (by lia)];simp⟩
  obtain ⟨i,hi,rfl⟩:=iu hp;have w:=wM i;rw [getD_at hi] at w;rw [kI hq (cg _ hp) (gR hq jS) (w.trans (gx jS).symm jS)];exact zQ jS
 ·exact ⟨1,_,Al hq z cg (aJ _) hU⟩
theorem ft.SX{vs:aK}{u:List Int}(hq:ax q)(s:nV q n W)(C:ft q ps (df q n) gs us vs ts ws r u v b1 b2 ld)(cg:∀p∈gs,Canon q p)(cut:aN gs=gs)(l2:2≤r.length)(SY:gs.length≤50)(br:∀x∈r,x.natAbs≤Zt q n W r.length):∃(M:Int) (G:Nat→Int),Em q (df q n) gs 1 M (tp n) G 1000 (Zt q n W 2) n:=by
 have n1:=s.t.n1;have dy:=s.t.dy;have lt:=nU (q:=q) n1;have lg:=C.lg;have Km:∀x∈r,x.natAbs≤Zt q n W 2:=fun x hx=>ae (br x hx) (Ef s.t _ _ l2);have u1:=jQ s.t 2;have hW:=s.t.w;have bl:ld.natAbs≤Zt q n W 2:=by
  rw [C.lead (by intro e;rw [e] at l2;exact absurd l2 (by decide))]
  exact nQ Km _
 obtain ⟨M,G,R⟩:=C.SW hq cg u1 Km bl;have lY:10 ^ 220≤10 ^ 290:=dr (by decide) (by decide)
 have S0:=Ef s.t 1 2 (by decide)
 have lo:=s.loose;have one:(1:Int).natAbs=1:=rfl;refine ⟨M,G,by lia,SY,aY.one,R.ok,fun p hp=>by rw [Eo hp];exact iW 1,R.dvd,xE hq n1,R.w,fun i=>ae (Aj n i) (by decide),R.bf,by decide,u1,R.bD,?_,ae S0 (ae (ae (fW _ (by lia)) s.big) lY),?_,?_,?_,?_⟩
 ·rw [one];exact ka (by decide)
 ·rw [cut]
  exact iY.mp (by lia)
 ·rw [jh hq n1,lt,cut]
  lia
 ·exact ae (fW _ (by decide)) lo
 ·rw [one,Nat.mul_one]
  exact ae (fW _ (by decide)) lo
variable {ss:aK} {s:Nat→Int}
theorem S2{S:Int}(hq:ax q)(n1:1≤n)(dy:n≤40)(R:RowW q us M F X X n)(R2:RowW q ss S s Y Y n)(lu:us.length≤n)(ls:ss.length≤n)(x1:1≤X)(bX:X≤10 ^ 220)(bY:Y≤10 ^ 25):Em q (aN (cZ q us.length ss.length F s (M*S) (us.length+ss.length-1))) (df q n) (M*S) 1 (bK us.length ss.length F s) (tp n) (10 ^ 280) 1000 (2*n):=by
 have lt:=nU (q:=q) n1;have ok:=R.ok.mul R2.ok;have cP:=D4 (n:=us.length) (m:=ss.length) (N:=us.length+ss.length-1) (f:=F) (g:=s) hq ok;have lP:(cZ q us.length ss.length F s (M*S) (us.length+ss.length-1)).length=us.length+ss.length-1:=by simp [cZ]
 have c1:=jd (cZ q us.length ss.length F s (M*S) (us.length+ss.length-1));have c2:=jd (aN (cZ q us.length ss.length F s (M*S) (us.length+ss.length-1)));have Kn:X*Y≤10 ^ 245:=ae (bH bX bY) (by decide +kernel)
 have bD:(M*S).natAbs≤10 ^ 245:=by rw [a8];exact ae (bH R.bD R2.bD) Kn
 have pw:2000 ^ (2*n)≤2000 ^ 80:=dr (by decide) (by lia)
 refine ⟨by lia,by lia,ok,aY.one,fun p hp=>?_,fun p hp=>by rw [Eo hp];exact iW 1,fun i=>?_,xE hq n1,fun i=>?_,fun i=>ae (Aj n i) (by decide),by decide +kernel,by decide,by decide,ae bD (dr (by decide) (by decide)),by decide +kernel,?_,?_,?_,?_⟩
 ·have hp:=xq hp
  unfold cZ at hp;obtain ⟨k,_,rfl⟩:=fE.mp hp;exact zQ ok
 ·rw [DZ hq cP]
  exact D7 ok i
 ·refine ae (DO (M:=10 ^ 245) fun i j _ _=>?_) (ae (bH (show us.length≤50 by lia) (gi (10 ^ 245) (show ss.length≤50 by lia))) (by decide +kernel))
  rw [a8];exact ae (bH (R.bf i) (R2.bf j)) Kn
 ·rw [jh hq n1]
  exact iY.mp (by lia)
 ·rw [jh hq n1,lt]
  lia
 ·exact ae (d4 _ pw) (by decide +kernel)
 ·exact ae (bH (d4 _ pw) bD) (by decide +kernel)
def fc(q:Int)(n:Nat)(h:Nat→Int)(D:Int):List (Int×Int):=(List.range n).map fun t=>cz q (wr n h t) D
def fQ(n k:Nat)(h:Nat→Int)(x:Nat):Int:=(if x<k then h x else 0)+if x+n<k then h (x+n) else 0
theorem S3(n:Nat)(h:Nat→Int)(x:Nat):fQ n 0 h x=0:=by
 unfold fQ;rw [ao (by lia),ao (by lia)]
 rfl
variable {k x:Nat} {h:Nat→Int}
theorem S4(hk:k<2*n)(hx:x<n)(e:k % n=x):fQ n (k+1) h x=fQ n k h x+h k:=by
 unfold fQ;by_cases z:k<n
 ·rw [yS z] at e
  subst e;rw [ar (by lia),ao (by lia),ao (by lia),ao (by lia)]
  lia
 ·rw [Nat.mod_eq_sub_mod (by lia),yS (by lia)] at e
  subst e;rw [ar (by lia),ar (by lia),ar (by lia),ao (by lia),show k-n+n=k by lia]
  lia
theorem S5(hk:k<2*n)(hx:x<n)(e:k % n≠x):fQ n (k+1) h x=fQ n k h x:=by
 unfold fQ;by_cases z:k<n
 ·rw [yS z] at e
  rw [ao (show ¬x+n<k+1 by lia),ao (show ¬x+n<k by lia)]
  by_cases y:x<k;·rw [ar y,ar (by lia)]
  ·rw [ao y,ao (by lia)]
 ·rw [Nat.mod_eq_sub_mod (by lia),yS (by lia)] at e
  rw [ar (show x<k+1 by lia),ar (show x<k by lia)]
  by_cases y:x+n<k;·rw [ar y,ar (by lia)]
  ·rw [ao y,ao (by lia)]
variable {B:Nat}
theorem S6(b:∀i,(h i).natAbs≤B):(fQ n k h x).natAbs≤2*B:=by
 have b1:=b x;have b2:=b (x+n);unfold fQ
 split <;> split <;> lia
theorem S7(b:∀i,(h i).natAbs≤B):(wr n h x).natAbs≤2*B:=by
 have b1:=b x;have b2:=b (x+n);unfold wr
 split <;> lia
theorem S8(hx:x<n)(z:∀i,k≤i→q∣h i):Cg q (fQ n k h x) (wr n h x):=by
 unfold fQ wr;rw [ar hx];have a:Cg q (if x<k then h x else 0) (h x):=by
  split
  ·exact Cg.refl _
  ·obtain ⟨c,e⟩:=z x (by lia)
   exact ⟨-c,by rw [e,gF];lia⟩
 have b:Cg q (if x+n<k then h (x+n) else 0) (h (x+n)):=by
  split
  ·exact Cg.refl _
  ·obtain ⟨c,e⟩:=z (x+n) (by lia)
   exact ⟨-c,by rw [e,gF];lia⟩
 exact a.add b
def Et:Sp:=fun vs H Q _=>∃(td a:Addr) (q D:Int) (n:Nat) (ps:aK) (h:Nat→Int),vs=[.ref td,.int (n:Int),.ref a]∧dE H td q∧ax q∧aE B2 H q a ps∧1≤n∧n≤40∧ps.length≤2*n∧aY q D∧D.natAbs≤B2∧(∀i,aS q (ps.getD i o1) (h i,D))∧(∀i,(h i).natAbs≤10 ^ 280) ∧
 ∀(c:Addr) (H':Hp),ai H H'→H c=none→aE B2 H' q c (fc q n h D)→Q (.ref c) H'
theorem tP(q:Int)(n:Nat)(h:Nat→Int)(D:Int):(fc q n h D).length=n:=by simp [fc]
theorem Ko{i:Nat}(hi:i<n):(fc q n h D).getD i o1=cz q (wr n h i) D:=zX hi
theorem Eu(ok:aY q D)(bX:∀i,(h i).natAbs≤X)(bD:D.natAbs≤Y):RowW q (fc q n h D) D (wr n h) (2*X) Y n:=by
 refine ⟨ok,fun p hp=>?_,fun i=>?_,fun i=>S7 bX,bD,xC n h⟩
 ·unfold fc at hp
  obtain ⟨k,_,rfl⟩:=fE.mp hp;exact zQ ok
 ·by_cases hi:i<n
  ·rw [Ko hi]
   exact gx ok
  ·rw [dw (by rw [tP];lia),xC n h i (by lia)]
   exact zW
theorem S9{h':Nat→Int}(hq:ax q)(ok:aY q D)(Ep:aY q D')(e:∀t,t<n→Cg q (D'*wr n h t) (D*wr n h' t)):fc q n h D=fc q n h' D':=by unfold fc;refine List.map_congr_left fun t ht=>Jt hq ok Ep ?_;obtain ⟨c,x⟩:=e t (vL.mp ht);exact ⟨c,by dsimp only;rw [←x];grind⟩
theorem Kp{S:Int}(hq:ax q)(ok:aY q D)(S_:aY q S)(l:ss.length=n)(cs:∀p∈ss,Canon q p)(w:∀i,aS q (ss.getD i o1) (s i,S))(e:∀t,t<n→Cg q (S*wr n h t) (D*s t)):fc q n h D=ss:=by
 refine List.ext_getElem (by rw [tP,l]) fun i h1 h2=>?_
 have hi:i<n:=by lia
 rw [←getD_at (d:=o1) h1,←getD_at (d:=o1) h2,Ko hi];refine kI hq (gR hq ok) (dP hq cs i) ((gx ok).trans ?_ ok);refine aS.trans ?_ (w i).symm S_;obtain ⟨c,x⟩:=e i hi;exact ⟨c,by dsimp only;rw [←x];grind⟩
def Ta:Sp:=fun vs H Q _=>∃(td a b:Addr) (q D1 D2:Int) (n:Nat) (ps rs:aK) (f g:Nat→Int) (X1 X2 Y1 Y2:Nat),vs=[.ref td,.ref a,.ref b]∧dE H td q∧ax q∧aE B2 H q a ps∧aE B2 H q b rs∧1≤n∧n≤40∧ps.length=n∧rs.length≤n∧RowW q ps D1 f X1 Y1 n∧RowW q rs D2 g X2 Y2 n∧X1*X2≤10 ^ 260∧Y1*Y2≤10 ^ 260 ∧
 ∀(c:Addr) (H':Hp),ai H H'→H c=none→aE B2 H' q c (fc q n (cv f g) (D1*D2))→Q (.ref c) H'
def Kq:Sp:=fun vs H Q _=>∃(td:Addr) (q:Int) (n:Nat),vs=[.ref td,.int (n:Int)]∧dE H td q∧ax q∧1≤n∧n≤40∧∀(c:Addr) (H':Hp),ai H H'→H c=none→aE 1000 H' q c (df q n)→Q (.ref c) H'
theorem Am{M:Nat}(hf:dF n f)(h:∀i j,(f i*g j).natAbs≤M)(k:Nat):(cv f g k).natAbs≤n*M:=by
 unfold cv;have e:∀d,aQ (n+d) (fun i=>f i*g (k-i))=aQ n fun i=>f i*g (k-i):=fun d=>by
  induction d with
  | zero=>rfl
  | succ d ih=>rw [show n+(d+1)=n+d+1 by lia,gw,ih,hf _ (by lia),jt,oG]
 by_cases hk:k+1≤n;·exact ae (tH (k+1) _ fun i _=>h _ _) (gi _ hk)
 ·rw [show k+1=n+(k+1-n) by lia,e]
  exact tH n _ fun i _=>h _ _
structure xF (q:Int) (n F W1 W2:Nat):Prop where
 n1:1≤n
 n8:n≤8
 s1:nV q n W1
 s2:nV q n W2
 Ew:dD ([.int (10 ^ 12),.int (10 ^ 12),.int 100,.int 9,.int 9,.int 9]:List V) ((if (6:Int)<(n:Int) then 6 else (n:Int))-1)=some (.int (F:Int))
 f4:9≤F
 pW:F≤10 ^ 20
 b1:q=0→4*(F ^ n+1000)≤W1∧2*(n*(F ^ n+1000))≤W1
 xG:F ^ n+1000≤10 ^ 25
 b2:q=0→2*(n*(W1*W1))≤W2
 n6:q=0→n≤6
 z1:W1*(Zt q n W1 1*W1)≤10 ^ 220
 z2:W2*(Zt q n W2 1*W2)≤10 ^ 220
 z3:(Zt q n W1 1*W1)*(Zt q n W1 1*W1)≤10 ^ 260
theorem jj(w:1000≤W)(n1:1≤n)(dy:n≤40)(l:Kc n W=true)(h:(decide (Zt 0 n W 1*W≤10 ^ 220) && decide (1000*(2*Zt 0 n W 2) ^ n*1000≤10 ^ 570))=true):nV 0 n W:=by rw [yF,rS,rS] at h;exact ⟨⟨w,n1,dy,fun _=>l⟩,fun z=>absurd rfl z,h.1,h.2⟩
theorem Tb(n1:1≤n)(n6:n≤6):∃F W1 W2,xF 0 n F W1 W2:=by
 rcases (show n=1∨n=2∨n=3∨n=4∨n=5∨n=6 by lia) with rfl | rfl | rfl | rfl | rfl | rfl
 ·exact ⟨10 ^ 12,10 ^ 25,10 ^ 51,by decide,by decide,jj (by decide) (by decide) (by decide) (by decide +kernel) (by decide +kernel),jj (by decide) (by decide) (by decide) (by decide +kernel) (by decide +kernel),rfl,by decide,by decide,fun _=>by decide +kernel,by decide +kernel,fun _=>by decide +kernel,fun _=>by decide,by decide +kernel,by decide +kernel,by decide +kernel⟩
 ·exact ⟨10 ^ 12,10 ^ 25,10 ^ 51,by decide,by decide,jj (by decide) (by decide) (by decide) (by decide +kernel) (by decide +kernel),jj (by decide) (by decide) (by decide) (by decide +kernel) (by decide +kernel),rfl,by decide,by decide,fun _=>by decide +kernel,by decide +kernel,fun _=>by decide +kernel,fun _=>by decide,by decide +kernel,by decide +kernel,by decide +kernel⟩
 ·exact ⟨100,10 ^ 7,10 ^ 16,by decide,by decide,jj (by decide) (by decide) (by decide) (by decide +kernel) (by decide +kernel),jj (by decide) (by decide) (by decide) (by decide +kernel) (by decide +kernel),rfl,by decide,by decide,fun _=>by decide +kernel,by decide +kernel,fun _=>by decide +kernel,fun _=>by decide,by decide +kernel,by decide +kernel,by decide +kernel⟩
 ·exact ⟨9,10 ^ 7,10 ^ 16,by decide,by decide,jj (by decide) (by decide) (by decide) (by decide +kernel) (by decide +kernel),jj (by decide) (by decide) (by decide) (by decide +kernel) (by decide +kernel),rfl,by decide,by decide,fun _=>by decide +kernel,by decide +kernel,fun _=>by decide +kernel,fun _=>by decide,by decide +kernel,by decide +kernel,by decide +kernel⟩
 ·exact ⟨9,10 ^ 7,10 ^ 16,by decide,by decide,jj (by decide) (by decide) (by decide) (by decide +kernel) (by decide +kernel),jj (by decide) (by decide) (by decide) (by decide +kernel) (by decide +kernel),rfl,by decide,by decide,fun _=>by decide +kernel,by decide +kernel,fun _=>by decide +kernel,fun _=>by decide,by decide +kernel,by decide +kernel,by decide +kernel⟩
 ·exact ⟨9,10 ^ 7,10 ^ 16,by decide,by decide,jj (by decide) (by decide) (by decide) (by decide +kernel) (by decide +kernel),jj (by decide) (by decide) (by decide) (by decide +kernel) (by decide +kernel),rfl,by decide,by decide,fun _=>by decide +kernel,by decide +kernel,fun _=>by decide +kernel,fun _=>by decide,by decide +kernel,by decide +kernel,by decide +kernel⟩
theorem Tc(z:q≠0)(n1:1≤n)(dy:n≤40):nV q n 1000:=by
 have e:∀j,Zt q n 1000 j=1000:=fun j=>by unfold Zt;rw [ao z]
 refine ⟨⟨by decide,n1,dy,fun h=>absurd h z⟩,fun _=>rfl,by rw [e];decide +kernel,?_⟩
 rw [e];exact ae (gi _ (d4 _ (dr (show 0<2*1000 by decide) dy))) (by decide +kernel)
theorem Te(z:q≠0)(n1:1≤n)(n8:n≤8):∃F W1 W2,xF q n F W1 W2:=by
 have s:=Tc z n1 (show n≤40 by lia)
 have z0:Zt q n 1000 1=1000:=by unfold Zt;rw [ao z]
 have z1:1000*(Zt q n 1000 1*1000)≤10 ^ 220:=by rw [z0];decide +kernel
 have z3:(Zt q n 1000 1*1000)*(Zt q n 1000 1*1000)≤10 ^ 260:=by rw [z0];decide +kernel
 rcases (show n=1∨n=2∨n=3∨n=4∨n=5∨n=6∨n=7∨n=8 by lia) with rfl | rfl | rfl | rfl | rfl | rfl | rfl | rfl
 ·exact ⟨10 ^ 12,1000,1000,by decide,by decide,s,s,rfl,by decide,by decide,fun h=>absurd h z,by decide +kernel,fun h=>absurd h z,fun h=>absurd h z,z1,z1,z3⟩
 ·exact ⟨10 ^ 12,1000,1000,by decide,by decide,s,s,rfl,by decide,by decide,fun h=>absurd h z,by decide +kernel,fun h=>absurd h z,fun h=>absurd h z,z1,z1,z3⟩
 ·exact ⟨100,1000,1000,by decide,by decide,s,s,rfl,by decide,by decide,fun h=>absurd h z,by decide +kernel,fun h=>absurd h z,fun h=>absurd h z,z1,z1,z3⟩
 all_goals exact ⟨9,1000,1000,by decide,by decide,s,s,rfl,by decide,by decide,fun h=>absurd h z,by decide +kernel,fun h=>absurd h z,fun h=>absurd h z,z1,z1,z3⟩
theorem Tf(hq:ax q)(z:q≠0)(s:nV q n W)(l:ps.length=n)(c:∀p∈ps,Canon q p):ji q n W ps:=⟨s,l,1,_,Al hq z c (by lia) s.t.w⟩
variable {H:Hp}
theorem aE.bS{a:Addr}(h:aE B H 0 a ps):∀p∈ps,p.1.natAbs≤B∧p.2.natAbs≤B∧aY 0 p.2:=fun p hp=>by
 obtain ⟨vs,e,l,k⟩:=h;obtain ⟨i,hi,rfl⟩:=iu hp;have hv:i<vs.length:=by lia
 have z:=k i vs[i] ps[i] (by simp [hv]) (by simp [hi])
 have c:=z.canon.bot;generalize ps[i]=p at z c;generalize vs[i]=v at z;obtain ⟨x,m⟩:=p;cases z with
 | bS e l bx bm=>exact ⟨bx,bm,c⟩
 | rem h0 h1 h2=>lia
theorem Ex{F:Nat}{a:Addr}(hq:ax q)(h:aE F H q a ps)(l:ps.length=n)(F1:1≤F)(n1:1≤n)(bX:q=0→F ^ n≤X)(x1:1000≤X):∃(D:Int) (f:Nat→Int),RowW q ps D f X X n:=by
 by_cases z:q=0
 ·subst z
  have bX:=bX rfl;have fr:=h.bS;have hc:=h.dJ;obtain ⟨D,ok,dv,bD,bd⟩:=JH (q:=0) F1 ps fun p hp=>⟨(fr p hp).2.2,(fr p hp).2.1⟩;have gd:∀i,ps.getD i o1∈ps∨ps.getD i o1=o1:=fun i=>by
   by_cases hi:i<ps.length;·rw [getD_at hi];exact .inl (gD _)
   ·exact .inr (dw (by lia))
  have Kr:∀i,(ps.getD i o1).2∣D:=fun i=>by
   rcases gd i with h | h;·exact dv _ h
   ·rw [h];exact Int.one_dvd D
  refine ⟨D,fun i=>(ps.getD i o1).1*(D / (ps.getD i o1).2),ok,dv,fun i=>⟨0,?_⟩,fun i=>?_,by rw [l] at bD;exact ae bD bX,fun i hi=>by rw [dw (by lia)];simp [o1]⟩
  ·obtain ⟨k,e⟩:=Kr i
   have nz:(ps.getD i o1).2≠0:=fun z=>(dP hq hc i).bot.nz hq (by rw [z];exact dB 0)
   dsimp only;have e2:D / (ps.getD i o1).2=k:=by rw [e,mF _ nz]
   rw [e2,cJ,e];grind
  ·rcases gd i with h | h
   ·obtain ⟨k,e⟩:=Kr i
    have nz:(ps.getD i o1).2≠0:=fun z=>(dP hq hc i).bot.nz hq (by rw [z];exact dB 0)
    have e2:D / (ps.getD i o1).2=k:=by rw [e,mF _ nz]
    have z:=bd _ h;rw [e2,a8];rw [e,a8] at z;have z2:=Nat.le_of_mul_le_mul_left z (gE.mpr nz);refine ae (bH (fr _ h).1 z2) ?_;rw [←Nat.pow_succ',l,Nat.succ_eq_add_one,Nat.sub_add_cancel n1];exact bX
   ·rw [h]
    show ((0:Int)*_).natAbs≤_;rw [jt];exact b9 _
 ·exact ⟨1,_,Al hq z h.dJ (by lia) x1⟩
def Tg(K:aF):Sp:=fun vs H Q _=>∃(P a td:Addr) (ns:List Int) (q:Int) (n F W1 W2:Nat),vs=[.ref P,.ref td,.int (n:Int)]∧cS H P a∧bo K (er P H) a (ns.map V.int)∧dE (er P H) td q∧ax q∧xF q n F W1 W2 ∧
 ∀(r:Addr) (ps:aK) (H':Hp),aL P H H'→cS H' P a→aE B2 (er P H') q r ps→ji q n W1 ps→Q (.ref r) H'
theorem Ey{x:Int}(h:aS q o1 (x,D)):q∣x:=by obtain ⟨k,e⟩:=h;have e:(0:Int)*D-x*1=q*k:=e;exact ⟨-k,by rw [gF];lia⟩
theorem Ks(hf:∀i,n≤i→f i=0)(hg:∀i,m≤i→q∣g i)(k:Nat):Cg q (bK n m f g k) (cv f g k):=by
 have e:bK n m f g k=bK n m f (fun j=>if j<m then g j else 0) k:=by unfold bK;refine cY fun i _=>?_;unfold cK;refine cY fun j hj=>?_;dsimp only;rw [ar hj]
 rw [e,z9 hf (fun i hi=>ao (by lia))]
 refine jO (fun _=>Cg.refl _) fun i=>?_
 split
 ·exact Cg.refl _
 ·obtain ⟨c,e⟩:=hg i (by lia)
  exact ⟨-c,by rw [e,gF];lia⟩
theorem Kt{x y:Int}(h:Cg q x y):aS q (x,D) (y,D):=by obtain ⟨c,e⟩:=h;exact ⟨c*D,by dsimp only;rw [←Int.sub_mul,e,ir]⟩
theorem An(hq:ax q)(s:nV q n W)(l:ps.length=n)(c:∀p∈ps,Canon q p)(h:q=0→∃(D:Int) (f:Nat→Int),RowW q ps D f W W n):ji q n W ps:=by
 by_cases z:q=0;·exact ⟨s,l,h z⟩
 ·exact Tf hq z s l c
def iK(P:Addr)(H:Hp)(q:Int)(n W:Nat)(a:Addr):Prop:=∃ps,aE B2 (My.er P H) q a ps∧ji q n W ps
variable {P:Addr} {H':Hp}
theorem iK.mono{a:Addr}(h:iK P H q n W a)(s:aL P H H'):iK P H' q n W a:=by obtain ⟨ps,h1,h2⟩:=h;exact ⟨ps,aE.mono h1 s,h2⟩
theorem aE.er{c a:Addr}(h:aE B H q c ps)(p:cS H P a)(n:c≠P):aE B (My.er P H) q c ps:=by obtain ⟨vs,e,l,f⟩:=h;exact ⟨vs,lR n e,l,fun i v x h1 h2=>(f i v x h1 h2).er (H':=H) p⟩
theorem iK.drawn{F W1 W2:Nat}{D:Addr}{ys:List V}(hq:ax q)(sz:xF q n F W1 W2)(nD:D≠P)(e:H D=some (.lst ys))(l:ys.length=n)(hP:∀(i:Nat) (y:V),ys[i]?=some y→∃xm:Int×Int,a7 F (My.er P H) q y xm.1 xm.2):iK P H q n W1 D:=by
 obtain ⟨xs,hR,lx⟩:=DK (lR nD e) hP;have pW:=sz.pW;have f4:=sz.f4;have bF:F≤B2:=ae pW (by decide +kernel)
 refine ⟨xs,hR.weak bF,An hq sz.s1 (by lia) hR.dJ fun z=>?_⟩
 have X8:F ^ n+1000≤W1:=ae (fX _ (by decide)) (sz.b1 z).1
 obtain ⟨D',f',R'⟩:=Ex (X:=F ^ n+1000) hq hR (by lia) (by lia) sz.n1 (fun _=>oF ..) (Nat.le_add_left ..)
 exact ⟨D',f',R'.weak X8 X8 (aJ _)⟩
theorem Ku{F:Nat}{i:Int}{v:V}(h:a7 B H q v (cf q i).1 (cf q i).2)(b:i.natAbs≤F)(f1:1≤F):a7 F H q v (cf q i).1 (cf q i).2:=by
 generalize hp:cf q i=p at h ⊢;obtain ⟨x,m⟩:=p;cases h with
 | bS e l bx bm=>unfold cf at hp;rw [ar rfl] at hp;cases hp;exact .bS e l b f1
 | rem h0 h1 h2=>exact .rem h0 h1 h2
theorem Kv(hq:ax q)(n1:1≤n)(lh:dF (n+n) h)(lg:∀t,n≤t→q∣g t)(m:Mo q n h g)(t:Nat):Cg q (wr n h t) (g t):=
 ((xD hq (by rw [oI];exact lh)).trans hq m).uniq hq n1 (fun t ht=>by rw [xC n h t ht];exact dB q) lg t
variable {rs:aK}
theorem jR.unit(hq:ax q)(n1:1≤n)(B:jR q n ps rs X F M)(w:fA q n ps D f):fc q n (cv f F) (D*M)=fc q n (dl 1) 1:=by
 refine S9 hq (w.ok.mul B.cj.ok) aY.one fun t ht=>?_;rw [k_];refine (Kv hq n1 (gU w.low B.cj.low) (fun t ht=>?_) (B.back D f w) t).trans (Cg.of_eq ?_)
 ·rw [xB _ t (by lia)]
  exact dB q
 ·have z:wr n (dl 1) t=dl 1 t:=by unfold wr;rw [ar ht,xB 1 (t+n) (by lia),oG]
  rw [z];unfold dl
  split
  ·rw [fU]
  ·rw [cJ]
theorem jR.El{S:Int}(hq:ax q)(n1:1≤n)(B:jR q n ps rs X F M)(w:fA q n ps D f)(ws:fA q n ss S s)(l:ss.length=n)(cs:∀p∈ss,Canon q p):fc q n (cv F (wr n (cv f s))) (M*(D*S))=ss:=by
 refine Kp hq (B.cj.ok.mul (w.ok.mul ws.ok)) ws.ok l cs ws.w fun t ht=>?_;have m:=Mo.El hq B.cj.low ws.low (B.back D f w) (xD hq (h:=cv f s) (by rw [oI];exact gU w.low ws.low))
 have e:=(Kv hq n1 (gU B.cj.low (xC n _)) (fun t ht=>by rw [ws.low t ht,cJ];exact dB q) m t).mulL S
 exact e.trans (Cg.of_eq (by grind))
variable {D1 D2:Int} {lZ l_:aK} {f1 f2:Nat→Int}
theorem jR.both{M1 M2:Int}{X1 X2:Nat}{Ao Ap:aK}{F1 F2:Nat→Int}(hq:ax q)(n1:1≤n)(B1:jR q n lZ Ao X1 F1 M1)(B2:jR q n l_ Ap X2 F2 M2)(B:jR q n ps rs X F M)(w1:fA q n lZ D1 f1)(w2:fA q n l_ D2 f2)(w:fA q n ps (D1*D2) (wr n (cv f1 f2)))(cr:∀p∈rs,Canon q p):fc q n (cv F1 F2) (M1*M2)=rs:=by
 refine Kp hq (B1.cj.ok.mul B2.cj.ok) B.cj.ok B.len cr B.cj.w fun t ht=>?_;have m:=Mo.SG hq w2.low w.low B1.cj.low B2.cj.low B.cj.low (xD hq (h:=cv f1 f2) (by rw [oI];exact gU w1.low w2.low)) (B1.back _ _ w1) (B2.back _ _ w2) (B.back _ _ w) (w.ok.nz hq)
 have e:=(xD hq (h:=cv F1 F2) (by rw [oI];exact gU B1.cj.low B2.cj.low)).mul M
 have r:=(e.trans hq m.symm).uniq hq n1 (fun t ht=>by rw [xC n _ t ht,cJ];exact dB q) (fun t ht=>by rw [B.cj.low t ht,cJ];exact dB q) t
 exact r
theorem Th{ps:aK}(hq:ax q)(w1:fA q n lZ D1 f1)(w2:fA q n l_ D2 f2):Inv q n (wr n (cv f1 f2))↔Inv q n f1∧Inv q n f2:=
 Inv.both hq w1.low w2.low (xD hq (by rw [oI];exact gU w1.low w2.low))
def Kw(C:Addr):Sp:=fun vs H Q _=>∃(td z a b:Addr) (q S:Int) (m n W X:Nat) (ps ss:aK) (s:Nat→Int),vs=[.ref td,.ref z,.ref a,.ref b,.int (m:Int)]∧dE H td q∧dg C H z q∧ax q∧aE B2 H q a ps∧aE B2 H q b ss∧ji q n W ps∧W*(Zt q n W 1*W)≤10 ^ 220∧ss.length=n∧RowW q ss S s X X n∧1000≤X∧X≤10 ^ 25∧m≤5∧∀H',ai H H'→Q (.bl true) H'
def Aq(H:Hp)(q:Int)(n:Nat)(ps:aK)(X:Nat)(v:V):Prop:=
 (v=.aV∧∀D f,fA q n ps D f→¬Inv q n f)∨∃(c:Addr) (rs:aK) (F:Nat→Int) (M:Int),v=.ref c∧aE B2 H q c rs∧jR q n ps rs X F M
theorem Aq.mono{v:V}(h:Aq H q n ps X v)(s:ai H H'):Aq H' q n ps X v:=by
 rcases h with h | ⟨c,rs,F,M,h1,h2,h3⟩;·exact .inl h
 ·exact .inr ⟨c,rs,F,M,h1,h2.mono s,h3⟩
theorem Ez{C:Addr}{vs:List V}{Q:VK}{E:XK}(h:∃(z a:Addr) (q:Int) (n W:Nat) (ps:aK),vs=[.ref z,.ref a]∧dg C H z q∧ax q∧aE (10 ^ 290) H q a ps∧ji q n W ps∧∀(v:V) (H':Hp),ai H H'→Aq H' q n ps (Zt q n W 1*W) v→Q v H'):Kj C vs H Q E:=by obtain ⟨z,a,q,n,W,ps,h1,h2,h3,h4,h5,k⟩:=h;exact ⟨z,a,q,n,W,ps,h1,h2,h3,h4,h5,fun H' s neg=>k _ H' s (.inl ⟨rfl,neg⟩),fun c rs F M H' s nc hC BD=>k _ H' s (.inr ⟨c,rs,F,M,rfl,hC,BD⟩)⟩
end My
namespace L2
open PySem PySem.Spec PyProof.Rows
section
variable {X:Cx} {N:List Str} {scope:Scope} {cl:List (Str×Addr)} {x y:Str} {px py pos tp:Pos} {jL:Nat} {iter elt:Expr} {ifs:List Expr} {wi:TI} {ρ:St→St} {tt:TT} {te:TE}
theorem Ti{y9:Str}{tQ w6:Pos}{i0:Nat}(B:Dw X N scope cl x y ρ)(hc:X.calm=true)(hN:X.N.Nodup)(lO:X.N[i0]?=some y9)(hy:Loc X.env.scope y9)(hi:PI X (.Tuple [.Name x px,.Name y py] jL tp) iter wi)(ht:∀s₃ H₃ fp,kz (X.aX N scope cl s₃ H₃ fp) ifs tt)(he:∀s₃ H₃ fp,PE (X.aX N scope cl s₃ H₃ fp) elt te)
  (Dt:swapsWith (.ListComp elt [⟨.Tuple [.Name x px,.Name y py] jL tp,iter,ifs,0⟩] scope pos) (some (.Name y9 tQ)) w6.line X.env=pure true:=by rfl) (hf:X.fn y9=true∨X.env.scope.names.lookup y9=some .local:=by first | exact .inl rfl | exact .inr rfl | assumption)
  (hs:∀x,foldedSetIterable iter X.env x=pure x:=by intro _;rfl):PS X (.Assign [.Name y9 tQ] (.ListComp elt [⟨.Tuple [.Name x px,.Name y py] jL tp,iter,ifs,0⟩] scope pos) w6) (lH (tD X.K wi ρ tt te) (bE i0)):=by
 intro pins s σ H D0 I h
 have h:tD X.K wi ρ tt te σ H (fun v H1=>D0.nx (σ.set i0 (some v)) H1):=h
 rw [exec_Assign_Name_used _ _ _ _ Dt]
 refine cC (vO (cC ?_))
 show wpAny _ X.A (do let _ ←comprehension (.ListComp elt [⟨.Tuple [.Name x px,.Name y py] jL tp,iter,ifs,0⟩] scope pos) scope X.env _ (newList []) false (eval iter X.env) (some (assign (.Name y9 tQ) X.env))) _ _ s
 refine cC (cm (Q:=fun _ s'=>SP X pins D0 .next s') ?_ (fun _ s' hq=>d_ (d_ hq)) fun _ _ e=>e)
 refine yH (use:=some (assign (.Name y9 tQ) X.env)) rfl hs B.wW B.kind B.names (aG (hi pins s σ H _ I h) fun v s1 h1=>aG h1 fun sE s2 h2=>?_)
 obtain ⟨it,fp,tn,J,H2,rfl,I2,T,fZ,f2,q2⟩:=h2
 have nD:H2 s2.heap.objs.size=none:=I2.aC.fresh (aJ _)
 obtain ⟨W,⟨m0,w0⟩,turn⟩:=q2 _ nD
 refine vP (yI B.wX (by intro y hy;simp at hy) (fun h₁ fk fm=>?_) B.kind)
 dsimp only at fk fm ⊢
 generalize hD:s2.heap.objs.size=D at nD w0 turn fk fm ⊢
 generalize dO:({s2 with heap:=s2.heap.push {cls:=.type "list",dict:=none,data:=.seq ([]:List Value).toArray}}:Shared)=s3
 have I3:Inv X pins σ (upd H2 D (.lst [])) s3:=by
  subst hD dO
  exact I2.laid (t':=s2.toks) (fun b u e=>dj _ e) (aJ _) ⟨b9 _,[],_,.nil,gC _ rfl⟩
 have e3:s3.heap=s2.heap.push {cls:=.type "list",dict:=none,data:=.seq ([]:List Value).toArray}:=by rw [←dO]
 have fo:∀b o,s2.heap.get? b=some o→s3.heap.get? b=some o:=fun b o e=>by rw [e3];exact dj _ e
 rw [←e3] at fk fm ⊢
 have below:∀b o,s3.heap.get? b=some o→b≠s3.heap.objs.size:=fun b o e=>d9 (bV e)
 have dt:∀b o,s3.heap.get? b=some o→h₁.get? b=some o:=fun b o e=>fm.extBut b o (below b o e) (dj _ e)
 have gN:∀b∈fp,∃o,s2.heap.get? b=some o∧∀v,o.data≠.cell v:=T.obj _ _ fZ
 have pd:∀b∈fp,b≠D:=fun b hb z=>by
  obtain ⟨o,e,_⟩:=gN b hb
  rw [z,←hD] at e
  exact absurd (bV e) (gg _)
 have cU:∀y c,cl.lookup y=some c→X.env.cells.lookup y=some c:=fun y c e=>B.sub (y,c) (j4 e)
 have ph:=I3.so
 have eK:(X.aX N scope cl s3 (upd H2 D (.lst [])) fp).Ok:=by
  refine ⟨I.ok.mod,B.kind,I.ok.glob,I.ok.blt,aJ _,fun a b c e1 e2=>I.ok.inj a b c (cU a c e1) (cU b c e2),fun y hy=>B.has y hy,(fun _ _ z _=>absurd z dk),(fun _=>I.ok.hd hc),I.ok.frames,.inl rfl,fun b hb=>⟨?_,fun y c e z=>?_⟩,fun b o e=>?_,ae I.ok.gK I3.sz,fun b o e hb=>?_,fun b hb z=>?_,I3.stack,ph⟩
  ·obtain ⟨o,e,_⟩:=gN b hb
   exact below b o (fo b o e)
  ·exact (f2 b hb).2.2.2.2.1 y c (cU y c e) z
  ·exact I3.bs b o e
  ·rcases (f2 b hb).2.2.2.1 with z | z
   ·exact I.ok.mP b o e z
   ·exact absurd (dQ (bV e) (ae I.ok.gK z)) (gg _)
  ·rcases dR.mp (I3.si b z) with z | z
   ·exact (f2 b hb).2.1 z
   ·exact (f2 b hb).2.2.1 z
 have IB:∀tk:Nat,Inv (X.aX N scope cl s3 (upd H2 D (.lst [])) fp) [] (none::none::ρ σ) (upd H2 D (.lst [])) {s3 with heap:=h₁,toks:=tk}:=fun tk=>by
  refine ⟨eK,rfl,I3.bare,Un.kept dt,⟨_,fk,fun j y v e1 e2 e3=>?_⟩,fun y c e=>?_,?_,fun y c e=>I3.ix y c (cU y c e),(fun p hp=>nomatch hp),I3.aC.kept dt,?_⟩
  ·cases j with
   | zero=>cases e2
   | succ j=>
   cases j with
   | zero=>cases e2
   | succ j=>
    obtain ⟨i,y',a1,a2,a3,a4,a5,a6⟩:=B.wY σ j v e2
    have f_:N[j+1+1]?=some y:=e1
    rw [f_] at a1
    cases a1
    obtain ⟨m,hn,hl⟩:=I3.loc
    obtain ⟨u,r,l⟩:=hl i y v a2 a3 a4
    refine ⟨u,r,.inr ⟨a6,?_⟩⟩
    obtain ⟨c,ec⟩:=B.has y a6
    rcases l with ⟨k,_⟩ | ⟨_,c',jH,z⟩
    ·rcases a5 with q | q <;> (rw [k] at q;cases q)
    ·have:=cU y c ec
     rw [this] at jH
     cases jH
     obtain ⟨o,ho,hd⟩:=z
     exact ⟨c,ec,o,dt _ _ ho,hd⟩
  ·obtain ⟨v,o,ho,hd⟩:=I3.cell y c (cU y c e)
   exact ⟨v,o,dt _ _ ho,hd⟩
  ·exact I3.aC.fresh (aJ _)
  ·show (none::none::ρ σ).length=N.length
   rw [eQ,eQ]
   exact B.len σ I.len
 have pF:∀b o,s3.heap.get? b=some o→b≠s3.heap.objs.size:=below
 have fin:∀{σ':St} {H':Hp} {s':Shared},Inv (X.aX N scope cl s3 (upd H2 D (.lst [])) fp) [] σ' H' s'→D0.nx (σ.set i0 (some (.ref D))) H'→compPost (model X.prog X.w) X.A X.xe (some (assign (.Name y9 tQ) X.env)) (fun _ s'=>SP X pins D0 .next s') (.ref D) s3.heap.objs.size (.ok .next) s':=fun{σ' H' s'} J q=>by
  obtain ⟨m,hn,_⟩:=J.loc
  have hn:s'.heap.Ns s3.heap.objs.size m:=hn
  have JC:H' s3.heap.objs.size=none:=J.free
  have u1:Un (cD X.stack) fp (upd H2 D (.lst [])) H' s3.heap s'.heap:=by
   refine ⟨fun b o e n hb hx=>J.base.keep b o e n hb hx,fun b o e n hb hx=>J.base.slot b o e n hb hx,J.base.free,fun b o e hx=>J.base.there b o e hx,J.base.gk,J.base.fY,J.base.gq⟩
  have IX:Inv X pins σ H' s':=I3.kg (ch:=fp) (J.os) u1 J.aC J.bare fun b hb=>by
   obtain ⟨g0,g1,g2,g3,g4,g5⟩:=f2 b hb
   exact ⟨g3,g1,g4,g5⟩
  have nl:X.env.locals≠s3.heap.objs.size:=by
   obtain ⟨m3,⟨o3,_,_,e3,_⟩,_⟩:=I3.loc
   exact pF _ _ e3
  have nc:∀z c,X.env.cells.lookup z=some c→c≠s3.heap.objs.size:=fun z c e=>by
   obtain ⟨v3,o3,e3,_⟩:=I3.cell z c e
   exact pF _ _ e3
  refine wpAny_assign_Name (Cy (v:=.ref D) IX hN lO hy rfl (fun eI pG pH=>?_) hf)
  obtain ⟨a,pH,ha⟩:=pH
  have na:s3.heap.objs.size≠a:=by
   rcases ha with rfl | e
   ·exact fun z=>nl z.symm
   ·exact fun z=>nc _ _ e z.symm
  refine ⟨m,hn.sameBut pH na,fun h' fq=>⟨σ.set i0 (some (.ref D)),H',?_,q⟩⟩
  have u2:Un (cD X.stack) [s3.heap.objs.size] H' H' eI.heap h':=by
   refine ⟨fun b o e n hb hx=>(fq.2 b (by simpa using hx)).trans e,fun b o e n hb hx=>⟨o.slots,(fq.2 b (by simpa using hx)).trans e⟩,fun b o e n hx=>n,fun b o e hx=>⟨o,(fq.2 b (by simpa using hx)).trans e⟩,fun b xs z=>z,fun b o u z=>z,fun b ps z=>⟨#[],by simpa using z⟩⟩
  have pj:cL X.prog X.w H' h':=fun b u e=>by
   refine (pG.aC b u e).g_ (fun c v hc z=>(fq.2 c fun y=>?_).trans z) (fun _ z=>z) fun _ _ z=>z
   have y':c=s3.heap.objs.size:=y
   rcases hc with hc | hc
   ·rw [←hc,y',JC] at e
    cases e
   ·rw [y',JC] at hc
    cases hc
  refine pG.kg (s':={eI with heap:=h'}) (ch:=[s3.heap.objs.size]) rfl u2 pj pG.bare fun b hb=>?_
  have eb:b=s3.heap.objs.size:=by simpa using hb
  subst eb
  refine ⟨.inr I3.sz,fun z=>nl z.symm,fun z c e=>nc z c e,fun p hp=>?_⟩
  exact pF _ _ (I3.pin p hp).1
 have fh:∀{H':Hp},(∀b∈fp,H' b=none)→∀b∈fp,kl (X.aX N scope cl s3 (upd H2 D (.lst [])) fp) [] H' b:=fun hn b hb=>by
  refine ⟨hn b hb,?_,?_,.inl hb,fun y c e z=>(f2 b hb).2.2.2.2.1 y c (cU y c e) z,fun p hp=>nomatch hp⟩
  ·obtain ⟨o,e,_⟩:=gN b hb
   exact below b o (fo b o e)
  ·exact eK.mQ b hb
 have loop:∀tk:Nat,codeAny (model X.prog X.w) X.A (.compLoop (.ListComp elt [⟨.Tuple [.Name x px,.Name y py] jL tp,iter,ifs,0⟩] scope pos) 0 (.ref it) (.ref D) (compEnvC scope cl s3.heap.objs.size X.env))
   (compPost (model X.prog X.w) X.A X.xe (some (assign (.Name y9 tQ) X.env)) (fun _ s'=>SP X pins D0 .next s') (.ref D) s3.heap.objs.size) {s3 with heap:=h₁,toks:=tk}:=fun tk=>by
  refine IQ (fun n s'=>∃i ys o o2 H',Inv (X.aX N scope cl s3 (upd H2 D (.lst [])) fp) [] (o::o2::ρ σ) H' s'∧tn i s'.heap∧(∀b∈fp,H' b=none)∧W i n ys H') ?_ m0
   ⟨0,[],none,none,_,IB tk,T.keep _ _ _ fZ fun b hb o e=>dt _ _ (fo _ _ e),fun b hb=>by rw [b7 (pd b hb)];exact (f2 b hb).1,w0⟩
  rintro n s4 ⟨i,ys,o,o2,H4,I4,jI,jJ,w4⟩
  obtain ⟨Di,pk⟩:=turn i n ys H4 w4
  rcases pk with ⟨stop,qn⟩ | ⟨go,step⟩
  ·refine cm (T.done (X.aX N scope cl s3 (upd H2 D (.lst [])) fp) rfl rfl rfl hc i [] s4 _ H4 (fun _ _=>False) I4 (fh jJ) jI stop) (fun r s5 ⟨hr,I5⟩=>?_) fun _ _ z=>z.elim
   subst hr
   exact fin I5 qn
  ·refine cm (T.item (X.aX N scope cl s3 (upd H2 D (.lst [])) fp) rfl rfl rfl hc i [] s4 _ H4 (fun _ _=>False) I4 (fh jJ) jI go) (fun r s5 ⟨u,hr,h5⟩=>?_) fun _ _ z=>z.elim
   subst hr
   refine cm h5 (fun _ s5 ⟨y0,H5,I5,r5,y5,fi,lI⟩=>?_) fun _ _ z=>z.elim
   obtain ⟨Tt,x1,x2,e0,Dz,pz⟩:=step y0 _ y5
   subst e0
   have lJ:=I5.pinned (fh lI) (T.obj _ _ fi)
   have pg:PG (X.aX N scope cl s3 (upd H2 D (.lst [])) fp) (.Tuple [.Name x px,.Name y py] jL tp) (CJ X.K 2 (wy (bE 0) (wy (bE 1) CH))):=
    wF (X:=X.aX N scope cl s3 (upd H2 D (.lst [])) fp) hc (kj (eE (i:=0) B.nd B.n0 (.inl (iU B.hx)) (.inr (iU B.hx))) (kj (eE (i:=1) B.nd B.n1 (.inl (iU B.hy)) (.inr (iU B.hy))) wC))
   have again:∀{σ7:St} {H7:Hp} {s7:Shared},Inv (X.aX N scope cl s3 (upd H2 D (.lst [])) fp) ([]++i5 fp s5.heap) σ7 H7 s7→Inv (X.aX N scope cl s3 (upd H2 D (.lst [])) fp) [] σ7 H7 s7∧tn (i+1) s7.heap∧∀b∈fp,H7 b=none:=fun{σ7 H7 s7} I7=>by
    refine ⟨I7.oS,T.keep _ _ _ fi fun b hb o e=>(I7.pin (b,o) (dS _ (dS _ (kn hb e)))).1,fun b hb=>?_⟩
    obtain ⟨o,e,d⟩:=T.obj _ _ fi b hb
    exact (I7.pin (b,o) (dS _ (dS _ (kn hb e)))).2.1
   refine cm (pg _ s5 _ H5 (.ref Tt) u (fun σ2 H6=>σ2=some x1::some x2::ρ σ∧H6=H5) lJ r5 ⟨Tt,_,rfl,Dz,rfl,_,_,rfl,_,_,rfl,rfl,rfl,rfl⟩) (fun _ s6 ⟨σ6,H6,I6,q6⟩=>?_) fun _ _ z=>z.elim
   obtain ⟨rfl,rfl⟩:=q6
   have tests:∀{gO:TT},kz (X.aX N scope cl s3 (upd H2 D (.lst [])) fp) ifs gO→∀{R:Bool→Hp→Prop},gO (some x1::some x2::ρ σ) H6 R→wpAny (model X.prog X.w) X.A
     (forIn ifs true fun c r=>if r=true then do let ok ←isTrue c (compEnvC scope cl s3.heap.objs.size X.env) (eval c (compEnvC scope cl s3.heap.objs.size X.env));pure (ForInStep.yield ok) else pure (ForInStep.yield r))
     (fun ok s7=>∃H7,Inv (X.aX N scope cl s3 (upd H2 D (.lst [])) fp) ([]++i5 fp s5.heap) (some x1::some x2::ρ σ) H7 s7∧R ok H7) (fun _ _=>False) s6:=fun{gO} p {R} hR=>by
    cases p with
    | nil=>exact yJ ⟨_,I6,hR⟩
    | one p=>exact yK (p _ s6 _ _ _ I6 hR)
   refine cm (tests (ht s3 _ fp) pz) (fun ok s7 ⟨H7,I7,q7⟩=>?_) fun _ _ z=>z.elim
   cases ok with
   | false=>
    obtain ⟨m',gP,w7⟩:=q7
    obtain ⟨a1,a2,a3⟩:=again I7
    exact ⟨m',gP,i+1,ys,_,_,H7,a1,a2,a3,w7⟩
   | true=>
    refine cm (he s3 _ fp _ s7 _ H7 _ I7 q7) (fun ev s8 ⟨z,H8,I8,r8,pA,hz,m',gP,w8⟩=>?_) fun _ _ z=>z.elim
    refine cm (wO (X:=X.aX N scope cl s3 (upd H2 D (.lst [])) fp) _ s8 _ H8 (.ref D) [z] (.ref D) [ev] (fun _ H9=>H9=upd H8 D (.lst (ys++[z]))) I8 rfl (.cons r8 .nil) ⟨D,ys,z,rfl,rfl,pA,hz,rfl⟩) (fun _ s9 ⟨_,H9,I9,_,q9⟩=>?_) fun _ _ z=>z.elim
    subst q9
    obtain ⟨a1,a2,a3⟩:=again I9
    exact ⟨m',gP,i+1,ys++[z],_,_,_,a1,a2,a3,w8⟩
 have start:=loop (s3.toks+([]:List (Str×Value)).length)
 have es:({s3 with heap:=h₁,toks:=s3.toks+([]:List (Str×Value)).length}:Shared)={s2 with heap:=h₁,toks:=s2.toks+([]:List (Str×Value)).length}:=by rw [←dO]
 rw [es] at start
 exact yL start (T.self _ 0 _ _ _ (T.keep _ _ _ fZ fun b hb o e=>dt _ _ (fo _ _ e)) start)
end
end L2
set_option maxRecDepth 100000
set_option maxHeartbeats 4000000
namespace My
open PySem L2
def top(i:Nat):Stmt:=PySem.Challenge.pw_bandwright_k63_backs_of_turned_rows.main.body.getD i (.Pass ⟨0,0,0,0⟩)
abbrev Ar:Stmt:=top 7
abbrev As:Stmt:=top 8
abbrev Au:Stmt:=top 9
abbrev Av:Stmt:=top 10
abbrev Aw:Stmt:=top 11
abbrev Ax:Stmt:=top 12
abbrev Ay:Stmt:=top 13
abbrev Az:Stmt:=top 15
abbrev AA:Stmt:=top 16
abbrev AB:Stmt:=top 17
abbrev AD:Stmt:=top 18
abbrev AE:Stmt:=top 19
abbrev AF:Stmt:=top 20
abbrev AG:Stmt:=top 23
abbrev AH:Stmt:=top 25
abbrev AI:Stmt:=top 26
abbrev AJ:Stmt:=top 27
abbrev AK:Stmt:=top 28
abbrev AL:Stmt:=top 32
abbrev AM:Stmt:=top 34
abbrev AN:Stmt:=top 35
abbrev AO:Stmt:=top 37
abbrev AQ:Stmt:=top 40
abbrev AR:Stmt:=top 42
abbrev AS:Stmt:=top 43
abbrev AU:Stmt:=top 46
abbrev AV:Stmt:=top 47
abbrev AW:Stmt:=top 50
abbrev AX:Stmt:=top 51
abbrev AY:Stmt:=top 52
abbrev AZ:Stmt:=top 53
abbrev A0:Stmt:=top 54
abbrev A3:Stmt:=top 55
abbrev A4:Stmt:=top 56
abbrev A5:Stmt:=top 57
abbrev A6:Stmt:=top 58
abbrev A7:Stmt:=top 59
abbrev A8:Stmt:=top 60
abbrev A9:Stmt:=top 61
abbrev A_:Stmt:=top 62
abbrev Ba:Stmt:=top 63
abbrev Bb:Stmt:=top 64
abbrev Bc:Stmt:=top 65
abbrev Bd:Stmt:=top 66
abbrev Be:Stmt:=top 67
abbrev Bf:Stmt:=inClass (top 48) 0
abbrev jk:Stmt:=inClass (top 48) 3
abbrev Bg:Stmt:=inClass (top 48) 8
abbrev Bh:Stmt:=inClass (top 48) 9
set_option genInjectivity false in
set_option genSizeOf false in
structure EA where
 pX:Addr
 tR:FuncData
 pY:Addr
 tS:FuncData
 pZ:Addr
 tV:FuncData
 p9:Addr
 tW:FuncData
 p_:Addr
 tX:FuncData
 qa:Addr
 tY:FuncData
 qb:Addr
 tZ:FuncData
 qc:Addr
 t5:FuncData
 qd:Addr
 t6:FuncData
 qe:Addr
 t7:FuncData
 qf:Addr
 t8:FuncData
 qg:Addr
 t9:FuncData
 qh:Addr
 t_:FuncData
 qi:Addr
 uc:FuncData
 qj:Addr
 ud:FuncData
 qk:Addr
 ue:FuncData
 ql:Addr
 uf:FuncData
 qm:Addr
 ug:FuncData
 qo:Addr
 uh:FuncData
 qp:Addr
 ui:FuncData
 qr:Addr
 uj:FuncData
 qs:Addr
 uk:FuncData
 qt:Addr
 um:FuncData
 qu:Addr
 uo:FuncData
 qv:Addr
 uq:FuncData
 qw:Addr
 ur:FuncData
 qx:Addr
 uu:FuncData
 qy:Addr
 uv:FuncData
 qz:Addr
 uw:FuncData
 qA:Addr
 ux:FuncData
 qB:Addr
 uy:FuncData
 qC:Addr
 uz:FuncData
 qD:Addr
 uA:FuncData
 qE:Addr
 uB:FuncData
 qF:Addr
 uC:FuncData
 qG:Addr
 uD:FuncData
 qH:Addr
 uE:FuncData
 qI:Addr
 uF:FuncData
 qJ:Addr
 uH:FuncData
 qK:Addr
 uI:FuncData
 qL:Addr
 uJ:FuncData
 qM:Addr
 uK:FuncData
 qN:Addr
 uN:FuncData
 qO:Addr
 uO:FuncData
 nX:Addr
 qP:FuncData
 qQ:Addr
 uP:FuncData
 ma:Addr
 xH:FuncData
 qR:Addr
 uQ:FuncData
 qS:Addr
 uR:FuncData
 a_:Addr
 qT:Addr
 kO:Addr
 nY:Addr
abbrev bL (mg:dn) (x:Str) (f:Addr):Prop:=mg x=some (.ref f)
abbrev EB (K:aF) (a:Addr):Prop:=PySem.W.excIn K a [.type "ValueError",.type "Exception",.type "BaseException",.type "object"] "ValueError.__new__"=true
structure Txt (K:aF) (mg:dn) (t:EA):Prop where
 qU:aH K "whole_trimmed" Ar t.pX t.tR
 EC:Binds K t.tR ["row"] []
 ED:bL mg "whole_trimmed" t.pX
 qV:aH K "whole_times" As t.pY t.tS
 EE:Binds K t.tS ["one","other"] []
 EF:bL mg "whole_times" t.pY
 uS:aH K "whole_less" Au t.pZ t.tV
 Kx:Binds K t.tV ["one","other"] []
 Ky:bL mg "whole_less" t.pZ
 qW:aH K "whole_parted" Av t.p9 t.tW
 EG:Binds K t.tW ["world","one","other"] []
 EH:bL mg "whole_parted" t.p9
 nZ:aH K "power" Aw t.p_ t.tX
 Bi:Binds K t.tX ["number","times"] []
 Bj:bL mg "power" t.p_
 uT:aH K "next_part" Ax t.qa t.tY
 Kz:Binds K t.tY ["world","last","now","by","much","least"] []
 KA:bL mg "next_part" t.qa
 uU:aH K "whole_common" Ay t.qb t.tZ
 KC:Binds K t.tZ ["world","one","other"] []
 KD:bL mg "whole_common" t.qb
 jT:aH K "trimmed" Az t.qc t.t5
 qX:Binds K t.t5 ["world","row"] []
 qY:bL mg "trimmed" t.qc
 md:aH K "padded" AA t.qd t.t6
 xI:Binds K t.t6 ["world","row","many"] []
 xJ:bL mg "padded" t.qd
 jU:aH K "numbers_of" AB t.qe t.t7
 qZ:Binds K t.t7 ["world","wholes","times","bottom"] []
 q8:bL mg "numbers_of" t.qe
 uV:aH K "poly_times" AD t.qf t.t8
 KG:Binds K t.t8 ["world","one","other"] []
 KH:bL mg "poly_times" t.qf
 q_:aH K "parted" AE t.qg t.t9
 EI:Binds K t.t9 ["world","one","other"] []
 EJ:bL mg "parted" t.qg
 rf:aH K "common" AF t.qh t.t_
 EK:Binds K t.t_ ["world","one","other"] []
 EL:bL mg "common" t.qh
 uW:aH K "check_aim" AG t.qi t.uc
 KI:Binds K t.uc ["n","aim"] []
 KJ:bL mg "check_aim" t.qi
 rg:aH K "turned_size" AH t.qj t.ud
 EM:Binds K t.ud ["row"] []
 EN:bL mg "turned_size" t.qj
 rh:aH K "whole_turn" AI t.qk t.ue
 EO:Binds K t.ue ["world","n"] []
 ER:bL mg "whole_turn" t.qk
 uX:aH K "turned_undone" AJ t.ql t.uf
 KL:Binds K t.uf ["world","row","aim"] []
 KN:bL mg "turned_undone" t.ql
 me:aH K "turned_back" AK t.qm t.ug
 xK:Binds K t.ug ["world","row"] []
 xM:bL mg "turned_back" t.qm
 uY:aH K "is_whole" AL t.qo t.uh
 KO:Binds K t.uh ["thing"] []
 KP:bL mg "is_whole" t.qo
 rj:aH K "common_divisor" AM t.qp t.ui
 ES:Binds K t.ui ["one","other"] []
 ET:bL mg "common_divisor" t.qp
 uZ:aH K "is_prime" AN t.qr t.uj
 KQ:Binds K t.uj ["number"] []
 KR:bL mg "is_prime" t.qr
 u5:aH K "ratio" AO t.qs t.uk
 KS:Binds K t.uk ["top","bottom"] []
 KU:bL mg "ratio" t.qs
 u6:aH K "one_bottom" AQ t.qt t.um
 KW:Binds K t.um ["row"] []
 KY:bL mg "one_bottom" t.qt
 u7:aH K "remainder_back" AR t.qu t.uo
 KZ:Binds K t.uo ["prime","number"] []
 K0:bL mg "remainder_back" t.qu
 u9:aH K "remainder_over" AS t.qv t.uq
 K1:Binds K t.uq ["prime","a","b"] []
 K2:bL mg "remainder_over" t.qv
 u_:aH K "is_fractions" AU t.qw t.ur
 K3:Binds K t.ur ["told"] []
 K4:bL mg "is_fractions" t.qw
 va:aH K "is_wheel" AV t.qx t.uu
 K5:Binds K t.uu ["told"] []
 K6:bL mg "is_wheel" t.qx
 vb:aH K "_law_e_fill" AW t.qy t.uv
 K7:Binds K t.uv ["cell","at"] []
 K8:bL mg "_law_e_fill" t.qy
 eO:aH K "_law_e_next" AX t.qz t.uw
 gc:Binds K t.uw ["pen","many"] []
 gf:bL mg "_law_e_next" t.qz
 kP:aH K "_law_e_low" AY t.qA t.ux
 vc:Binds K t.ux ["top","bottom"] []
 vd:bL mg "_law_e_low" t.qA
 gW:aH K "_law_e_of" AZ t.qB t.uy
 jV:Binds K t.uy ["told","number"] []
 jW:bL mg "_law_e_of" t.qB
 rk:aH K "_law_e_plus" A0 t.qC t.uz
 EU:Binds K t.uz ["told","a","b"] []
 EV:bL mg "_law_e_plus" t.qC
 vf:aH K "_law_e_times" A3 t.qD t.uA
 K9:Binds K t.uA ["told","a","b"] []
 K_:bL mg "_law_e_times" t.qD
 vg:aH K "_law_e_is_number" A4 t.qE t.uB
 La:Binds K t.uB ["told","a"] []
 Lb:bL mg "_law_e_is_number" t.qE
 vh:aH K "_law_e_is_row" A5 t.qF t.uC
 Lc:Binds K t.uC ["told","found"] []
 Ld:bL mg "_law_e_is_row" t.qF
 vi:aH K "_law_e_world" A6 t.qG t.uD
 Le:Binds K t.uD ["pen"] []
 Lg:bL mg "_law_e_world" t.qG
 rl:aH K "_law_e_number" A7 t.qH t.uE
 EW:Binds K t.uE ["pen","told","far"] []
 EX:bL mg "_law_e_number" t.qH
 vj:aH K "_law_e_cut" A8 t.qI t.uF
 Lh:Binds K t.uF ["told","row"] []
 Li:bL mg "_law_e_cut" t.qI
 n_:aH K "_law_e_product" A9 t.qJ t.uH
 Bk:Binds K t.uH ["told","one","other"] []
 Bl:bL mg "_law_e_product" t.qJ
 vk:aH K "_law_e_turn" A_ t.qK t.uI
 Lj:Binds K t.uI ["told","many"] []
 Lk:bL mg "_law_e_turn" t.qK
 mh:aH K "_law_e_wrapped" Ba t.qL t.uJ
 xN:Binds K t.uJ ["told","many","row"] []
 xO:bL mg "_law_e_wrapped" t.qL
 rp:aH K "_law_e_turned_row" Bb t.qM t.uK
 EY:Binds K t.uK ["pen","told","many"] []
 EZ:bL mg "_law_e_turned_row" t.qM
 kR:aH K "_law_e_turned_to" Bc t.qN t.uN
 vm:Binds K t.uN ["told","row","numbers"] []
 vn:bL mg "_law_e_turned_to" t.qN
 vo:aH K "_law_e_back_right" Bd t.qO t.uO
 Ll:Binds K t.uO ["told","world","row","some","turns"] []
 Lm:bL mg "_law_e_back_right" t.qO
 vp:aH K "law" Be t.nX t.qP
 Tj:Binds K t.qP ["script"] []
 Ln:bL mg "law" t.nX
 xP:eZ K "__init__" "World.__init__" Bf t.qQ t.uP
 Lo:Binds K t.uP ["self","told"] []
 Bm:Mk K t.a_ t.qQ
 Lp:iE K "of" "World.of" jk 1 t.ma t.xH
 E3:Binds K t.xH ["self","top","bottom"] []
 Bn:∃v,Vals [V.int 1] [v]∧Binds K t.xH ["self","top","bottom"] [v]
 Tn:∀(s:Shared) (us ws:List Value),K.In s.heap→ws.length=1→us.length+1=(["self","top","bottom"]:List Str).length→BindsTo s t.xH ⟨us,[("bottom":Str)].zip ws⟩ ((["self","top","bottom"]:List Str).zip (us++ws))
 rq:Meth K t.a_ "of" t.ma
 xQ:eZ K "as_wholes" "World.as_wholes" Bg t.qR t.uQ
 rz:Binds K t.uQ ["self","row"] []
 mi:Meth K t.a_ "as_wholes" t.qR
 xR:eZ K "evenly" "World.evenly" Bh t.qS t.uR
 rA:Binds K t.uR ["self","row","by"] []
 mj:Meth K t.a_ "evenly" t.qS
 dq:jC K t.a_
 Lq:bL mg "World" t.a_
 kS:oY K t.a_ "prime"
 Lr:bL mg "NoWorld" t.qT
 Bo:bL mg "NoOver" t.kO
 E4:bL mg "NoFit" t.nY
 To:mg "ValueError"=none
 xS:mg "abs"=none
 Ls:mg "all"=none
 Bp:mg "bool"=none
 E5:mg "enumerate"=none
 xT:mg "int"=none
 jX:mg "isinstance"=none
 ck:mg "len"=none
 oa:mg "list"=none
 E6:mg "max"=none
 Lu:mg "min"=none
 gz:mg "range"=none
 Tp:mg "sum"=none
 Bq:mg "tuple"=none
 Br:mg "zip"=none
 Lv:∃u,mg "GREATEST_PRIME"=some u∧RelV (.int 997) u
 Lw:∃u,mg "LONG"=some u∧RelV (.int 2048) u
 Lx:∃u,mg "MOST"=some u∧RelV (.int 40) u
 Ly:EB K t.qT
 Bs:EB K t.kO
 E7:EB K t.nY
section
variable {P:Program} {w:World} {K:aF} {mg:dn} {base:Heap} {t:EA}
theorem Tq:bp ["thing"] ["thing"] (aM AL):=bJ
theorem Tr(T:Txt K mg t):aW P w K mg base bR 1 t.qo t.uh ["thing"] Qj:=by
 have S:=Tq;refine T.uY.cw S (fun _ _ _ _ H _ Q _ hr h=>?_);obtain ⟨v,rfl,ha,k⟩:=h;refine ⟨_,(aw (aR (lE (bq (ky (K:=K)) rfl T.jX boot_isinstance (aa (pv 0) (aa (kh (v:=.ty "int") rfl T.xT boot_int rfl) af))) (su (G5 (bq (ky (K:=K)) rfl T.jX boot_isinstance (aa (pv 0) (aa (kh (v:=.ty "bool") rfl T.Bp boot_bool rfl) af)))))))),?_⟩;obtain ⟨Ty,ty,k1,k2,_⟩:=ha.De (K:=K);refine ⟨_,rfl,_,_,_,_,rfl,rfl,ty,k1,_,rfl,b5 (fun h1=>?_) (fun h1=>?_)⟩
 ·refine ⟨_,rfl,_,_,_,_,rfl,rfl,ty,k2,_,rfl,?_⟩
  have e:(!tf v)=s_ v:=by
   cases h2:tf v with
   | true=>rw [Qh h2];rfl
   | false=>rw [h2,Bool.or_false] at h1;rw [h1];rfl
  show Q (.bl (!tf v)) H;rw [e];exact k
 ·have e:s_ v=false:=by
   cases h2:s_ v with
   | true=>rw [h2] at h1;exact absurd rfl h1
   | false=>rfl
  rw [e] at k;exact k
theorem Ts:bp ["one","other","left","shorter"] ["one","other"] (aM AM):=bJ
theorem Lz(T:Txt K mg t):aW P w K mg base bR 1 t.qp t.ui ["one","other"] Qk:=by
 have S:=Ts;obtain ⟨uL,hL,rL⟩:=T.Lw;refine T.rj.cw S (fun _ _ _ _ H _ _ _ hr h=>?_);obtain ⟨a,b,rfl,mb,k⟩:=h
 refine ⟨_,(ak (putL 0 S.nd (bq zc rfl T.xS boot_abs (aa (pv 0) af)))
  (ak (putL 1 S.nd (bq zc rfl T.xS boot_abs (aa (pv 1) af)))
  (ak (mT eS (bG jA (pv 1) ah) (ak (putL 2 S.nd (au eX (pv 0) (pv 1)))
  (ak (putL 0 S.nd (pv 1))
  (ak (putL 1 S.nd (pv 2))
  (aw (bI (bG jA (Pd PySem.F.plainAttrs_int PySem.F.slot_int_bit_length PySem.F.type_int_bit_length Qe (pv 0)) (CA (v:=.int 2048) rfl hL rL)) NV b8))))))
  (aw (aR (pv 0)))))),?_⟩
 refine ⟨_,rfl,a,rfl,_,rfl,b,rfl,fun m σ H'=>H'=H∧∃(x y:Nat) (v u:Option V),σ=[some (.int (x:Int)),some (.int (y:Int)),v,u]∧m=y∧y≤b.natAbs∧Nat.gcd x y=Int.gcd a b,⟨b.natAbs,rfl,a.natAbs,b.natAbs,none,none,?_,rfl,aJ _,rfl⟩,?_⟩
 ·show [some (V.int (if a<0 then -a else a)),some (V.int (if b<0 then -b else b)),none,none]=_
  rw [zq,zq]
 ·rintro m σ H' ⟨rfl,x,y,v,u,rfl,em,hb,hg⟩
  refine ⟨_,rfl,_,_,rfl,rfl,_,rfl,b5 (fun hy=>?_) (fun hy=>?_)⟩
  ·have hy:(0:Int)<y:=dm hy
   refine ⟨fun σ' H2=>H2=H'∧σ'=[some (.int (y:Int)),some (.int (((x % y:Nat)):Int)),some (.int (((x % y:Nat)):Int)),u],?_,?_⟩
   ·rintro σ' H2 ⟨rfl,rfl⟩
    exact ⟨x % y,by rw [em];exact Nat.mod_lt _ (by lia),rfl,y,x % y,_,_,rfl,rfl,ae (Nat.le_of_lt (Nat.mod_lt _ (by lia))) hb,by rw [Iz];exact hg⟩
   ·have hm:aP (y:Int):=gh (by rw [Int.natAbs_natCast];exact hb) mb
    have hbt:=Qg hm;refine ⟨_,rfl,_,rfl,_,_,rfl,rfl,hy,_,rfl,_,rfl,_,rfl,rfl,_,rfl,rfl,_,_,rfl,rfl,_,rfl,b5 (fun hz=>?_) (fun _=>⟨rfl,rfl⟩)⟩;have hz:=dm hz;exact absurd hz (by lia)
  ·have hy:¬(0:Int)<y:=fun z=>hy (dG z)
   have y0:y=0:=by lia
   subst y0;rw [Nat.gcd_zero_right] at hg;rw [←hg] at k;exact ⟨_,rfl,k⟩
theorem Tu:bp ["number","divisor"] ["number"] (aM AN):=bJ
theorem Tv(T:Txt K mg t):aW P w K mg base bR 1 t.qr t.uj ["number"] Ql:=by
 have S:=Tu;refine T.uZ.cw S (fun _ _ _ _ H _ Q _ hr h=>?_);obtain ⟨n,rfl,Tw,sM,k⟩:=h
 refine ⟨_,(ak (putL 1 S.nd ah)
  (ak (mT eS (bG sI (au f9 (pv 1) (pv 1)) (pv 0)) (ak (bI (bG dW (au eX (pv 0) (pv 1)) ah) (aw (aR i4)) b8)
  (aw (y6 (i:=1) S.nd rfl (Or.inl rfl) ah G9))))
  (aw (aR (mX CT (pv 0) ah))))),?_⟩
 refine ⟨fun m σ H'=>H'=H∧∃d:Int,σ=[some (.int n),some (.int d)]∧2≤d∧d≤32∧m=(33-d).toNat∧∀e:Int,2≤e→e<d→n % e≠0,⟨_,rfl,2,rfl,by lia,by lia,rfl,fun e a b=>by lia⟩,?_⟩
 rintro m σ H' ⟨rfl,d,rfl,h1,h2,rfl,h3⟩;refine ⟨_,rfl,_,rfl,_,_,rfl,rfl,.inl ⟨by lia,by lia⟩,_,rfl,_,_,rfl,rfl,_,rfl,b5 (fun hq=>?_) (fun hq=>?_)⟩
 ·have hq:=dm hq
  have hd:d<32:=by
   by_cases z:d<32;·exact z
   ·have:d=32:=by lia
    subst this;lia
  refine ⟨fun σ' H2=>H2=H'∧σ'=[some (.int n),some (.int (d+1))]∧n % d≠0,?_,?_⟩
  ·rintro σ' H2 ⟨rfl,rfl,hm⟩
   refine ⟨(33-(d+1)).toNat,by lia,rfl,d+1,rfl,by lia,by lia,rfl,fun e a b=>?_⟩
   by_cases z:e=d;·subst z;exact hm
   ·exact h3 e a (by lia)
  ·refine ⟨_,rfl,_,rfl,_,_,rfl,rfl,(show (0:Int)<d by lia),rfl,_,rfl,b5 (fun hm=>?_) (fun hm=>?_)⟩
   ·have hm:=V.int.inj (dm hm)
    rw [Iw sM h1 hq hm] at k;exact k
   ·exact ⟨_,rfl,_,_,rfl,rfl,rfl,rfl,fun z=>hm (dG (fT V.int z))⟩
 ·have hq:¬d*d≤n:=fun z=>hq (dG z)
  refine ⟨_,rfl,_,_,rfl,rfl,?_⟩;rw [P_ (n:=n) (d:=d) (by lia) h1 h3] at k
  have e:decide ((2:Int)≤n)=true:=dG Tw;show Q (.bl (decide ((2:Int)≤n))) H';rw [e];exact k
theorem Tx:bp ["told"] ["told"] (aM AU):=bJ
theorem Tz(T:Txt K mg t):aW P w K mg base bR 1 t.qw t.ur ["told"] Qm:=by
 have S:=Tx;refine T.u_.cw S (fun _ _ _ _ H _ _ _ hr h=>?_);obtain ⟨p,d,rfl,hp,k⟩:=h;refine ⟨_,(aw (aR (lE (bq (ky (K:=K)) rfl T.jX boot_isinstance (aa (pv 0) (aa (kh (v:=.ty "tuple") rfl T.Bq boot_tuple rfl) af))) (lE (mX dW (bq cq rfl T.ck cn (aa (pv 0) af)) ah) (su (mX dW (aA a9 (pv 0) ah) eV)))))),?_⟩;refine ⟨_,rfl,_,_,_,true,rfl,rfl,.of (.tup hp),zo,true,rfl,dI ?_⟩;cases d with
 | a x=>refine ⟨_,rfl,p,_,rfl,.inr (.of hp),rfl,true,rfl,dI ?_⟩;refine ⟨_,rfl,p,_,0,.str x,rfl,rfl,.of hp,rfl,rfl,?_⟩;rw [Dl];exact k
 | b x n=>exact ⟨_,rfl,p,_,rfl,.inr (.of hp),rfl,false,rfl,cQ k⟩
theorem TB:bp ["told"] ["told"] (aM AV):=bJ
theorem TC(T:Txt K mg t):aW P w K mg base bR 2 t.qx t.uu ["told"] Qn:=by
 have S:=TB;obtain ⟨uG,hG,rG⟩:=T.Lv;refine T.va.cw S (fun _ _ _ _ H _ _ _ hr h=>?_);obtain ⟨p,d,rfl,hp,k⟩:=h
 refine ⟨_,(ak (bI (PW.pt (pw_or (sq (mR (bq (ky (K:=K)) rfl T.jX boot_isinstance (aa (pv 0) (aa (kh (v:=.ty "tuple") rfl T.Bq boot_tuple rfl) af))))) (pw_or (bG oV (bq cq rfl T.ck cn (aa (pv 0) af)) ah) (pw_or1 (bG oV (aA a9 (pv 0) ah) eV))))) (aw (aR i4)) b8)
  (aw (aR (lE (aD (Tr T) hr T.KP T.uY.kp T.KO ay (aa (aA a9 (pv 0) ah) af)) (lE (HC sI sI ah (aA a9 (pv 0) ah) (CA (v:=.int 997) rfl hG rG)) (su (aD (Tv T) hr T.KR T.uZ.kp T.KQ ay (aa (aA a9 (pv 0) ah) af)))))))),?_⟩
 refine ⟨_,rfl,_,_,_,true,rfl,rfl,.of (.tup hp),zo,true,rfl,cQ ?_⟩;cases d with
 | a x=>exact ⟨_,rfl,p,_,rfl,.inr (.of hp),rfl,true,rfl,dI (dI k)⟩
 | b x n=>
  refine ⟨_,rfl,p,_,rfl,.inr (.of hp),rfl,false,rfl,cQ ?_⟩;refine ⟨_,rfl,p,_,0,.str x,rfl,rfl,.of hp,rfl,rfl,_,rfl,b5 (fun hw=>?_) (fun hw=>?_)⟩
  ·have hw:¬x="wheel":=by rw [Dl] at hw;simpa using hw
   have e:(Td.b x n).i_=false:=by simp [Td.i_,hw]
   rw [e] at k;exact k
  ·have hw:x="wheel":=by rw [Dl] at hw;simpa using hw
   refine ⟨_,rfl,p,_,1,.int n,rfl,rfl,.of hp,rfl,.int n,rfl,.int n,true,rfl,dI ?_⟩;refine ⟨_,rfl,p,_,1,.int n,rfl,rfl,.of hp,rfl,_,_,rfl,rfl,_,rfl,?_⟩;refine b5 (fun h2=>?_) (fun h2=>?_)
   ·have h2:=dm h2
    refine ⟨_,_,rfl,rfl,_,rfl,b5 (fun h3=>?_) (fun h3=>?_)⟩
    ·have h3:=dm h3
     refine ⟨_,rfl,p,_,1,.int n,rfl,rfl,.of hp,rfl,n,rfl,h2,h3,?_⟩;have e:(Td.b x n).i_=jG n:=by simp [Td.i_,hw,h2,h3]
     rw [e] at k;exact k
    ·have h3:¬n≤997:=fun z=>h3 (dG z)
     have e:(Td.b x n).i_=false:=by simp [Td.i_,h3]
     rw [e] at k;exact k
   ·have h2:¬2≤n:=fun z=>h2 (dG z)
    have e:(Td.b x n).i_=false:=by simp [Td.i_,h2]
    rw [e] at k;exact ⟨false,rfl,cQ k⟩
theorem TF:bp ["self","told"] ["self","told"] (aM Bf):=bJ
theorem TH(T:Txt K mg t):aW P w K mg base (dX P w) 3 t.qQ t.uP ["self","told"] (Qo t.a_ t.qT):=by
 have S:=TF;refine T.xP.eK S (fun _ _ _ _ H _ _ _ hr h L=>?_);obtain ⟨x,dx,p,d,rfl,hx,hp,k1,k2⟩:=h;refine ⟨_,(aw (bI (mR (aD (Tz T) hr T.K4 T.u_.kp T.K3 ay (aa (pv 1) af))) (aw (HJ (pv 0) jw rfl)) (aw (bI (mR (aD (TC T) hr T.K6 T.va.kp T.K5 ay (aa (pv 1) af))) (aw (HJ (pv 0) (aA a9 (pv 1) ah) rfl)) (aw (sZ L rfl r9 T.Ly rfl T.Lr (aa eV af))))))),?_⟩;refine ⟨_,rfl,p,d,rfl,hp,_,rfl,b5 (fun hF=>?_) (fun hF=>?_)⟩
 ·refine ⟨_,rfl,x,t.a_,dx,[],rfl,hx,T.dq,T.kS,(by show 0<1000;decide),?_⟩
  have e:d.prime=.aV:=by
   cases d with
   | a x=>rfl
   | b x n=>cases hF
  have k:=k1 (by unfold Td.good;rw [hF];rfl)
  rw [e] at k;exact k
 ·have hF:d.wV=false:=by simpa using hF
  refine ⟨_,rfl,p,d,rfl,hp,_,rfl,b5 (fun hW=>?_) (fun hW=>?_)⟩
  ·have k:=k1 (by unfold Td.good;rw [hW,Bool.or_true])
   cases d with
   | a x=>cases hW
   | b y n=>exact ⟨_,rfl,p,_,1,.int n,rfl,rfl,.of hp,rfl,_,rfl,x,t.a_,dx,[],rfl,hx,T.dq,T.kS,(by show 0<1000;decide),k⟩
  ·have hW:d.i_=false:=by simpa using hW
   exact ⟨by show 1≤sizeLine;decide,k2 (by unfold Td.good;rw [hF,hW];rfl)⟩
theorem TJ:bp ["top","bottom","shared"] ["top","bottom"] (aM AO):=bJ
theorem TK(T:Txt K mg t):aW P w K mg base (dX P w) 2 t.qs t.uk ["top","bottom"] (Qy t.kO):=by
 have S:=TJ;refine T.u5.eK S (fun _ _ _ _ H _ _ _ hr h L=>?_);obtain ⟨a,b,rfl,mb,kE,k⟩:=h
 refine ⟨_,(ak (bI (bG dW (pv 1) ah) (aw (sZ L rfl r9 T.Bs rfl T.Bo (aa eV af))) b8)
  (eU.oP (ak (putL 2 S.nd (aD (Lz T) hr T.ET T.rj.kp T.ES ay (aa (pv 0) (aa (pv 1) af))))
  (ak (bI (bG kq (pv 1) ah) (aw (putL 2 S.nd (jy jz (pv 2)))) b8)
  (aw (aR (fI (aa (au wZ (pv 0) (pv 2)) (aa (au wZ (pv 1) (pv 2)) af))))))))),?_⟩
 have n2:2≤sizeLine:=by decide
 refine ⟨_,rfl,rfl,_,rfl,b5 (fun hz=>?_) (fun hz=>?_)⟩
 ·have hz:b=0:=V.int.inj (dm hz)
  exact ⟨by show 1≤sizeLine;decide,kE hz⟩
 have hz:b≠0:=fun z=>hz (dG (by rw [z]))
 have ok:=IA (a:=a) hz mb;have kk:=k hz;unfold fN fO at kk;refine ⟨_,rfl,_,rfl,a,b,rfl,mb,_,rfl,_,_,rfl,rfl,_,rfl,b5 (fun hn=>?_) (fun hn=>?_)⟩
 ·have hn:b<0:=dm hn
  have e:lowG a b=-(Int.gcd a b:Int):=by unfold lowG;rw [ar hn,rV]
  rw [e] at ok kk;refine ⟨_,rfl,_,rfl,_,rfl,_,rfl,_,_,rfl,rfl,ok,_,rfl,_,rfl,_,_,rfl,rfl,ok,n2,fun r hr=>kk r _ (aB hr) av⟩
 ·have hn:¬b<0:=fun z=>hn (dG z)
  have e:lowG a b=(Int.gcd a b:Int):=by unfold lowG;rw [ao hn]
  rw [e] at ok kk;refine ⟨_,rfl,_,rfl,_,_,rfl,rfl,ok,_,rfl,_,rfl,_,_,rfl,rfl,ok,n2,fun r hr=>kk r _ (aB hr) av⟩
theorem TL:bp ["prime","number","last","last_times","now","now_times","fits","left","left_times"] ["prime","number"] (aM AR):=bJ
theorem TM(T:Txt K mg t):aW P w K mg base (dX P w) 1 t.qu t.uo ["prime","number"] (Qt t.kO):=by
 have S:=TL;refine T.u7.eK S (fun _ _ _ _ H _ _ _ hr h L=>?_);obtain ⟨q,b,rfl,q1,q2,q3,b0,b1,kE,k⟩:=h
 refine ⟨_,(ak (bI (bG dW (pv 1) ah) (aw (sZ L rfl r9 T.Bs rfl T.Bo (aa eV af))) b8)
  (eU.oP (ak (putL 2 S.nd (pv 0))
  (ak (putL 3 S.nd ah)
  (ak (putL 4 S.nd (pv 1))
  (ak (putL 5 S.nd ah)
  (ak (mT eS (bG jA (pv 4) ah) (ak (putL 6 S.nd (au Oq (pv 2) (pv 4)))
  (ak (putL 7 S.nd (au eF (pv 2) (au f9 (pv 6) (pv 4))))
  (ak (putL 8 S.nd (au eF (pv 3) (au f9 (pv 6) (pv 5))))
  (ak (putL 2 S.nd (pv 4))
  (ak (putL 3 S.nd (pv 5))
  (ak (putL 4 S.nd (pv 7))
  (aw (putL 5 S.nd (pv 8))))))))))
  (aw (aR (au eX (pv 5) (pv 0))))))))))),?_⟩
 refine ⟨_,rfl,rfl,_,rfl,b5 (fun hz=>?_) (fun hz=>?_)⟩
 ·have hz:b=0:=V.int.inj (dm hz)
  exact ⟨by show 1≤sizeLine;decide,kE hz⟩
 have hz:b≠0:=fun z=>hz (dG (by rw [z]))
 refine ⟨_,rfl,_,rfl,fun m σ H'=>H'=H∧∃(l lt n nt:Int) (v1 v2 v3:Option V),σ=[some (.int q),some (.int b),some (.int l),some (.int lt),some (.int n),some (.int nt),v1,v2,v3]∧m=n.toNat∧lN q b l lt n nt∧l≤997,
  ⟨b.toNat,rfl,q,0,b,1,none,none,none,rfl,rfl,lN.start q1 q2 q3 (by lia) b1,q2⟩,?_⟩
 rintro m σ H' ⟨rfl,l,lt,n,nt,v1,v2,v3,rfl,em,hb,hl⟩;have p1:=hb.pos;have p2:=hb.less;refine ⟨_,rfl,_,_,rfl,rfl,_,rfl,b5 (fun hy=>?_) (fun hy=>?_)⟩
 ·have hy:1<n:=dm hy
  have hs:=hb.step hy;have f0:0≤l / n:=wj (by lia) (by lia)
  have f1:l / n≤l:=Int.ediv_le_self _ (by lia)
  refine ⟨fun σ' H2=>H2=H'∧σ'=[some (.int q),some (.int b),some (.int n),some (.int nt),some (.int (l-l / n*n)),some (.int (lt-l / n*nt)),some (.int (l / n)),some (.int (l-l / n*n)),some (.int (lt-l / n*nt))],?_,?_⟩
  ·rintro σ' H2 ⟨rfl,rfl⟩
   exact ⟨(l-l / n*n).toNat,by rw [em];lia,rfl,_,_,_,_,_,_,_,rfl,rfl,hs.1,by lia⟩
  ·exact ⟨_,rfl,_,rfl,_,_,rfl,rfl,⟨by lia,by lia⟩,_,rfl,_,rfl,_,rfl,_,_,rfl,rfl,.inr ⟨by lia,by lia⟩,_,_,rfl,rfl,
    _,rfl,_,rfl,_,rfl,_,_,rfl,rfl,.inl ⟨by lia,by lia⟩,_,_,rfl,rfl,_,rfl,_,rfl,_,rfl,_,rfl,rfl,rfl⟩
 ·have hy:¬1<n:=fun z=>hy (dG z)
  have n1:n=1:=by lia
  subst n1;exact ⟨_,rfl,_,rfl,_,_,rfl,rfl,(show (0:Int)<q by lia),k hz _ (dA _ (by lia)) (dN _ (by lia)) (hb.done q1)⟩
theorem TN:bp ["prime","a","b"] ["prime","a","b"] (aM AS):=bJ
theorem TQ(T:Txt K mg t):aW P w K mg base (dX P w) 2 t.qv t.uq ["prime","a","b"] (Qu t.kO):=by
 have S:=TN;refine T.u9.eK S (fun _ _ _ _ H _ _ _ hr h L=>?_);obtain ⟨q,i,j,rfl,q1,q2,q3,i0,i1,j0,j1,kE,k⟩:=h;refine ⟨_,(aw (aR (au eX (au f9 (pv 1) (aD (TM T) hr T.K0 T.u7.kp T.KZ (m4 L) (aa (pv 0) (aa (pv 2) af)))) (pv 0)))),?_⟩
 exact ⟨_,rfl,_,rfl,_,rfl,q,j,rfl,q1,q2,q3,j0,j1,kE,fun hj r r0 r1 gX=>⟨_,_,rfl,rfl,.inl ⟨by lia,by lia⟩,_,rfl,_,_,rfl,rfl,(show (0:Int)<q by lia),
  k hj _ (dA _ (by lia)) (dN _ (by lia)) (Qv q1 i0 i1 gX)⟩⟩
theorem TR:bp ["self","top","bottom"] ["self","top","bottom"] (aM jk):=bJ
theorem xU(T:Txt K mg t):aW P w K mg base (dX P w) 3 t.ma t.xH ["self","top","bottom"] (Qz t.a_ t.kO):=by
 have S:=TR;refine T.Lp.Dd S (fun vs H Q E h=>?_) (fun aU A outer s H vs Q E hr h L=>?_)
 ·obtain ⟨z,q,a,b,rfl,_⟩:=h
  rfl
 ·obtain ⟨z,q,a,b,rfl,⟨dx,hx⟩,hq,mb,kE,k⟩:=h
  refine ⟨_,(ak (bI (bG sJ (oZ (pv 0) rfl) jw) (aw (aR (aD (TK T) hr T.KU T.u5.kp T.KS (m4 L) (aa (pv 1) (aa (pv 2) af))))) b8)
   (aw (aR (aD (TQ T) hr T.K2 T.u9.kp T.K1 (m4 L) (aa (oZ (pv 0) rfl) (aa (au eX (pv 1) (oZ (pv 0) rfl)) (aa (au eX (pv 2) (oZ (pv 0) rfl)) af))))))),?_⟩
  refine ⟨_,rfl,z,t.a_,dx,_,_,rfl,hx,T.dq,T.kS,pC _,rfl,_,rfl,?_⟩;rcases hq with rfl | ⟨q2,q3,q4⟩
  ·rw [ar rfl]
   refine dI ⟨_,rfl,_,rfl,a,b,rfl,mb,fun hb=>kE (by unfold kB;rw [ar rfl];exact hb),fun hb r H' s' er=>k (fun hn=>hb (by unfold kB at hn;rw [ar rfl] at hn;exact hn)) _ H' s' (.inl ⟨rfl,r,rfl,er⟩)⟩
  ·have hq:q≠0:=by lia
   rw [ao hq] at hx ⊢;have p0:(0:Int)<q:=by lia
   refine cQ ⟨_,rfl,z,t.a_,dx,_,_,rfl,hx,T.dq,T.kS,pC _,_,rfl,_,rfl,z,t.a_,dx,_,_,rfl,hx,T.dq,T.kS,pC _,_,_,rfl,rfl,p0,_,rfl,_,rfl,z,t.a_,dx,_,_,rfl,hx,T.dq,T.kS,pC _,_,_,rfl,rfl,p0,?_⟩;have nv:kB q b↔b % q=0:=by unfold kB;rw [ao hq]
   exact ⟨q,a % q,b % q,rfl,q2,q3,q4,dA _ hq,dN _ p0,dA _ hq,dN _ p0,fun hj=>kE (nv.mpr hj),fun hj r r0 r1 gX=>k (fun z=>hj (nv.mp z)) _ H (ai.refl H) (.inr ⟨q2,r,rfl,r0,r1,gX⟩)⟩
theorem TU:bp ["row","bottom","number"] ["row"] (aM AQ):=bJ
theorem TV(T:Txt K mg t):aW P w K mg base bR 2 t.qt t.um ["row"] Sq:=by
 have S:=TU;refine T.u6.cw S (fun _ _ _ _ H vs _ _ hr h=>?_);obtain ⟨a,ps,B,D,rfl,⟨vs,ea,hl,hn⟩,LA,c_,hD,hB,bD,k⟩:=h
 refine ⟨_,(ak (m8 1 S.nd ah)
  (ak (i6 eS rfl (km (pv 0)) (eE (i:=2) S.nd rfl (Or.inl rfl))
   (aw (m8 1 S.nd (au fL (au Dj (pv 1) (aD (Lz T) hr T.ET T.rj.kp T.ES ay (aa (pv 1) (aa (aA a9 (pv 2) ah) af)))) (aA a9 (pv 2) ah)))))
  (aw (aR (fI (aa (kA (N:=["number","bottom"]) (ρ:=(fun σ=>[σ[1]?.join])) (gM [1] rfl) rfl (km (pv 0)) (fun _ _ _=>.nil) (fun _ _ _=>(au fL (aA (zJ (K:=K)) (pv 0) ah) (au Dj (pv 1) (aA (zJ (K:=K)) (pv 0) ah))))) (aa (pv 1) af))))))),?_⟩
 have D1:=c_.1 rfl;have parts:∀(i:Nat) (v:V),vs[i]?=some v→∃(r:Addr) (x m:Int),v=.ref r∧H r=some (.tup [.int x,.int m])∧ps[i]?=some (x,m)∧iD x m∧x.natAbs≤B∧m∣D:=fun i v e=>by
  have hi:i<ps.length:=by rw [←hl];exact (cV.mp e).1
  have ep:ps[i]?=some ps[i]:=by simp [hi]
  have h1:=hn i v ps[i] e ep;have h2:=hD _ (gD hi);generalize ps[i]=p at h1 ep h2;obtain ⟨x,m⟩:=p;cases h1 with
  | bS er l bx bm=>exact ⟨_,x,m,rfl,er,ep,l,bx,h2⟩
  | rem h0 h1 h2=>lia
 have vq:∀{y:Int},y∣D→aP y:=fun h=>J8 (ae (je h (by lia)) bD)
 refine ⟨_,rfl,a,rfl,⟨_,.of ea⟩,?_⟩
 refine Hq (K:=K) (a:=a) (xs:=vs) (fun i σ Hc=>Hc=H∧∃(b:Int) (v2:Option V),σ=[some (.ref a),some (.int b),v2]∧1≤b∧b∣D∧∀(j:Nat) (p:Int×Int),j<i→ps[j]?=some p→p.2∣b)
  ⟨rfl,1,none,rfl,by decide,Int.one_dvd D,fun j p hj=>by lia⟩ (fun i σ Hc _ ⟨z,_⟩=>by rw [z];exact .of ea) ?_ ?_
 ·rintro i v σ Hc hi ⟨rfl,b,v2,rfl,b1,bb,hd⟩
  obtain ⟨r,x,m,rfl,er,ep,l,bx,bm⟩:=parts i v hi;have m1:=l.pos;obtain ⟨s1,s2,s3,s4⟩:=QP b1 m1;have gp:=pD (a:=b) (b:=m) (by lia)
  have gm:aP (Int.gcd b m:Int):=vq (jr (oE ..) bm);refine ⟨_,rfl,_,rfl,_,rfl,r,_,_,_,rfl,rfl,.of er,rfl,b,m,rfl,vq bm,_,_,rfl,rfl,⟨by lia,gm⟩,_,rfl,r,_,_,_,rfl,rfl,.of er,rfl,_,_,rfl,rfl,⟨?_,vq bm⟩,?_⟩
  ·exact gh (mE ..) (vq bb)
  ·refine ⟨rfl,_,_,rfl,s1,lcm_dvd b1 m1 bb bm,fun j p hj hp=>?_⟩
   by_cases z:j=i
   ·subst z
    rw [ep] at hp;cases hp;exact s2
   ·exact jr (hd j p (by lia) hp) s3
 ·rintro σ Hc ⟨rfl,b,v2,rfl,b1,bb,hd⟩
  rw [hl] at hd;have mb:aP b:=vq bb;dsimp only;refine xb (QO (pJ (xs:=vs) (fun R h=>⟨_,rfl,a,rfl,⟨_,.of ea⟩,h _ _ (ai.refl _) (ny (.of ea))⟩) (by rw [hl];exact jF (by lia)) (fun _ i y _=>∃(p:Int×Int),ps[i]?=some p∧y=.int (p.1*(b / p.2))) (fun _ _ _ _ _ _ h _ _=>h) ?_ ?_))
  ·intro D' i v hi Hd R sd _ kd
   obtain ⟨r,x,m,rfl,er,ep,l,bx,bm⟩:=parts i v hi;have m1:=l.pos;have TY:aP (b / m):=gh (mE ..) mb;exact ⟨_,rfl,r,_,_,_,rfl,rfl,.of (sd _ _ er),rfl,_,rfl,_,rfl,r,_,_,_,rfl,rfl,.of (sd _ _ er),rfl,_,_,rfl,rfl,⟨by lia,vq bm⟩,_,_,rfl,rfl,⟨J8 (ae bx hB),TY⟩,kd _ Hd (ai.refl _) ⟨(x,m),ep,rfl⟩⟩
  ·intro D' ys Hd nD sd Bt hP eD
   have ey:ys=(ps.map fun p=>p.1*(b / p.2)).map V.int:=zK (by rw [Bt,hl,aT]) fun i v e=>by obtain ⟨p,e1,e2⟩:=hP i v e;exact ⟨p.1*(b / p.2),by rw [fV,e1];rfl,e2⟩
   refine ⟨_,rfl,by show 2≤sizeLine;decide,fun r gX=>?_⟩
   refine k _ _ (ps.map fun p=>p.1*(b / p.2)) b (sd.trans (aB gX)) ⟨r,D',rfl,av,aB gX _ _ (by rw [eD,ey]),nD⟩ ⟨by rw [aT],⟨fun _=>b1,fun z=>absurd rfl z⟩,bb,fun i hi=>?_⟩
   have E8:i<vs.length:=by lia
   have e1:(ps.map fun p=>p.1*(b / p.2)).getD i 0=ps[i].1*(b / ps[i].2):=by rw [getD_at (by rw [aT];exact hi),ju]
   rw [e1,getD_at hi];obtain ⟨r',x,m,_,_,ep,l,bx,bm⟩:=parts i vs[i] (by simp [E8])
   have og:ps[i]=(x,m):=by
    rw [show ps[i]?=some ps[i] by simp [hi]] at ep
    exact Option.some.inj ep
   rw [og];dsimp only;have m1:=l.pos;obtain ⟨c,ec⟩:=hd i (x,m) hi (by rw [←og];simp [hi])
   dsimp only at ec;have eq:b / m=c:=by rw [ec];exact mF _ (by lia)
   refine ⟨by rw [eq,ec];grind,?_⟩
   rw [a8];exact bH bx (ae (mE ..) (je bb (by lia)))
theorem TZ:bp ["self","row"] ["self","row"] (aM Bg):=bJ
theorem E9(T:Txt K mg t):aW P w K mg base bR 3 t.qR t.uQ ["self","row"] (Sr t.a_):=by
 have S:=TZ;refine T.xQ.cw S (fun _ _ _ _ H vs _ _ hr h=>?_);obtain ⟨z,a,q,ps,B,D,rfl,⟨dx,hx⟩,hq,LB,LA,c_,hD,hB,b1,bD,k⟩:=h
 refine ⟨_,(ak (bI (bG sJ (oZ (pv 0) rfl) jw) (aw (aR (aD (TV T) hr T.KY T.u6.kp T.KW ay (aa (pv 1) af)))) b8)
  (aw (aR (fI (aa (o8 sU rfl T.oa boot_list (aa (pv 1) af)) (aa ah af)))))),?_⟩
 refine ⟨_,rfl,z,t.a_,dx,_,_,rfl,hx,T.dq,T.kS,pC _,rfl,_,rfl,?_⟩;rcases hq with rfl | ⟨q2,q3,q4⟩
 ·rw [ar rfl]
  exact dI ⟨_,rfl,a,ps,B,D,rfl,LB,LA,c_,hD,hB,bD,k⟩
 ·have hq:q≠0:=by lia
  rw [ao hq] at hx ⊢;obtain ⟨vs,ea,hl,hn⟩:=LB;have parts:∀(i:Nat) (v:V),vs[i]?=some v→∃x:Int,v=.int x∧ps[i]?=some (x,1)∧0≤x∧x<q:=fun i v e=>by
   have hi:i<ps.length:=by rw [←hl];exact (cV.mp e).1
   have ep:ps[i]?=some ps[i]:=by simp [hi]
   have h1:=hn i v ps[i] e ep;generalize ps[i]=p at h1 ep;obtain ⟨x,m⟩:=p;cases h1 with
   | bS er l bx bm=>exact absurd rfl hq
   | rem h0 h1 h2=>exact ⟨x,rfl,ep,h0,h1⟩
  have ey:vs=(ps.map fun p=>p.1).map V.int:=zK (by rw [hl,aT]) fun i v e=>by obtain ⟨x,e1,e2,_⟩:=parts i v e;exact ⟨x,by rw [fV,e2];rfl,e1⟩
  have eD:=c_.2 hq;refine cQ ⟨_,rfl,a,vs,rfl,.inl (.of ea),fun l nl=>⟨by show 2≤sizeLine;decide,fun r gX=>?_⟩⟩
  refine k _ _ (ps.map fun p=>p.1) 1 ((aB nl).trans (aB gX)) ⟨r,l,rfl,av,aB gX _ _ (by rw [av,ey]),nl⟩ ⟨by rw [aT],aY.one,Int.one_dvd D,fun i hi=>?_⟩
  have E8:i<vs.length:=by lia
  rw [getD_at (by rw [aT];exact hi),ju,getD_at hi]
  obtain ⟨x,_,ep,x0,x1⟩:=parts i vs[i] (by simp [E8])
  have og:ps[i]=(x,1):=by
   rw [show ps[i]?=some ps[i] by simp [hi]] at ep
   exact Option.some.inj ep
  rw [og];refine ⟨rfl,?_⟩;rw [eD];show x.natAbs≤B*1;lia
theorem T4:bp ["world","row","many"] ["world","row"] (aM Az):=bJ
theorem vt(T:Txt K mg t):aW P w K mg base bR 4 t.qc t.t5 ["world","row"] (Ri t.a_):=by
 have S:=T4;have kT:=xU (P:=P) (w:=w) (base:=base) T;obtain ⟨dv,mq,vv⟩:=T.Bn;refine T.jT.cw S (fun _ _ _ _ H vs _ _ hr h=>?_);obtain ⟨z,a,q,ps,B,rfl,hz,hq,hR,E_,k⟩:=h;have hu:=hr.wL
 refine ⟨_,(ak (putL 2 S.nd (bq cq rfl T.ck cn (aa (pv 1) af)))
  (ak (mT eS (PW.pt (pw_and (bG jA (pv 2) ah) (pw_and1 (bG (IG hu) (aA bQ (pv 1) (au eF (pv 2) ah)) (fJ (pv 0) T.dq T.rq kT (hr.mono (by decide)) vv mq i9 (aa ah af)))))) (aw (y6 (i:=2) S.nd rfl (Or.inl rfl) ah G_)))
  (aw (aR (sP sR (pv 1) sN (sO (pv 2))))))),?_⟩
 obtain ⟨vs,ea,hl,hn⟩:=id hR;refine ⟨_,rfl,a,vs,rfl,.inl (.of ea),?_⟩;refine ⟨fun c σ Hc=>ai H Hc∧c≤ps.length∧di ps c=di ps ps.length∧σ=[some (.ref z),some (.ref a),some (.int (c:Int))],⟨ps.length,ai.refl H,aJ _,rfl,by rw [←hl];rfl⟩,?_⟩
 rintro c σ Hc ⟨sc,hc,rB,rfl⟩;refine ⟨_,rfl,_,_,rfl,rfl,_,rfl,b5 (fun h0=>?_) (fun h0=>?_)⟩
 ·have h0:(0:Int)<(c:Int):=dm h0
  obtain ⟨d,rfl⟩:∃d,c=d+1:=⟨c-1,by lia⟩
  have hd:d<vs.length:=by lia
  have lD:d<ps.length:=by lia
  refine ⟨_,rfl,_,rfl,_,_,rfl,rfl,a,vs,_,vs[d],rfl,rfl,.of (sc _ _ ea),(by show dD vs (((d+1:Nat):Int)-1)=_;rw [show ((d+1:Nat):Int)-1=(d:Int) by lia];exact i8 (by simp [hd])),?_⟩
  have hv:=hn d vs[d] ps[d] (by simp [hd]) (by simp [lD])
  obtain ⟨dz,LC⟩:=hz.mono sc;have nv:=DI hq;refine ⟨_,rfl,z,dz,_,rfl,LC,fM (by decide +kernel),z,q,0,1,rfl,⟨dz,LC⟩,hq,aP.of_lt (by decide) (by decide),fun h=>absurd h nv,fun _ v0 H1 s1 ho=>?_⟩
  have nq:=Ji (B:=1000) (by decide) ho hq (.inl rfl)
  have gd:ps.getD d o1=ps[d]:=getD_at lD;refine Jk (hv.mono (sc.trans s1)) nq ⟨_,rfl,b5 (fun fR=>?_) (fun fR=>?_)⟩
  ·have fR:ps[d].1=0:=dm fR
   refine ⟨fun σ' H2=>ai H H2∧σ'=[some (.ref z),some (.ref a),some (.int (d:Int))],?_,?_⟩
   ·rintro σ' H2 ⟨s2,rfl⟩
    refine ⟨d,by lia,s2,by lia,?_,rfl⟩
    rw [←rB];show _=if (ps.getD d o1).1=0 then di ps d else d+1
    rw [gd,ar fR]
   ·exact ⟨_,rfl,_,_,rfl,rfl,sc.trans s1,by show List.set _ 2 (some (V.int (((d+1:Nat):Int)-1)))=_;rw [show ((d+1:Nat):Int)-1=(d:Int) by lia];rfl⟩
  ·have fR:¬ps[d].1=0:=fun e=>fR (dG e)
   have e:di ps ps.length=d+1:=by
    rw [←rB];show (if (ps.getD d o1).1=0 then di ps d else d+1)=_
    rw [gd,ao fR]
   refine ⟨_,rfl,_,rfl,_,rfl,a,vs,rfl,.of ((sc.trans s1) _ _ ea),fun r nr=>?_⟩;rw [tG vs (d+1) (by lia)]
   have sr:=(sc.trans s1).trans (aB (o:=.lst (vs.take (d+1))) nr);refine k r _ sr (none_of (sc.trans s1) nr) ?_;unfold aN;rw [e];exact aE.take av hl fun i v p h1 h2=>(hn i v p h1 h2).mono sr
 ·have h0:¬(0:Int)<(c:Int):=fun z=>h0 (dG z)
  have c0:c=0:=by lia
  subst c0;refine ⟨_,rfl,_,rfl,_,rfl,a,vs,rfl,.of (sc _ _ ea),fun r nr=>?_⟩;rw [tG vs 0 (by lia)]
  have sr:=sc.trans (aB (o:=.lst (vs.take 0)) nr);refine k r _ sr (none_of sc nr) ?_;unfold aN;rw [←rB];exact aE.take av hl fun i v p h1 h2=>(hn i v p h1 h2).mono sr
theorem T5:bp ["self","row","by","back"] ["self","row","by"] (aM Bh):=bJ
theorem Fb(T:Txt K mg t):aW P w K mg base bR 4 t.qS t.uR ["self","row","by"] (JJ t.a_):=by
 have S:=T5;have kT:=xU (P:=P) (w:=w) (base:=base) T;refine T.xR.cw S (fun _ _ _ _ H _ _ _ hr h=>?_);obtain ⟨z,a,q,ts,b,u,rfl,⟨dx,hx⟩,hq,ea,Bu,hm,mb,nb,kF,k⟩:=h
 refine ⟨_,(ak (bI (bG sJ (oZ (pv 0) rfl) jw) (aw (aR (kA (N:=["number","by"]) (ρ:=(fun σ=>[σ[2]?.join])) (gM [2] rfl) rfl (km (pv 1)) (fun _ _ _=>.nil) (fun _ _ _=>(au wZ (pv 0) (pv 1)))))) b8)
  (ak (m8 3 S.nd (fJ (pv 0) T.dq T.rq kT (hr.mono (by decide)) T.E3 .nil i9 (aa ah (aa (pv 2) af))))
  (aw (aR (kA (N:=["number","back","self"]) (ρ:=(fun σ=>[σ[3]?.join,σ[0]?.join])) (gM [3,0] rfl) rfl (km (pv 1)) (fun _ _ _=>.nil) (fun _ _ _=>(au eX (au fL (pv 0) (pv 1)) (RJ (K:=K) (pv 2) rfl)))))))),?_⟩
 refine ⟨_,rfl,z,t.a_,dx,_,_,rfl,hx,T.dq,T.kS,pC _,rfl,_,rfl,?_⟩;rcases id hq with rfl | ⟨q2,q3,q4⟩
 ·rw [ar rfl]
  have b0:b≠0:=R0 nb;refine dI (xb (xp (ts:=ts) (fun x=>x.fdiv b) Bu (fun R h=>⟨_,rfl,a,rfl,⟨_,.of ea⟩,h _ _ (ai.refl _) (ny (.of ea))⟩) ?_ ?_))
  ·intro x Bv Hc R sc kc
   exact ⟨_,rfl,_,rfl,_,_,rfl,rfl,⟨b0,mb⟩,kc Hc (ai.refl _)⟩
  ·refine fun D Hc nD sc eD=>k D Hc _ sc nD eD (by rw [aT]) (fun i hi=>?_) fun z=>absurd rfl z
   have e:=RZ (kF i hi);rw [getD_at hi] at e;rw [getD_at (by rw [aT];exact hi),ju,e,Int.mul_fdiv_cancel_left _ b0]
   exact Cg.refl _
 ·have oh:q≠0:=by lia
  rw [ao oh] at hx ⊢;have hz:dg t.a_ H z q:=⟨dx,by rw [ao oh];exact hx⟩
  refine cQ ⟨_,rfl,z,dx,_,rfl,hx,fM (by decide +kernel),_,rfl,z,q,1,b,rfl,hz,hq,mb,fun h=>absurd h (IK nb),fun _ v H1 s1 ho=>?_⟩
  rcases ho with ⟨e,_⟩ | ⟨_,r,rfl,r0,r1,er⟩;·exact absurd e oh
  have mr:aP r:=aP.of_lt (by lia) (by lia)
  dsimp only [bE];refine xb (xp (ts:=ts) (fun x=>x*r % q) Bu (fun R h=>⟨_,rfl,a,rfl,⟨_,.of (s1 _ _ ea)⟩,h _ _ (ai.refl _) (ny (.of (s1 _ _ ea)))⟩) ?_ ?_)
  ·intro x Bv Hc R sc kc
   exact ⟨_,rfl,_,rfl,_,_,rfl,rfl,⟨hm x Bv,mr⟩,_,rfl,z,t.a_,dx,_,_,rfl,sc _ _ (s1 _ _ hx),T.dq,T.kS,pC _,_,_,rfl,rfl,(show (0:Int)<q by lia),kc Hc (ai.refl _)⟩
  ·refine fun D Hc nD sc eD=>k D Hc _ (s1.trans sc) (none_of s1 nD) eD (by rw [aT]) (fun i hi=>?_) fun _ x Bv=>?_
   ·have e:=kF i hi
    rw [getD_at hi] at e;rw [getD_at (by rw [aT];exact hi),ju]
    have e1:Cg q (r*b) 1:=by refine Cg.trans (((ib q b).symm.mulL r).trans (ib q _).symm) ?_;rw [er];exact ib q 1
    refine (ib q _).trans ((e.mulR r).trans ?_);rw [show b*u i*r=r*b*u i by grind]
    refine (e1.mulR (u i)).trans ?_;rw [k_];exact Cg.refl _
   ·obtain ⟨y,_,rfl⟩:=fE.mp Bv
    exact ⟨dA _ oh,dN _ (by lia)⟩
def T6(C:Addr):Sp:=fun vs H Q _=>∃(z a:Addr) (q c b:Int) (ts:List Int) (B:Nat),vs=[.ref z,.ref a,.int c,.int b]∧dg C H z q∧ax q∧H a=some (.lst (ts.map V.int))∧ts.length≤500∧¬q∣b∧aP b∧aP c∧(∀t∈ts,aP t)∧b.natAbs≤B∧(∀t∈ts,(t*c).natAbs≤B) ∧
 ∀(r:Addr) (ps:aK) (H':Hp),ai H H'→H r=none→aE B H' q r ps→ps.length=ts.length→(∀i,i<ts.length→aS q (ps.getD i o1) (ts.getD i 0*c,b))→Q (.ref r) H'
theorem T7:bp ["world","wholes","times","bottom"] ["world","wholes","times","bottom"] (aM AB):=bJ
theorem vw(T:Txt K mg t):aW P w K mg base bR 4 t.qe t.t7 ["world","wholes","times","bottom"] (T6 t.a_):=by
 have S:=T7;have kT:=xU (P:=P) (w:=w) (base:=base) T;refine T.jU.cw S (fun _ _ _ _ H _ _ _ hr h=>?_);obtain ⟨z,a,q,c,b,ts,B,rfl,⟨dz,hd⟩,hq,ea,Bu,nb,mb,mc,mt,bb,bt,k⟩:=h;refine ⟨_,(aw (aR (kA (N:=["whole","world","times","bottom"]) (ρ:=(fun σ=>[σ[0]?.join,σ[2]?.join,σ[3]?.join])) (gM [0,2,3] rfl) rfl (km (pv 1)) (fun _ _ _=>.nil) (fun _ _ _=>(fJ (pv 1) T.dq T.rq kT (hr.mono (by decide)) T.E3 .nil i9 (aa (au fL (pv 0) (pv 2)) (aa (pv 3) af))))))),?_⟩
 refine xb (pJ (xs:=ts.map V.int) (fun R h=>⟨_,rfl,a,rfl,⟨_,.of ea⟩,h _ _ (ai.refl _) (ny (.of ea))⟩) (by rw [aT];exact jF (by lia)) (fun _ i y Hx=>∃p:Int×Int,a7 B Hx q y p.1 p.2∧aS q p (ts.getD i 0*c,b)) (fun _ _ _ _ _ _ ⟨p,h0,h1⟩ e f=>⟨p,h0.cR e f,h1⟩) ?_ ?_)
 ·intro D i v hi Hc R sc _ kc
  have cH:i<ts.length:=by have:=(cV.mp hi).1;simpa using this
  have ev:v=.int ts[i]:=by rw [fV] at hi;simp [cH] at hi;exact hi.symm
  subst ev;have tm:=gD cH;refine ⟨_,rfl,z,dz,_,rfl,sc _ _ hd,fM (by decide +kernel),_,rfl,_,rfl,_,_,rfl,rfl,⟨mt _ tm,mc⟩,_,rfl,z,q,ts[i]*c,b,rfl,⟨dz,sc _ _ hd⟩,hq,mb,fun h=>absurd h (IK nb),fun _ v' H' s' ho=>kc v' H' s' ?_⟩
  rw [getD_at cH];exact JA ho hq nb (bt _ tm) bb
 ·intro D ys Hc nD sc Bt hP eD
  obtain ⟨ps,lp,hp⟩:=pick (R:=fun i y p=>a7 B Hc q y (Prod.fst p) (Prod.snd p)∧aS q p (ts.getD i 0*c,b)) hP;rw [aT] at Bt;refine k D ps Hc sc nD ⟨ys,eD,lp.symm,fun i v p h1 h2=>(hp i v p h1 h2).1⟩ (by lia) fun i hi=>?_
  have i1:i<ys.length:=by lia
  have i2:i<ps.length:=by lia
  rw [getD_at i2];exact (hp i ys[i] ps[i] (by simp [i1]) (by simp [i2])).2
theorem T8:bp ["world","row","many"] ["world","row","many"] (aM AA):=bJ
theorem Bw(T:Txt K mg t):aW P w K mg base bR 4 t.qd t.t6 ["world","row","many"] (Rl t.a_):=by
 have S:=T8;have kT:=xU (P:=P) (w:=w) (base:=base) T;obtain ⟨dv,mq,vv⟩:=T.Bn;refine T.md.cw S (fun _ _ _ _ H vs _ _ hr h=>?_);obtain ⟨z,a,q,ps,B,n,rfl,⟨dz,hd⟩,hq,hR,hB,hn,E_,k⟩:=h;refine ⟨_,(aw (aR (au lL (pv 1) (au wQ (cy (aa (fJ (pv 0) T.dq T.rq kT (hr.mono (by decide)) vv mq i9 (aa ah af)) af)) (au eF (pv 2) (bq cq rfl T.ck cn (aa (pv 1) af))))))),?_⟩
 have nv:=DI hq;obtain ⟨vs,ea,lv,fv⟩:=id hR;refine ⟨_,rfl,_,rfl,z,dz,_,rfl,hd,fM (by decide +kernel),z,q,0,1,rfl,⟨dz,hd⟩,hq,aP.of_lt (by decide) (by decide),fun h=>absurd h nv,fun _ v0 H1 s1 ho=>?_⟩
 refine ⟨by show 1≤sizeLine;decide,fun l nl=>?_⟩
 have sl:ai H1 (upd H1 l (.lst [v0])):=aB nl;have el:upd H1 l (.lst [v0]) l=some (.lst [v0]):=av;have h0:=Ji (B:=B) hB (ho.mono sl) hq (.inl rfl);generalize upd H1 l (.lst [v0])=H2 at sl el h0 ⊢;have s2:=s1.trans sl;have ek:(n:Int)-(vs.length:Int)=((n-ps.length:Nat):Int):=by lia
 refine ⟨_,rfl,_,rfl,a,vs,rfl,.inl (.of (s2 _ _ ea)),_,_,rfl,rfl,l,((n-ps.length:Nat):Int),[v0],rfl,by show V.int ((n:Int)-(vs.length:Int))=_;rw [ek],el,by lia,by lia,?_,fun r nr=>?_⟩
 ·rw [dM]
  exact ae (show [v0].length*(n-ps.length)≤1000 by simp;lia) (by decide)
 rw [dM,show (List.replicate (n-ps.length) [v0]).flatten=List.replicate (n-ps.length) v0 by induction (n-ps.length) with
  | zero=>rfl
  | succ n ih=>simp [k7]]
 have sr:ai H2 (upd H2 r (.lst (List.replicate (n-ps.length) v0))):=aB nr;have er:upd H2 r (.lst (List.replicate (n-ps.length) v0)) r=some (.lst (List.replicate (n-ps.length) v0)):=av;have h0:=h0.mono sr;generalize upd H2 r (.lst (List.replicate (n-ps.length) v0))=H3 at sr er h0 ⊢;have s3:=s2.trans sr;refine ⟨a,r,vs,_,rfl,rfl,s3 _ _ ea,er,ae (show _≤1000 by rw [g9];lia) (by decide),fun c nc=>?_⟩
 have sc:ai H3 (upd H3 c (.lst (vs++List.replicate (n-ps.length) v0))):=aB nc;refine k c _ (s3.trans sc) (none_of s3 nc) (aE.cat av lv (by rw [g9,g9]) (fun i v p h1 h2=>(fv i v p h1 h2).mono (s3.trans sc)) (fun i v p h1 h2=>?_))
 rw [k6] at h1 h2
 split at h1
 ·rename_i hi
  rw [ar hi] at h2;cases h1;cases h2;exact h0.mono sc
 ·cases h1
theorem T9:bp ["one","other","told","i","a","j","b"] ["one","other"] (aM As):=bJ
theorem LD(T:Txt K mg t):aW P w K mg base bR 1 t.pY t.tS ["one","other"] Rr:=by
 have S:=T9;refine T.qV.cw S (fun _ _ _ _ H _ _ _ hr h=>?_);obtain ⟨a,b,ts,us,rfl,ea,eb,mt,mu,T_,Ua,k⟩:=h
 refine ⟨_,(ak (putL 2 S.nd (au wQ (cy (aa ah af)) (bq (HD rfl) rfl T.E6 boot_max (aa ah (aa (au eF (au d8 (bq cq rfl T.ck cn (aa (pv 0) af)) (bq cq rfl T.ck cn (aa (pv 1) af))) ah) af)))))
  (ak (i6 eS rfl (Jo rfl T.E5 (aa (pv 0) af)) (wF rfl (kj (eE (i:=3) S.nd rfl (Or.inl rfl)) (kj (eE (i:=4) S.nd rfl (Or.inl rfl)) wC)))
   (aw (i6 eS rfl (Jo rfl T.E5 (aa (pv 1) af)) (wF rfl (kj (eE (i:=5) S.nd rfl (Or.inl rfl)) (kj (eE (i:=6) S.nd rfl (Or.inl rfl)) wC)))
   (aw (@N8 _ _ _ _ _ _ _ _ _ _ _ _ _ (pv 2) (au d8 (pv 3) (pv 5)) Rq (au fL (pv 4) (pv 6)) G9 set_list (by intros;rfl))))))
  (aw (aR (pv 2))))),?_⟩
 obtain ⟨N,eN⟩:∃N:Nat,N=ts.length+us.length-1:=⟨_,rfl⟩;have emax:(if ((ts.map V.int).length:Int)+((us.map V.int).length:Int)-1>0 then ((ts.map V.int).length:Int)+((us.map V.int).length:Int)-1 else 0)=(N:Int):=by
  rw [aT,aT,eN]
  split <;> lia
 refine ⟨by show 1≤sizeLine;decide,fun l nl=>?_⟩
 have sl:ai H (upd H l (.lst [.int 0])):=aB nl;refine ⟨_,rfl,a,ts.map V.int,rfl,.inl (.of (sl _ _ ea)),_,rfl,b,us.map V.int,rfl,.inl (.of (sl _ _ eb)),_,_,rfl,rfl,_,_,rfl,rfl,_,_,rfl,l,(N:Int),[.int 0],rfl,fT V.int emax,av,by lia,by lia,?_,fun c nc=>?_⟩
 ·rw [dM]
  exact ae (show [V.int 0].length*N≤200 by simp;lia) (by decide)
 have e0:(List.replicate ((N:Int).toNat) [V.int 0]).flatten=((List.range N).map fun k=>bK 0 us.length (fun i=>ts.getD i 0) (fun j=>us.getD j 0) k).map V.int:=by
  rw [dM];refine yP fun i=>?_;have e1:(List.replicate N [V.int 0]).flatten=List.replicate N (V.int 0):=by
   clear eN emax
   induction N with
   | zero=>rfl
   | succ n ih=>simp [k7]
  rw [e1,k6];by_cases hi:i<N;·simp [hi,bK,aQ]
  ·simp [hi]
 rw [e0];have Fc:ai H (upd (upd H l (.lst [.int 0])) c (.lst (((List.range N).map fun k=>bK 0 us.length (fun i=>ts.getD i 0) (fun j=>us.getD j 0) k).map V.int))):=sl.trans (aB nc);have LF:upd (upd H l (.lst [.int 0])) c (.lst (((List.range N).map fun k=>bK 0 us.length (fun i=>ts.getD i 0) (fun j=>us.getD j 0) k).map V.int)) c=_:=av;generalize upd (upd H l (.lst [.int 0])) c (.lst (((List.range N).map fun k=>bK 0 us.length (fun i=>ts.getD i 0) (fun j=>us.getD j 0) k).map V.int))=H0 at Fc LF ⊢;have LG:H c=none:=none_of sl nc;refine ⟨_,rfl,a,rfl,⟨_,.of (Fc _ _ ea)⟩,?_⟩
 refine Jp (K:=K) (l:=a) (xs:=ts.map V.int) (fun i σ Hc=>ai H Hc∧∃(v3 v4 v5 v6:Option V),σ=[some (.ref a),some (.ref b),some (.ref c),v3,v4,v5,v6]∧Hc c=some (.lst (((List.range N).map fun k=>bK i us.length (fun i=>ts.getD i 0) (fun j=>us.getD j 0) k).map V.int)))
  ⟨Fc,_,_,_,_,rfl,LF⟩ (fun i σ Hc ⟨z,_⟩=>.of (z _ _ ea)) ?_ ?_
 ·rintro i x σ Hc Tt hx ⟨sc,v3,v4,v5,v6,rfl,ec⟩ nT
  have hi:i<ts.length:=by have:=(cV.mp hx).1;simpa using this
  have ex:x=.int (ts.getD i 0):=by rw [fV] at hx;simp [hi] at hx;rw [getD_at hi,hx]
  subst ex;have sT:ai Hc (upd Hc Tt (.tup [.int (i:Int),.int (ts.getD i 0)])):=aB nT;have eT:upd Hc Tt (.tup [.int (i:Int),.int (ts.getD i 0)]) Tt=_:=av;generalize upd Hc Tt (.tup [.int (i:Int),.int (ts.getD i 0)])=H1 at sT eT ⊢;refine ⟨Tt,_,rfl,.of eT,rfl,_,_,rfl,_,_,rfl,rfl,?_⟩;have s1:=sc.trans sT;have Fd:=sT _ _ ec;refine ⟨_,rfl,b,rfl,⟨_,.of (s1 _ _ eb)⟩,?_⟩
  refine Jp (K:=K) (l:=b) (xs:=us.map V.int) (fun j σ Hd=>ai H Hd∧∃(v5 v6:Option V),σ=[some (.ref a),some (.ref b),some (.ref c),some (.int (i:Int)),some (.int (ts.getD i 0)),v5,v6]∧Hd c=some (.lst (((List.range N).map fun k=>bK i us.length (fun i=>ts.getD i 0) (fun j=>us.getD j 0) k+cK j (ts.getD i 0) (fun j=>us.getD j 0) i k).map V.int)))
   ⟨s1,_,_,rfl,?_⟩ (fun i σ Hc ⟨z,_⟩=>.of (z _ _ eb)) ?_ ?_
  ·rw [Fd]
   congr 5
   exact funext fun k=>(oG _).symm
  ·rintro j y σ Hd T2 hy ⟨sd,v5,v6,rfl,ed⟩ Ub
   have hj:j<us.length:=by have:=(cV.mp hy).1;simpa using this
   have ey:y=.int (us.getD j 0):=by rw [fV] at hy;simp [hj] at hy;rw [getD_at hj,hy]
   subst ey;have s2:ai Hd (upd Hd T2 (.tup [.int (j:Int),.int (us.getD j 0)])):=aB Ub;have e2:upd Hd T2 (.tup [.int (j:Int),.int (us.getD j 0)]) T2=_:=av;generalize upd Hd T2 (.tup [.int (j:Int),.int (us.getD j 0)])=H2 at s2 e2 ⊢;have kU:=s2 _ _ ed;have hN:i+j<N:=by lia
   have ei:(i:Int)+(j:Int)=((i+j:Nat):Int):=by lia
   refine ⟨T2,_,rfl,.of e2,rfl,_,_,rfl,_,_,rfl,rfl,?_⟩;refine ⟨_,rfl,_,rfl,_,rfl,_,_,rfl,rfl,c,_,_,.int (bK i us.length (fun i=>ts.getD i 0) (fun j=>us.getD j 0) (i+j)+cK j (ts.getD i 0) (fun j=>us.getD j 0) i (i+j)),rfl,rfl,by lia,.of kU,(by rw [ei];exact i8 (by simp [hN])),_,rfl,_,rfl,_,_,rfl,rfl,⟨mt _ (by rw [getD_at hi];exact gD hi),mu _ (by rw [getD_at hj];exact gD hj)⟩,_,_,rfl,rfl,c,_,_,i+j,rfl,rfl,kU,?_,?_⟩
   ·rw [ei]
    unfold hV;rw [ar (by lia),ar (by simp;lia),dM]
   refine ⟨kD (sd.trans s2) LG,_,_,rfl,?_⟩;rw [av,Rt hN]
   congr 4
   exact funext fun k=>by unfold cK;rw [gw];dsimp only;lia
  ·rintro σ Hd ⟨sd,v5,v6,rfl,ed⟩
   refine ⟨sd,_,_,_,_,rfl,?_⟩;rw [ed,aT]
   congr 4
   exact funext fun k=>by unfold bK;rw [gw]
 ·rintro σ Hc ⟨sc,v3,v4,v5,v6,rfl,ec⟩
  rw [aT] at ec;refine ⟨_,rfl,k c Hc sc LG ?_⟩;unfold gQ;rw [ec,eN]
theorem Uc:bp ["world","one","other","lead","left","by","much","place","head","less"] ["world","one","other"] (aM Av):=bJ
theorem LH(T:Txt K mg t):aW P w K mg base bR 5 t.p9 t.tW ["world","one","other"] (Sh t.a_):=by
 have S:=Uc;have oi:=Fb (P:=P) (w:=w) (base:=base) T;refine T.qW.cw S (fun _ _ _ _ H _ _ _ hr h=>?_);obtain ⟨z,a,b,q,ts,us,TT,U,rfl,hz,hq,ea,eb,T_,Ua,u1,hT,hU,Jx,xl,oj,LI,lz,tz,k⟩:=h
 refine ⟨_,(ak (m8 3 S.nd (aA bQ (pv 2) (jy jz ah)))
  (ak (putL 4 S.nd (pv 1))
  (ak (putL 5 S.nd (cy af))
  (ak (putL 6 S.nd ah)
  (ak (i6 eS rfl (RH rfl T.gz (aa (au eF (bq cq rfl T.ck cn (aa (pv 1) af)) (bq cq rfl T.ck cn (aa (pv 2) af))) (aa (jy jz ah) (aa (jy jz ah) af)))) (eE (i:=7) S.nd rfl (Or.inl rfl))
   (ak (m8 8 S.nd (aA bQ (pv 4) (jy jz ah)))
  (ak (putL 9 S.nd (au lL (au wQ (cy (aa ah af)) (pv 7)) (kA (N:=["number","head"]) (ρ:=(fun σ=>[σ[8]?.join])) (gM [8] rfl) rfl (km (sP sR (pv 2) sN (sO (jy jz ah)))) (fun _ _ _=>.nil) (fun _ _ _=>(au fL (pv 1) (pv 0))))))
  (ak (putL 4 S.nd (fJ (pv 0) T.dq T.mj oi (hr.mono (by decide)) T.rA .nil ay (aa (IS (N:=["a","b","lead"]) (ρ:=(fun σ=>[σ[3]?.join])) (Dy [3] rfl) rfl (Dv rfl T.Br (aa (pv 4) (aa (pv 9) af))) (fun _ _ _=>.nil) (fun _ _ _=>(au eF (au fL (pv 2) (pv 0)) (pv 1)))) (aa ah af))))
  (ak (putL 5 S.nd (fJ (pv 0) T.dq T.mj oi (hr.mono (by decide)) T.rA .nil ay (aa (au lL (cy (aa (pv 8) af)) (kA (N:=["number","lead"]) (ρ:=(fun σ=>[σ[3]?.join])) (gM [3] rfl) rfl (km (pv 5)) (fun _ _ _=>.nil) (fun _ _ _=>(au fL (pv 1) (pv 0))))) (aa ah af))))
  (aw (putL 6 S.nd (aA bQ (fJ (pv 0) T.dq T.mj oi (hr.mono (by decide)) T.rA .nil ay (aa (cy (aa (au fL (pv 6) (pv 3)) af)) (aa ah af))) ah))))))))
  (aw (aR (fI (aa (pv 5) (aa (pv 4) (aa (pv 6) af))))))))))),?_⟩
 obtain ⟨dz,hd⟩:=id hz;generalize lU:us.getD (us.length-1) 0=lead at lz;generalize hn:ts.length+1-us.length=n at oj k;have pU:∀i,i≤n→TT*(2*U) ^ i≤10 ^ 580:=fun i hi=>ae (d4 TT (dr (by lia) hi)) oj
 have xo:lead.natAbs≤10 ^ 580:=by rw [←lU];exact ae (nJ hU _) LI
 have Fe:aP lead:=fb (ae xo (by decide +kernel))
 refine ⟨_,rfl,_,rfl,b,us.map V.int,_,_,rfl,rfl,.of eb,zS u1,?_⟩;rw [lU];refine ⟨_,rfl,by show 0≤sizeLine;decide,fun l0 Ud=>?_⟩
 have s0:ai H (upd H l0 (.lst [])):=aB Ud;have vx:upd H l0 (.lst []) l0=some (.lst (([]:List Int).map V.int)):=av;generalize upd H l0 (.lst [])=H0 at s0 vx ⊢;dsimp only [bE];refine ⟨_,rfl,a,ts.map V.int,rfl,.inl (.of (s0 _ _ ea)),_,rfl,b,us.map V.int,rfl,.inl (.of (s0 _ _ eb)),_,_,rfl,rfl,_,rfl,_,rfl,_,_,rfl,⟨by simp;lia,by simp;lia,by decide,by decide⟩,?_⟩
 have en:((((ts.map V.int).length:Int)-((us.map V.int).length:Int)) - -1).toNat=n:=by rw [aT,aT];lia
 rw [en]
 refine RI (fun i σ Hc=>ai H Hc∧∃(l1 l2:Addr) (bs ls:List Int) (az:Int) (v7 v8 v9:Option V),σ=[some (.ref z),some (.ref a),some (.ref b),some (.int lead),some (.ref l2),some (.ref l1),some (.int az),v7,v8,v9]∧Hc l1=some (.lst (bs.map V.int))∧Hc l2=some (.lst (ls.map V.int))∧kJ q ts us TT U n i bs ls az∧(q=0→az=lead ^ i))
  ⟨s0,l0,a,[],ts,1,none,none,none,rfl,vx,s0 _ _ ea,kJ.start hq hT hn.symm,fun _=>(wd _).symm⟩ ?_ ?_
 ·rintro i σ Hc hi ⟨sc,l1,l2,bs,ls,az,v7,v8,v9,rfl,e1,e2,I,em⟩
  have ll:=I.ll;have lb:=I.lb;have xV:1≤ls.length:=by lia
  have bX:=pU i (by lia)
  have xW:∀x∈ls,x.natAbs≤10 ^ 580:=fun x hx=>ae (I.bl x hx) bX;have Ff:∀x∈bs,x.natAbs≤10 ^ 580:=fun x hx=>ae (ae (fW _ (by lia)) (I.bb x hx)) bX
  have Fg:az.natAbs≤10 ^ 580:=ae I.bm (ae (gi _ xl) bX);have Ue:∀x∈us,x.natAbs≤10 ^ 580:=fun x hx=>ae (hU x hx) LI;have vy:∀{x:Int},x.natAbs≤10 ^ 580→aP x:=fun h=>fb (ae h (by decide +kernel))
  have hm:∀x∈e7 (n-1-i) (ls.getD (ls.length-1) 0) us,x.natAbs≤TT*(2*U) ^ i*U:=fun x hx=>by
   unfold e7 at hx;rcases ik.mp hx with z | z;·rw [(yR.mp z).2];exact b9 _
   ·obtain ⟨u,kF,e⟩:=fE.mp z
    rw [←e,a8];exact bH (nJ I.bl _) (hU u (List.dropLast_subset _ kF))
  have Fh:lead.natAbs≤U:=by rw [←lU];exact nJ hU _
  have Ug:TT*(2*U) ^ i*U+TT*(2*U) ^ i*U≤10 ^ 580:=by
   have:=pU (i+1) (by lia)
   rw [fF,←mH] at this;have e:TT*(2*U) ^ i*(2*U)=TT*(2*U) ^ i*U+TT*(2*U) ^ i*U:=by grind
   rw [←e];exact this
  have iL:∀x∈bs,(lead*x).natAbs≤10 ^ 580:=fun x hx=>by rw [a8,jq];exact ae (ae (d4 _ (ae Fh (show U≤2*U by lia))) (I.bb x hx)) (pU i (by lia))
  have Uh:(az*lead).natAbs≤10 ^ 580:=by rw [a8];exact ae (bH (ae I.bm (gi _ xl)) Fh) (by lia)
  have I':=I.step hq hn.symm hi u1 hU Jx xl (by rw [lU];exact lz) (tz (by lia))
  rw [lU] at I';have ep:(((ts.map V.int).length:Int)-((us.map V.int).length:Int))-(i:Int)=((n-1-i:Nat):Int):=by rw [aT,aT];lia
  rw [ep];refine ⟨_,rfl,_,rfl,l2,ls.map V.int,_,_,rfl,rfl,.of e2,zS xV,?_⟩;generalize tJ:ls.getD (ls.length-1) 0=head at I';have xn:head.natAbs≤10 ^ 580:=by rw [←tJ];exact nJ xW _
  generalize hJ:n-1-i=place at I';dsimp only [bE];simp only [d5,d6];refine ⟨by show 1≤sizeLine;decide,fun la Fi=>?_⟩
  have sa:ai Hc (upd Hc la (.lst [.int 0])):=aB Fi;refine ⟨_,rfl,la,(place:Int),[.int 0],rfl,rfl,av,by lia,by lia,?_,fun lr Ui=>?_⟩
  ·rw [dM]
   exact ae (show [V.int 0].length*place≤200 by simp;lia) (by decide)
  rw [DW];have sr:ai Hc (upd (upd Hc la (.lst [.int 0])) lr (.lst ((List.replicate place (0:Int)).map V.int))):=sa.trans (aB Ui);have LJ:upd (upd Hc la (.lst [.int 0])) lr (.lst ((List.replicate place (0:Int)).map V.int)) lr=some (.lst ((List.replicate place (0:Int)).map V.int)):=av;generalize upd (upd Hc la (.lst [.int 0])) lr (.lst ((List.replicate place (0:Int)).map V.int))=Hd at sr LJ ⊢;refine xp (ts:=us.dropLast) (fun u=>head*u) (by rw [List.length_dropLast];lia) (fun R h=>⟨_,rfl,_,rfl,_,rfl,b,_,rfl,.of (sr _ _ (sc _ _ eb)),fun r nr=>?_⟩) ?_ ?_
  ·rw [RT,List.map_dropLast] at *
   exact ⟨r,rfl,⟨_,.of av⟩,h _ _ (aB nr) (ny (.of av))⟩
  ·intro u hu Hx R sx kx
   exact ⟨_,rfl,_,rfl,_,_,rfl,rfl,⟨vy xn,vy (Ue u (List.dropLast_subset _ hu))⟩,kx Hx (ai.refl _)⟩
  intro D He nD se eD;refine ⟨lr,D,_,_,rfl,rfl,se _ _ LJ,eD,?_,fun xX Uj=>?_⟩
  ·rw [aT,aT,aT,g9,List.length_dropLast]
   exact ae (show _≤300 by lia) (by decide)
  have eL:(List.replicate place (0:Int)).map V.int++(us.dropLast.map fun u=>head*u).map V.int=(e7 place head us).map V.int:=by unfold e7;rw [rZ]
  rw [eL];have s1:ai Hc (upd He xX (.lst ((e7 place head us).map V.int))):=sr.trans (se.trans (aB Uj));have Fj:upd He xX (.lst ((e7 place head us).map V.int)) xX=some (.lst ((e7 place head us).map V.int)):=av;dsimp only [bE];generalize upd He xX (.lst ((e7 place head us).map V.int))=Hf at s1 Fj ⊢;simp only [d5,d6];rw [tJ,hJ] at hm;have mZ:=s1 _ _ (sc _ _ hd);refine iG (du ⟨_,rfl,z,dz,_,rfl,mZ,fM (by decide +kernel),Jz (xs:=ls) (ys:=e7 place head us) (fun x y=>lead*x-y) (by lia) (fun R h=>⟨_,rfl,_,rfl,l2,xX,rfl,⟨_,.of (s1 _ _ e2)⟩,⟨_,.of Fj⟩,h _ _ (ai.refl _) (DD (.of (s1 _ _ e2)) (.of Fj))⟩) ?_ ?_⟩)
  ·intro x y kW Hx R sx kx
   exact ⟨_,rfl,_,rfl,_,_,rfl,rfl,⟨Fe,vy (xW x (rR kW).1)⟩,_,rfl,_,_,rfl,rfl,kx Hx (ai.refl _)⟩
  intro D2 Hg sg Uk;dsimp only [cX,tC,fH,oB];refine D_ ⟨dz,sg _ _ mZ⟩ hq Uk ?_ ?_ fun c2 Hh sh Bx Ul=>?_;·rw [aT,yQ];lia
  ·intro x hx
   obtain ⟨ab,DU,rfl⟩:=fE.mp hx;have m:=rR DU;have b1:(lead*ab.1).natAbs≤TT*(2*U) ^ i*U:=by rw [a8,jq];exact bH (I.bl _ m.1) Fh
   have b2:=hm _ m.2;exact fb (ae (ae (Int.natAbs_sub_le ..) (ae (oH b1 b2) Ug)) (by decide +kernel))
  have s2:=s1.trans (sg.trans sh);have LK:=s2 _ _ (sc _ _ hd);dsimp only [bE];simp only [d5,d6];refine iG (du ⟨_,rfl,z,dz,_,rfl,LK,fM (by decide +kernel),_,rfl,by show 1≤sizeLine;decide,fun lh LM=>?_⟩)
  have s3:ai Hc (upd Hh lh (.lst [.int head])):=s2.trans (aB LM);have LN:ai Hh (upd Hh lh (.lst [.int head])):=aB LM;have LO:upd Hh lh (.lst [.int head]) lh=some (.lst (([head]:List Int).map V.int)):=av;generalize upd Hh lh (.lst [.int head])=Hi at s3 LO LN ⊢;refine xp (ts:=bs) (fun x=>lead*x) (by lia) (fun R h=>⟨_,rfl,l1,rfl,⟨_,.of (s3 _ _ e1)⟩,h _ _ (ai.refl _) (ny (.of (s3 _ _ e1)))⟩) ?_ ?_
  ·intro x hx Hx R sx kx
   exact ⟨_,rfl,_,rfl,_,_,rfl,rfl,⟨Fe,vy (Ff x hx)⟩,kx Hx (ai.refl _)⟩
  intro D3 Hj nD3 sj Um;refine ⟨lh,D3,_,_,rfl,rfl,sj _ _ LO,Um,?_,fun lc Uo=>?_⟩
  ·rw [aT,aT,aT]
   exact ae (show _≤300 by simp;lia) (by decide)
  rw [←rZ];have sl:ai Hj (upd Hj lc (.lst ((([head]:List Int)++bs.map fun x=>lead*x).map V.int))):=aB Uo;have LP:upd Hj lc (.lst ((([head]:List Int)++bs.map fun x=>lead*x).map V.int)) lc=some (.lst ((([head]:List Int)++bs.map fun x=>lead*x).map V.int)):=av;generalize upd Hj lc (.lst ((([head]:List Int)++bs.map fun x=>lead*x).map V.int))=Hk at sl LP ⊢;have sk:=LN.trans (sj.trans sl);dsimp only [cX,tC,fH,oB];refine D_ ⟨dz,sk _ _ LK⟩ hq LP (by simp;lia) ?_ fun c3 Hl Cu LQ Fl=>?_
  ·intro x hx
   rcases ik.mp hx with z | z;·rw [iV.mp z];exact vy xn
   ·obtain ⟨u,kF,e⟩:=fE.mp z
    rw [←e];exact fb (ae (iL u kF) (by decide +kernel))
  have LR:=sk.trans Cu;have s4:=s2.trans LR;have LS:=s4 _ _ (sc _ _ hd);dsimp only [bE];simp only [d5,d6];refine ⟨_,rfl,z,dz,_,rfl,LS,fM (by decide +kernel),_,rfl,_,rfl,_,_,rfl,rfl,⟨vy Fg,Fe⟩,by show 1≤sizeLine;decide,fun lm Up=>?_⟩
  have sm:ai Hl (upd Hl lm (.lst [.int (az*lead)])):=aB Up;dsimp only [cX,tC,fH,oB];refine D_ (ts:=[az*lead]) ⟨dz,sm _ _ LS⟩ hq av (by simp) (fun x hx=>?_) fun c4 Hm Uq Fm Ur=>?_
  ·rw [iV.mp hx]
   exact fb (ae Uh (by decide +kernel))
  refine ⟨c4,_,_,_,rfl,rfl,.of Ur,rfl,?_⟩;have s5:=sm.trans Uq;exact ⟨sc.trans (s4.trans s5),c3,c2,_,_,_,_,_,_,rfl,s5 _ _ Fl,(LR.trans s5) _ _ Ul,I',fun z=>by subst z;show (az*lead) % 0=_;rw [Int.emod_zero,em rfl,we]⟩
 ·rintro σ Hc ⟨sc,l1,l2,bs,ls,az,v7,v8,v9,rfl,e1,e2,I,em⟩
  refine ⟨_,rfl,_,rfl,_,rfl,by show 3≤sizeLine;decide,fun p np=>?_⟩
  have sp:ai Hc (upd Hc p (.tup [.ref l1,.ref l2,.int az])):=aB np;exact k p l1 l2 bs ls az _ (sc.trans sp) av (sp _ _ e1) (sp _ _ e2) I (by rw [lU];exact em)
theorem Us:bp ["row","many"] ["row"] (aM Ar):=bJ
theorem LU(T:Txt K mg t):aW P w K mg base bR 1 t.pX t.tR ["row"] Se:=by
 have S:=Us;refine T.qU.cw S (fun _ _ _ _ H _ _ _ hr h=>?_);obtain ⟨a,ts,rfl,ea,Bu,k⟩:=h;have hu:=hr.wL
 refine ⟨_,(ak (putL 1 S.nd (bq cq rfl T.ck cn (aa (pv 0) af)))
  (ak (mT eS (PW.pt (pw_and (bG jA (pv 1) ah) (pw_and1 (bG dW (aA bQ (pv 0) (au eF (pv 1) ah)) ah)))) (aw (y6 (i:=1) S.nd rfl (Or.inl rfl) ah G_)))
  (aw (aR (sP sR (pv 0) sN (sO (pv 1))))))),?_⟩
 have lm:(ts.map V.int).length=ts.length:=aT _;refine ⟨_,rfl,a,_,rfl,.inl (.of ea),?_⟩;rw [lm];refine ⟨fun c σ Hc=>ai H Hc∧c≤ts.length∧(∀j,c≤j→ag ts j=0)∧σ=[some (.ref a),some (.int (c:Int))],⟨ts.length,ai.refl H,aJ _,fun j hj=>da hj,rfl⟩,?_⟩;rintro c σ Hc ⟨sc,hc,hz,rfl⟩;refine ⟨_,rfl,_,_,rfl,rfl,_,rfl,b5 (fun h0=>?_) (fun h0=>?_)⟩
 ·have h0:(0:Int)<(c:Int):=dm h0
  obtain ⟨d,rfl⟩:∃d,c=d+1:=⟨c-1,by lia⟩
  have hd:d<ts.length:=by lia
  refine ⟨_,rfl,_,rfl,_,_,rfl,rfl,a,ts.map V.int,_,.int ts[d],rfl,rfl,.of (sc _ _ ea),(by show dD (ts.map V.int) (((d+1:Nat):Int)-1)=_;rw [show ((d+1:Nat):Int)-1=(d:Int) by lia];exact i8 (by rw [fV,List.getElem?_eq_getElem hd];rfl)),?_⟩
  have LV:ag ts d=ts[d]:=getD_at hd;refine ⟨rfl,_,rfl,b5 (fun hb=>?_) (fun hb=>?_)⟩
  ·have z:ts[d]=0:=by rw [pB] at hb;exact dm hb
   refine ⟨fun σ' H2=>ai H H2∧σ'=[some (.ref a),some (.int (d:Int))],?_,?_⟩
   ·rintro σ' H2 ⟨s2,rfl⟩
    refine ⟨d,by lia,s2,by lia,fun j hj=>?_,rfl⟩
    by_cases e:j=d;·rw [e,LV];exact z
    ·exact hz j (by lia)
   ·exact ⟨_,rfl,_,_,rfl,rfl,sc,by show List.set _ 1 (some (V.int (((d+1:Nat):Int)-1)))=_;rw [show ((d+1:Nat):Int)-1=(d:Int) by lia];rfl⟩
  ·refine ⟨_,rfl,_,rfl,_,rfl,a,_,rfl,.of (sc _ _ ea),fun r nr=>?_⟩
   rw [tG _ (d+1) (by rw [lm];lia),←List.map_take]
   refine k r _ (d+1) (sc.trans (aB nr)) (none_of sc nr) hc hz (fun _ e=>hb ?_) av;rw [pB];rw [show d+1-1=d by lia,LV] at e
   exact dG e
 ·have h0:¬(0:Int)<(c:Int):=fun z=>h0 (dG z)
  have c0:c=0:=by lia
  subst c0;refine ⟨_,rfl,_,rfl,_,rfl,a,_,rfl,.of (sc _ _ ea),fun r nr=>?_⟩;rw [tG _ 0 (by lia),←List.map_take]
  exact k r _ 0 (sc.trans (aB nr)) (none_of sc nr) hc hz (fun z=>absurd z (by lia)) av
theorem Ut:bp ["number","times","told","turn"] ["number","times"] (aM Aw):=bJ
theorem Fn(T:Txt K mg t):aW P w K mg base bR 1 t.p_ t.tX ["number","times"] Sf:=by
 have S:=Ut;refine T.nZ.cw S (fun _ _ _ _ H _ _ _ hr h=>?_);obtain ⟨x,n,rfl,n0,n1,bd,bx,k⟩:=h
 refine ⟨_,(ak (putL 2 S.nd ah)
  (ak (i6 eS rfl (hE rfl T.gz (aa (pv 1) af)) (eE (i:=3) S.nd rfl (Or.inl rfl))
   (aw (y6 (i:=2) S.nd rfl (Or.inl rfl) (pv 0) Sa)))
  (aw (aR (pv 2))))),?_⟩
 refine fP fun _ hR=>du (hR _ _ ?_);refine fP fun _ hR=>⟨_,rfl,n,rfl,by lia,by lia,?_⟩
 refine sG (fun i σ Hc=>∃(v3:Option V),σ=[some (.int x),some (.int n),some (.int (x ^ i)),v3]∧Hc=H) ⟨_,by rw [wd];rfl,rfl⟩ ?_ ?_
 ·rintro i σ Hc hi ⟨v3,rfl,rfl⟩
  refine ⟨_,rfl,_,rfl,_,_,rfl,rfl,⟨fb (bd i (by lia)),fb bx⟩,⟨some (.int (0+(i:Int))),?_,rfl⟩⟩
  rw [we];rfl
 ·rintro σ Hc ⟨v3,rfl,rfl⟩
  exact hR _ _ ⟨_,rfl,k⟩
theorem Uu:bp ["one","other","many"] ["one","other"] (aM Au):=bJ
theorem Uv(T:Txt K mg t):aW P w K mg base bR 1 t.pZ t.tV ["one","other"] Sg:=by
 have S:=Uu;refine T.uS.cw S (fun _ _ _ _ H _ _ _ hr h=>?_);obtain ⟨a,b,ts,us,rfl,ea,eb,l1,l2,k⟩:=h
 refine ⟨_,(ak (putL 2 S.nd (bq (HD rfl) rfl T.E6 boot_max (aa (bq cq rfl T.ck cn (aa (pv 0) af)) (aa (bq cq rfl T.ck cn (aa (pv 1) af)) af))))
  (aw (aR (IS (N:=["a","b"]) (ρ:=(fun σ=>[])) (Dy [] rfl) rfl (Dv rfl T.Br (aa (au lL (pv 0) (au wQ (cy (aa ah af)) (au eF (pv 2) (bq cq rfl T.ck cn (aa (pv 0) af))))) (aa (au lL (pv 1) (au wQ (cy (aa ah af)) (au eF (pv 2) (bq cq rfl T.ck cn (aa (pv 1) af))))) af))) (fun _ _ _=>.nil) (fun _ _ _=>(au eF (pv 0) (pv 1))))))),?_⟩
 refine fP fun _ hR=>du ⟨_,rfl,a,_,rfl,.inl (.of ea),_,rfl,b,_,rfl,.inl (.of eb),_,_,rfl,hR _ _ ?_⟩;rw [aT,aT];obtain ⟨N,eN⟩:∃N:Nat,N=max ts.length us.length:=⟨_,rfl⟩;rw [show (if ((us.length:Nat):Int)>((ts.length:Nat):Int) then ((us.length:Nat):Int) else ((ts.length:Nat):Int))=(N:Int) by rw [eN];split <;> lia]
 refine xb (Jz (xs:=ts++List.replicate (N-ts.length) 0) (ys:=us++List.replicate (N-us.length) 0) (fun x y=>x-y) (by rw [jo,g9];lia) (fun R h=>?_) ?_ fun D He se eD=>?_)
 ·refine ⟨_,rfl,?_⟩
  refine ⟨by show 1≤sizeLine;decide,fun la Fi=>?_⟩
  have sa:ai H (upd H la (.lst [.int 0])):=aB Fi;refine ⟨_,rfl,_,rfl,a,_,rfl,.inl (.of (sa _ _ (ea))),_,_,rfl,rfl,?_⟩;rw [show (fun i j:Int=>V.int (i-j)) (N:Int) ((ts.map V.int).length:Int)=V.int ((N-ts.length:Nat):Int) by
   show V.int _=V.int _;rw [aT]
   congr 1
   lia]
  refine ⟨la,((N-ts.length:Nat):Int),[.int 0],rfl,rfl,av,by lia,by lia,?_,fun ra Uw=>?_⟩
  ·rw [dM]
   exact ae (show [V.int 0].length*_≤200 by simp;lia) (by decide)
  rw [DW];have ta:ai H (upd (upd H la (.lst [.int 0])) ra (.lst ((List.replicate (N-ts.length) (0:Int)).map V.int))):=sa.trans (aB Uw);have era:upd (upd H la (.lst [.int 0])) ra (.lst ((List.replicate (N-ts.length) (0:Int)).map V.int)) ra=some (.lst ((List.replicate (N-ts.length) (0:Int)).map V.int)):=av;generalize upd (upd H la (.lst [.int 0])) ra (.lst ((List.replicate (N-ts.length) (0:Int)).map V.int))=H1 at ta era ⊢;refine ⟨a,ra,_,_,rfl,rfl,ta _ _ (ea),era,?_,fun ca Fo=>?_⟩
  ·rw [aT,aT,g9]
   exact ae (show _≤500 by lia) (by decide)
  rw [←rZ];have ua:ai H (upd H1 ca (.lst ((ts++List.replicate (N-ts.length) 0).map V.int))):=ta.trans (aB Fo);have Fp:upd H1 ca (.lst ((ts++List.replicate (N-ts.length) 0).map V.int)) ca=some (.lst ((ts++List.replicate (N-ts.length) 0).map V.int)):=av;generalize upd H1 ca (.lst ((ts++List.replicate (N-ts.length) 0).map V.int))=rC at ua Fp ⊢;refine ⟨_,rfl,?_⟩;refine ⟨by show 1≤sizeLine;decide,fun lb Ux=>?_⟩
  have sb:ai rC (upd rC lb (.lst [.int 0])):=aB Ux;refine ⟨_,rfl,_,rfl,b,_,rfl,.inl (.of (sb _ _ (ua _ _ eb))),_,_,rfl,rfl,?_⟩;rw [show (fun i j:Int=>V.int (i-j)) (N:Int) ((us.map V.int).length:Int)=V.int ((N-us.length:Nat):Int) by
   show V.int _=V.int _;rw [aT]
   congr 1
   lia]
  refine ⟨lb,((N-us.length:Nat):Int),[.int 0],rfl,rfl,av,by lia,by lia,?_,fun rb Uy=>?_⟩
  ·rw [dM]
   exact ae (show [V.int 0].length*_≤200 by simp;lia) (by decide)
  rw [DW];have tb:ai rC (upd (upd rC lb (.lst [.int 0])) rb (.lst ((List.replicate (N-us.length) (0:Int)).map V.int))):=sb.trans (aB Uy);have LW:upd (upd rC lb (.lst [.int 0])) rb (.lst ((List.replicate (N-us.length) (0:Int)).map V.int)) rb=some (.lst ((List.replicate (N-us.length) (0:Int)).map V.int)):=av;generalize upd (upd rC lb (.lst [.int 0])) rb (.lst ((List.replicate (N-us.length) (0:Int)).map V.int))=H2 at tb LW ⊢;refine ⟨b,rb,_,_,rfl,rfl,tb _ _ (ua _ _ eb),LW,?_,fun cb Fq=>?_⟩
  ·rw [aT,aT,g9]
   exact ae (show _≤500 by lia) (by decide)
  rw [←rZ];have ub:ai rC (upd H2 cb (.lst ((us++List.replicate (N-us.length) 0).map V.int))):=tb.trans (aB Fq);have Fs:upd H2 cb (.lst ((us++List.replicate (N-us.length) 0).map V.int)) cb=some (.lst ((us++List.replicate (N-us.length) 0).map V.int)):=av;generalize upd H2 cb (.lst ((us++List.replicate (N-us.length) 0).map V.int))=H2' at ub Fs ⊢;exact ⟨ca,cb,rfl,⟨_,.of (ub _ _ Fp)⟩,⟨_,.of Fs⟩,h _ _ (ua.trans ub) (DD (.of (ub _ _ Fp)) (.of Fs))⟩
 ·intro x y kW Hx R sx kx
  exact ⟨_,rfl,_,rfl,_,_,rfl,rfl,kx Hx (ai.refl _)⟩
 ·have pad:∀(xs:List Int) (m t:Nat),ag (xs++List.replicate m 0) t=ag xs t:=fun xs m t=>by
   unfold ag;rw [fD,fD];by_cases h:t<xs.length;·rw [ip h]
   ·rw [g8 (by lia),k9 (l:=xs) (by lia),k6]
    split <;> rfl
  refine k D He _ se eD ?_ fun t=>?_
  ·simp
   lia
  ·have e:ag (((ts++List.replicate (N-ts.length) 0).zip (us++List.replicate (N-us.length) 0)).map fun ab:Int×Int=>ab.1-ab.2) t=ag (ts++List.replicate (N-ts.length) 0) t-ag (us++List.replicate (N-us.length) 0) t:=by
    have lz:((ts++List.replicate (N-ts.length) 0).zip (us++List.replicate (N-us.length) 0)).length=N:=by simp;lia
    have la:(ts++List.replicate (N-ts.length) 0).length=N:=by simp;lia
    have lb:(us++List.replicate (N-us.length) 0).length=N:=by simp;lia
    unfold ag;by_cases h:t<N;·rw [getD_at (by simpa [lz] using h),getD_at (by lia),getD_at (by lia),ju,List.getElem_zip]
    ·rw [dw (by simp;lia),dw (by lia),dw (by lia)]
     rfl
   rw [e,pad,pad]
theorem Uz:bp ["world","last","now","by","much","least","left"] ["world","last","now","by","much","least"] (aM Ax):=bJ
theorem UA(T:Txt K mg t):aW P w K mg base bR 5 t.qa t.tY ["world","last","now","by","much","least"] (JZ t.a_):=by
 have S:=Uz;have oi:=Fb (P:=P) (w:=w) (base:=base) T;refine T.uT.cw S (fun _ _ _ _ H _ _ _ hr h=>?_);obtain ⟨z,a,b,c,q,xs,ys,bs,az,least,u,rfl,hz,hq,ea,eb,ec,l1,l2,l3,bx,UB,bb,bc,bm,bl,nl,e,k⟩:=h
 refine ⟨_,(ak (putL 6 S.nd (aD (Uv T) hr T.Ky T.uS.kp T.Kx ay (aa (kA (N:=["number","much"]) (ρ:=(fun σ=>[σ[4]?.join])) (gM [4] rfl) rfl (km (pv 1)) (fun _ _ _=>.nil) (fun _ _ _=>(au fL (pv 1) (pv 0)))) (aa (aD (LD T) hr T.EF T.qV.kp T.EE ay (aa (pv 3) (aa (pv 2) af))) af))))
  (aw (aR (aD (LU T) hr T.ED T.qU.kp T.EC ay (aa (fJ (pv 0) T.dq T.mj oi (hr.mono (by decide)) T.rA .nil ay (aa (pv 6) (aa (pv 5) af))) af))))),?_⟩
 have fR:∀{Hx:Hp},ai H Hx→dg t.a_ Hx z q:=fun sx=>hz.mono sx;refine fP fun _ hR=>du ?_;dsimp only [o6];refine Sb (xp (ts:=xs) (fun x=>az*x) (by lia) (fun R h=>⟨_,rfl,a,rfl,⟨_,.of ea⟩,h _ _ (ai.refl _) (ny (.of ea))⟩) ?_ ?_)
 ·intro x hx Hx R sx kx
  exact ⟨_,rfl,_,rfl,_,_,rfl,rfl,⟨fb bm,fb (bx x hx).1⟩,kx Hx (ai.refl _)⟩
 intro D H1 nD s1 eD;have UC:=s1 _ _ eb;have Fd:=s1 _ _ ec;refine ⟨_,rfl,_,rfl,c,b,bs,ys,rfl,Fd,UC,(fun t h=>fb (bb t h)),(fun t h=>fb (UB t h)),by lia,by lia,fun d H2 s2 nd ed=>?_⟩
 refine ⟨D,d,_,_,rfl,s2 _ _ eD,ed,by rw [aT];lia,by unfold gQ;rw [aT,gI];lia,fun e' H3 ls s3 ee le ve=>hR _ _ ?_⟩
 have gA:=s1.trans (s2.trans s3);have vl:∀t,ag ls t=az*ag xs t-cv (ag bs) (ag ys) t:=fun t=>by
  rw [ve,R4]
  congr 1
  exact xk (by simp) t
 obtain ⟨dz,hd⟩:=fR gA;have cl:(gQ bs ys).length≤bs.length+ys.length-1:=by unfold gQ;rw [aT,gI];lia
 have ll:ls.length≤max xs.length (bs.length+ys.length-1):=by rw [le,aT];lia
 have UD:∀x∈ls,aP x:=fun x hx=>by
  obtain ⟨t,ht,rfl⟩:=iu hx;have e1:=vl t;rw [show ag ls t=ls[t] from getD_at ht] at e1;rw [e1];have b1:(az*ag xs t).natAbs≤10 ^ 599:=by
   by_cases h:t<xs.length
   ·rw [show ag xs t=xs[t] from getD_at h]
    exact (bx _ (gD h)).2
   ·rw [da (by lia),cJ]
    exact b9 _
  exact fb (ae (Int.natAbs_sub_le ..) (ae (oH b1 (bc t)) (by decide +kernel)))
 refine ⟨_,rfl,z,dz,_,rfl,hd,fM (by decide +kernel),⟨_,rfl,_,rfl,z,e',q,ls,least,u,rfl,fR gA,hq,ee,by lia,UD,fb bl,nl,fun t _=>by rw [show ls.getD t 0=ag ls t from rfl,vl];exact e t,fun g H4 rs s4 ng eg lr UE nn=>?_⟩⟩
 refine ⟨g,rs,rfl,eg,by lia,fun r H5 k5 s5 nr hk Ft hn er=>?_⟩
 obtain ⟨UG,UH,ek⟩:=JY (q:=q) nn hk hn Ft;refine k r H5 (rs.take k5) (gA.trans (s4.trans s5)) (none_of (gA.trans s4) nr) er (by rw [mD];lia) (fun t=>?_) UG UH
 rw [ek];by_cases h:t<ls.length;·exact UE t h
 ·rw [da (by lia)]
  have z1:=e t;rw [←vl t,da (by lia)] at z1
  refine (xu hq nl ?_).symm;rw [cJ];exact z1.symm
theorem UI:bp ["cell","at","x"] ["cell","at"] (aM AW):=bJ
theorem UJ(T:Txt K mg t):aW P w K mg base bR 1 t.qy t.uv ["cell","at"] Q9:=by
 have S:=UI;refine T.vb.cw S (fun _ _ _ _ H _ _ _ hr h=>?_);obtain ⟨c,a,rfl,ha,k⟩:=h
 refine ⟨_,(ak (bI (bG CT (pv 0) (au CQ ah ah)) (aw (aR (pv 0))) b8)
  (ak (putL 2 S.nd (au eX (au d8 (au d8 (au f9 (au eX (pv 0) ah) ah) (au f9 (pv 1) ah)) ah) ah))
  (ak (putL 2 S.nd (au eX (au d8 (au d8 (au d8 (au f9 (pv 2) (pv 2)) (au f9 ah (pv 2))) (pv 1)) ah) ah))
  (aw (aR (au d8 (au f9 (pv 2) ah) (au eX (au d8 (au d8 (au f9 (pv 2) (pv 2)) (au f9 ah (pv 1))) ah) ah))))))),?_⟩
 refine ⟨_,rfl,_,_,rfl,rfl,⟨by decide,by decide,by decide⟩,_,_,rfl,rfl,_,rfl,b5 (fun h=>?_) (fun h=>?_)⟩
 ·have h:=dm h
  exact ⟨_,rfl,k _ (Int.le_trans (by decide) h)⟩
 ·refine ⟨_,rfl,_,_,rfl,rfl,(by show (0:Int)<2147483647;decide),_,_,rfl,rfl,.inr ⟨by decide,by decide⟩,_,rfl,_,_,rfl,rfl,.inr ⟨by decide,by decide⟩,_,_,rfl,rfl,_,_,rfl,rfl,_,_,rfl,rfl,(by show (0:Int)<2147483399;decide),?_⟩
  have b0:=dA (c % 2147483647*40692+a*65539+7) (show (2147483399:Int)≠0 by decide)
  have b1:=dN (c % 2147483647*40692+a*65539+7) (show (0:Int)<2147483399 by decide)
  generalize (c % 2147483647*40692+a*65539+7) % 2147483399=x at b0 b1 ⊢;refine ⟨_,rfl,_,rfl,_,_,rfl,rfl,.inl ⟨by lia,by lia⟩,_,rfl,_,_,rfl,rfl,.inl ⟨by decide,by decide⟩,_,_,rfl,rfl,_,rfl,_,_,rfl,rfl,_,_,rfl,rfl,_,_,rfl,rfl,(by show (0:Int)<2147483563;decide),?_⟩
  have c0:=dA (x*x+40014*x+a+1) (show (2147483563:Int)≠0 by decide)
  have c1:=dN (x*x+40014*x+a+1) (show (0:Int)<2147483563 by decide)
  generalize (x*x+40014*x+a+1) % 2147483563=y at c0 c1 ⊢;refine ⟨_,rfl,_,_,rfl,rfl,.inr ⟨by decide,by decide⟩,_,rfl,_,rfl,_,_,rfl,rfl,.inl ⟨by lia,by lia⟩,_,rfl,_,_,rfl,rfl,.inl ⟨by decide,by decide⟩,_,_,rfl,rfl,_,_,rfl,rfl,_,_,rfl,rfl,(by show (0:Int)<2147483543;decide),_,_,rfl,rfl,k _ (Int.add_nonneg (Int.mul_nonneg (dA _ (by decide)) (by decide)) (dA _ (by decide)))⟩
theorem UK:bp ["pen","many","at","cell","found"] ["pen","many"] (aM AX):=bJ
theorem rD(T:Txt K mg t):aW P w K mg base bR 2 t.qz t.uw ["pen","many"] (Q_ K):=by
 have S:=UK;refine T.eO.cw S (fun _ _ _ _ H _ _ _ hr h=>?_);obtain ⟨P0,a,ns,many,rfl,⟨x,y,eP,hx,hy⟩,hS,m1,mm,k⟩:=h;have rE:=hr.units
 refine ⟨_,(ak (bI (bG kq (aA bQ (pv 0) ah) (pv 1)) (ak (putL 2 S.nd (aA bQ (pv 0) ah))
  (ak (putL 3 S.nd ah)
  (ak (bI (bG kq (pv 2) (bq cq rfl T.ck cn (aa (aA bQ (pv 0) ah) af))) (aw (putL 3 S.nd (aA bQ (aA bQ (pv 0) ah) (pv 2)))) (aw (bI (bG (Q7 rE) (aA bQ (pv 0) ah) (cy af)) (aw (putL 3 S.nd (au d8 (au eX (aA bQ (aA bQ (pv 0) ah) (au eX (au f9 (pv 2) ah) (bq cq rfl T.ck cn (aa (aA bQ (pv 0) ah) af)))) ah) (au f9 (pv 2) ah)))) b8)))
  (ak (@wI _ _ _ _ _ _ (au d8 (pv 2) ah) (wH (pv 0) ah set_list) (by rfl) (by rfl) (by rfl))
  (aw (@wI _ _ _ _ _ _ (aD (UJ T) hr T.K8 T.vb.kp T.K7 ay (aa (pv 3) (aa (pv 2) af))) (wH (pv 0) ah set_list) (by rfl) (by rfl) (by rfl))))))) b8)
  (ak (putL 4 S.nd (au eX (aA bQ (pv 0) ah) (pv 1)))
  (ak (@wI _ _ _ _ _ _ (au Dj (aA bQ (pv 0) ah) (pv 1)) (wH (pv 0) ah set_list) (by rfl) (by rfl) (by rfl))
  (aw (aR (pv 4)))))),?_⟩
 have By:=dZ.seq hS;refine ⟨_,rfl,P0,_,_,_,rfl,rfl,.of eP,rfl,_,rfl,_,_,rfl,rfl,_,rfl,b5 (fun cN=>?_) (fun cN=>?_)⟩
 ·refine ⟨_,rfl,P0,_,_,_,rfl,rfl,.of eP,rfl,?_⟩
  refine ⟨_,rfl,_,rfl,P0,_,_,_,rfl,rfl,.of eP,rfl,a,ns.map V.int,rfl,.inl By,_,_,rfl,rfl,_,rfl,b5 (fun h1=>?_) (fun h1=>?_)⟩
  ·have h1:x<((ns.map V.int).length:Int):=dm h1
   obtain ⟨v,hv,mv⟩:=Iy (xs:=ns.map V.int) hx h1;obtain ⟨c,_,rfl⟩:=fE.mp mv;refine ⟨_,rfl,P0,_,_,_,rfl,rfl,.of eP,rfl,_,rfl,a,ns.map V.int,_,_,rfl,rfl,By,hv,?_⟩;refine ⟨_,rfl,_,_,rfl,rfl,_,rfl,P0,_,1,1,rfl,rfl,eP,rfl,?_⟩;refine ⟨_,rfl,_,rfl,c,x,rfl,hx,fun r gX=>⟨_,rfl,P0,_,2,2,rfl,rfl,av,rfl,?_⟩⟩;have q0:=dA (r) (show many≠0 by lia)
   have q1:=dN (r) (show 0<many by lia)
   have q2:=wj (gX) (show 0≤many by lia)
   refine ⟨_,rfl,P0,_,_,_,rfl,rfl,.of av,rfl,_,rfl,_,_,rfl,rfl,(show 0<many by lia),?_⟩
   refine ⟨_,rfl,P0,_,_,_,rfl,rfl,.of av,rfl,_,rfl,_,_,rfl,rfl,⟨show 0<many by lia,mm⟩,_,rfl,P0,_,2,2,rfl,rfl,av,rfl,?_⟩
   exact ⟨_,rfl,k _ _ q0 q1 (((aL.refl H).trans aL.kH).trans (aL.kH.trans aL.kH)) ⟨x+1,r / many,av,by lia,q2⟩⟩
  ·refine ⟨_,rfl,P0,_,_,_,rfl,rfl,.of eP,rfl,by show 0≤sizeLine;decide,fun l nl=>?_⟩
   have sl:ai H (upd H l (.lst [])):=aB nl;refine ⟨a,l,ns.map V.int,rfl,rfl,sl.seq By,av,fun v hv=>?_,_,rfl,?_⟩
   ·obtain ⟨c,_,rfl⟩:=fE.mp hv
    exact ⟨c,rfl⟩
   have xY:=sl _ _ eP;have rF:=sl.seq By;generalize upd H l (.lst [])=H2 at sl xY rF ⊢;refine b5 (fun h2=>?_) (fun h2=>?_)
   ·have hl:0<(ns.map V.int).length:=by
     cases ns with
     | nil=>simp at h2
     | cons=>simp
    have UL:=dA (x*5) (show ((ns.map V.int).length:Int)≠0 by lia)
    have UM:=dN (x*5) (show (0:Int)<((ns.map V.int).length:Int) by lia)
    obtain ⟨v,hv,mv⟩:=Iy (xs:=ns.map V.int) UL UM;obtain ⟨c,_,rfl⟩:=fE.mp mv;refine ⟨_,rfl,P0,_,_,_,rfl,rfl,.of xY,rfl,_,rfl,_,_,rfl,rfl,.inr ⟨by decide,by decide⟩,_,rfl,P0,_,_,_,rfl,rfl,.of xY,rfl,a,ns.map V.int,rfl,.inl rF,_,_,rfl,rfl,(show (0:Int)<((ns.map V.int).length:Int) by lia),a,ns.map V.int,_,_,rfl,rfl,rF,hv,_,_,rfl,rfl,(show (0:Int)<1000003 by decide),_,rfl,_,_,rfl,rfl,.inr ⟨by decide,by decide⟩,_,_,rfl,rfl,?_⟩
    refine ⟨_,rfl,_,_,rfl,rfl,_,rfl,P0,_,1,1,rfl,rfl,xY,rfl,?_⟩;refine ⟨_,rfl,_,rfl,_,x,rfl,hx,fun r gX=>⟨_,rfl,P0,_,2,2,rfl,rfl,av,rfl,?_⟩⟩;have q0:=dA (r) (show many≠0 by lia)
    have q1:=dN (r) (show 0<many by lia)
    have q2:=wj (gX) (show 0≤many by lia)
    refine ⟨_,rfl,P0,_,_,_,rfl,rfl,.of av,rfl,_,rfl,_,_,rfl,rfl,(show 0<many by lia),?_⟩
    refine ⟨_,rfl,P0,_,_,_,rfl,rfl,.of av,rfl,_,rfl,_,_,rfl,rfl,⟨show 0<many by lia,mm⟩,_,rfl,P0,_,2,2,rfl,rfl,av,rfl,?_⟩
    exact ⟨_,rfl,k _ _ q0 q1 (((aL.of sl).trans aL.kH).trans (aL.kH.trans aL.kH)) ⟨x+1,r / many,av,by lia,q2⟩⟩
   ·
    refine ⟨_,rfl,_,_,rfl,rfl,_,rfl,P0,_,1,1,rfl,rfl,xY,rfl,?_⟩;refine ⟨_,rfl,_,rfl,0,x,rfl,hx,fun r gX=>⟨_,rfl,P0,_,2,2,rfl,rfl,av,rfl,?_⟩⟩;have q0:=dA (r) (show many≠0 by lia)
    have q1:=dN (r) (show 0<many by lia)
    have q2:=wj (gX) (show 0≤many by lia)
    refine ⟨_,rfl,P0,_,_,_,rfl,rfl,.of av,rfl,_,rfl,_,_,rfl,rfl,(show 0<many by lia),?_⟩
    refine ⟨_,rfl,P0,_,_,_,rfl,rfl,.of av,rfl,_,rfl,_,_,rfl,rfl,⟨show 0<many by lia,mm⟩,_,rfl,P0,_,2,2,rfl,rfl,av,rfl,?_⟩
    exact ⟨_,rfl,k _ _ q0 q1 (((aL.of sl).trans aL.kH).trans (aL.kH.trans aL.kH)) ⟨x+1,r / many,av,by lia,q2⟩⟩
 ·dsimp only [iy]
  have q0:=dA (y) (show many≠0 by lia)
  have q1:=dN (y) (show 0<many by lia)
  have q2:=wj (hy) (show 0≤many by lia)
  refine ⟨_,rfl,P0,_,_,_,rfl,rfl,.of eP,rfl,_,rfl,_,_,rfl,rfl,(show 0<many by lia),?_⟩
  refine ⟨_,rfl,P0,_,_,_,rfl,rfl,.of eP,rfl,_,rfl,_,_,rfl,rfl,⟨show 0<many by lia,mm⟩,_,rfl,P0,_,2,2,rfl,rfl,eP,rfl,?_⟩
  exact ⟨_,rfl,k _ _ q0 q1 (aL.kH) ⟨x,y / many,av,hx,q2⟩⟩
theorem UN:bp ["top","bottom","one","other"] ["top","bottom"] (aM AY):=bJ
theorem xZ(T:Txt K mg t):aW P w K mg base bR 1 t.qA t.ux ["top","bottom"] Qp:=by
 have S:=UN;refine T.kP.cw S (fun _ _ _ _ H _ Q _ hr h=>?_);obtain ⟨a,b,rfl,hb,mb,k⟩:=h
 refine ⟨_,(ak (putL 2 S.nd (bq zc rfl T.xS boot_abs (aa (pv 0) af)))
  (ak (putL 3 S.nd (bq zc rfl T.xS boot_abs (aa (pv 1) af)))
  (ak (mT eS (bG oV (pv 3) ah) (aw (N0 (i:=2) (j:=3) rfl S.nd rfl rfl (by decide) rfl rfl (aa (pv 3) (aa (au eX (pv 2) (pv 3)) af)) rfl)))
  (ak (bI (bG kq (pv 1) ah) (aw (putL 2 S.nd (jy jz (pv 2)))) b8)
  (aw (aR (fI (aa (au wZ (pv 0) (pv 2)) (aa (au wZ (pv 1) (pv 2)) af))))))))),?_⟩
 have ok:=IA (a:=a) hb mb;refine ⟨_,rfl,a,rfl,_,rfl,b,rfl,fun m σ H'=>H'=H∧∃(x y:Nat),σ=[some (.int a),some (.int b),some (.int (x:Int)),some (.int (y:Int))]∧m=y∧Nat.gcd x y=Int.gcd a b,⟨b.natAbs,rfl,a.natAbs,b.natAbs,?_,rfl,rfl⟩,?_⟩
 ·show [some (V.int a),some (V.int b),some (V.int (if a<0 then -a else a)),some (V.int (if b<0 then -b else b))]=_
  rw [zq,zq]
 ·rintro m σ H' ⟨rfl,x,y,rfl,em,hg⟩
  refine ⟨_,rfl,rfl,_,rfl,b5 (fun hy=>?_) (fun hy=>?_)⟩
  ·have hy:y≠0:=fun z=>by subst z;revert hy;decide
   refine ⟨fun σ' H2=>H2=H'∧σ'=[some (.int a),some (.int b),some (.int (y:Int)),some (.int (((x % y:Nat)):Int))],?_,?_⟩
   ·rintro σ' H2 ⟨rfl,rfl⟩
    exact ⟨x % y,by rw [em];exact Nat.mod_lt _ (by lia),rfl,y,x % y,rfl,rfl,by rw [Iz];exact hg⟩
   ·exact ⟨_,rfl,_,rfl,_,rfl,_,_,rfl,rfl,(show (0:Int)<y by lia),_,_,rfl,rfl,rfl⟩
  ·have y0:y=0:=by
    by_cases z:y=0;·exact z
    ·refine absurd ?_ hy
     rw [pB,fS (by lia)]
     rfl
   subst y0;rw [Nat.gcd_zero_right] at hg;have LX:∀(g:Int),g=lowG a b→∀(p:Addr),H' p=none→Q (.ref p) (upd H' p (.tup [.int (a.fdiv g),.int (b.fdiv g)])):=fun g e p hp=>by rw [e];exact k p _ (aB hp) av
   refine ⟨_,rfl,_,_,rfl,rfl,_,rfl,b5 (fun hn=>?_) (fun hn=>?_)⟩
   ·have hn:b<0:=dm hn
    have eg:-(x:Int)=lowG a b:=by unfold lowG;rw [ar hn,hg,rV]
    have gT:zk 0 (-(x:Int)):=by rw [eg];exact ok
    exact ⟨_,rfl,_,rfl,_,rfl,_,rfl,_,_,rfl,rfl,gT,_,rfl,_,rfl,_,_,rfl,rfl,gT,by show 2≤sizeLine;decide,LX _ eg⟩
   ·have hn:¬b<0:=fun z=>hn (dG z)
    have eg:(x:Int)=lowG a b:=by unfold lowG;rw [ao hn,hg]
    have gT:zk 0 (x:Int):=by rw [eg];exact ok
    exact ⟨_,rfl,_,rfl,_,_,rfl,rfl,gT,_,rfl,_,rfl,_,_,rfl,rfl,gT,by show 2≤sizeLine;decide,LX _ eg⟩
theorem UO:bp ["told","number"] ["told","number"] (aM AZ):=bJ
theorem vz(T:Txt K mg t){B:Nat}:aW P w K mg base bR 1 t.qB t.uy ["told","number"] (Jm B):=by
 have S:=UO;refine T.gW.cw S (fun _ _ _ _ H _ _ _ hr h=>?_);obtain ⟨td,q,i,rfl,ht,hq,bi,b1,k⟩:=h
 refine ⟨_,(ak (bI (bG dW (aA a9 (pv 0) ah) eV) (aw (aR (au eX (pv 1) (aA a9 (pv 0) ah)))) b8)
  (aw (aR (fI (aa (pv 1) (aa ah af)))))),?_⟩
 unfold dE at ht;by_cases z:q=0
 ·subst z
  rw [pL] at ht;refine ⟨_,rfl,td,_,_,_,rfl,rfl,.of ht,rfl,rfl,false,by decide +kernel,cQ ?_⟩
  refine ⟨_,rfl,by show 2≤sizeLine;decide,fun r nr=>k _ _ (aB nr) ?_⟩
  unfold cf;rw [ar rfl];exact .bS av ⟨show (1:Int)≤1 by decide,yN ..⟩ bi (by show Int.natAbs 1≤B;lia)
 ·rw [nH z] at ht
  obtain ⟨q2,q3,q4⟩:=hq.resolve_left z;refine ⟨_,rfl,td,_,_,_,rfl,rfl,.of ht,rfl,rfl,true,by decide +kernel,dI ?_⟩
  refine ⟨_,rfl,_,rfl,td,_,_,_,rfl,rfl,.of ht,rfl,_,_,rfl,rfl,(show 0<q by lia),k _ H (ai.refl H) ?_⟩
  unfold cf;rw [ao z];exact .rem (dA _ z) (dN _ (by lia)) q3
theorem UP:bp ["told","a","b"] ["told","a","b"] (aM A0):=bJ
theorem LY(T:Txt K mg t):aW P w K mg base bR 2 t.qC t.uz ["told","a","b"] (Jq nI):=by
 have S:=UP;refine T.rk.cw S (fun _ _ _ _ H _ _ _ hr h=>?_);obtain ⟨td,q,v,u,⟨x,m⟩,⟨y,n⟩,B,rfl,ht,hq,hv,hu,b1,x6,k⟩:=h
 refine ⟨_,(ak (bI (bG dW (aA a9 (pv 0) ah) eV) (aw (aR (au eX (au d8 (pv 1) (pv 2)) (aA a9 (pv 0) ah)))) b8)
  (aw (aR (aD (xZ T) hr T.vd T.kP.kp T.vc ay (aa (au d8 (au fL (aA a9 (pv 1) ah) (aA a9 (pv 2) ah)) (au fL (aA a9 (pv 2) ah) (aA a9 (pv 1) ah))) (aa (au fL (aA a9 (pv 1) ah) (aA a9 (pv 2) ah)) af)))))),?_⟩
 unfold dE at ht;have bB:B≤2*B*B:=ae (fX B (by lia)) (fW _ (by lia))
 have big:∀{x:Int},x.natAbs≤B→aP x:=fun h=>aP.zP x6 (ae h bB);by_cases z:q=0
 ·subst z
  rw [pL] at ht;refine ⟨_,rfl,td,_,_,_,rfl,rfl,.of ht,rfl,rfl,false,by decide +kernel,cQ ?_⟩
  dsimp only at hv hu;cases hv with
  | bS e l bx bm=>
   rename_i p
   cases hu with
   | bS e' l' x8 m6=>
    rename_i p'
    have m0:=l.pos;have n0:=l'.pos;have mn:0<m*n:=Int.mul_pos (by lia) (by lia)
    have x_:(m*n).natAbs≤2*B*B:=by rw [a8];exact ae (bH bm m6) (gi _ (by lia))
    have bt:(x*n+y*m).natAbs≤2*B*B:=by refine ae (wb ..) ?_;rw [a8,a8];refine ae (oH (bH bx m6) (bH x8 bm)) (iT ?_);rw [mH,oI]
    refine ⟨_,rfl,p,_,_,_,rfl,rfl,.of e,rfl,_,rfl,p',_,_,_,rfl,rfl,.of e',rfl,_,_,rfl,rfl,⟨big bx,big m6⟩,_,rfl,p',_,_,_,rfl,rfl,.of e',rfl,_,rfl,p,_,_,_,rfl,rfl,.of e,rfl,_,_,rfl,rfl,⟨big x8,big bm⟩,_,_,rfl,rfl,_,rfl,p,_,_,_,rfl,rfl,.of e,rfl,_,rfl,p',_,_,_,rfl,rfl,.of e',rfl,_,_,rfl,rfl,⟨big bm,big m6⟩,_,_,rfl,Int.ne_of_gt mn,aP.zP x6 x_,fun r H' s' kX=>k _ H' s' ?_⟩;unfold nI;rw [ar rfl];exact zN kX (show 1≤m*n by lia) bt x_
   | rem h0 h1 h2=>lia
  | rem h0 h1 h2=>lia
 ·rw [nH z] at ht
  obtain ⟨q2,q3,q4⟩:=hq.resolve_left z;refine ⟨_,rfl,td,_,_,_,rfl,rfl,.of ht,rfl,rfl,true,by decide +kernel,dI ?_⟩
  dsimp only at hv hu;cases hv with
  | bS=>lia
  | rem h0 h1 h2=>
   cases hu with
   | bS=>lia
   | rem nq zD Jl=>
    refine ⟨_,rfl,_,rfl,_,_,rfl,rfl,_,rfl,td,_,_,_,rfl,rfl,.of ht,rfl,_,_,rfl,rfl,(show 0<q by lia),k _ H (ai.refl H) ?_⟩
    unfold nI;rw [ao z];exact .rem (dA _ z) (dN _ (by lia)) q3
theorem UQ:bp ["told","a","b"] ["told","a","b"] (aM A3):=bJ
theorem UR(T:Txt K mg t):aW P w K mg base bR 2 t.qD t.uA ["told","a","b"] (Jq mulQ):=by
 have S:=UQ;refine T.vf.cw S (fun _ _ _ _ H _ _ _ hr h=>?_);obtain ⟨td,q,v,u,⟨x,m⟩,⟨y,n⟩,B,rfl,ht,hq,hv,hu,b1,x6,k⟩:=h
 refine ⟨_,(ak (bI (bG dW (aA a9 (pv 0) ah) eV) (aw (aR (au eX (au f9 (pv 1) (pv 2)) (aA a9 (pv 0) ah)))) b8)
  (aw (aR (aD (xZ T) hr T.vd T.kP.kp T.vc ay (aa (au fL (aA a9 (pv 1) ah) (aA a9 (pv 2) ah)) (aa (au fL (aA a9 (pv 1) ah) (aA a9 (pv 2) ah)) af)))))),?_⟩
 unfold dE at ht;have bB:B≤2*B*B:=ae (fX B (by lia)) (fW _ (by lia))
 have big:∀{x:Int},x.natAbs≤B→aP x:=fun h=>aP.zP x6 (ae h bB);by_cases z:q=0
 ·subst z
  rw [pL] at ht;refine ⟨_,rfl,td,_,_,_,rfl,rfl,.of ht,rfl,rfl,false,by decide +kernel,cQ ?_⟩
  dsimp only at hv hu;cases hv with
  | bS e l bx bm=>
   rename_i p
   cases hu with
   | bS e' l' x8 m6=>
    rename_i p'
    have m0:=l.pos;have n0:=l'.pos;have mn:0<m*n:=Int.mul_pos (by lia) (by lia)
    have x_:(m*n).natAbs≤2*B*B:=by rw [a8];exact ae (bH bm m6) (gi _ (by lia))
    have bt:(x*y).natAbs≤2*B*B:=by rw [a8];exact ae (bH bx x8) (gi _ (by lia))
    refine ⟨_,rfl,p,_,_,_,rfl,rfl,.of e,rfl,_,rfl,p',_,_,_,rfl,rfl,.of e',rfl,_,_,rfl,rfl,⟨big bx,big x8⟩,_,rfl,p,_,_,_,rfl,rfl,.of e,rfl,_,rfl,p',_,_,_,rfl,rfl,.of e',rfl,_,_,rfl,rfl,⟨big bm,big m6⟩,_,_,rfl,Int.ne_of_gt mn,aP.zP x6 x_,fun r H' s' kX=>k _ H' s' ?_⟩;unfold mulQ;rw [ar rfl];exact zN kX (show 1≤m*n by lia) bt x_
   | rem h0 h1 h2=>lia
  | rem h0 h1 h2=>lia
 ·rw [nH z] at ht
  obtain ⟨q2,q3,q4⟩:=hq.resolve_left z;refine ⟨_,rfl,td,_,_,_,rfl,rfl,.of ht,rfl,rfl,true,by decide +kernel,dI ?_⟩
  dsimp only at hv hu;cases hv with
  | bS=>lia
  | rem h0 h1 h2=>
   cases hu with
   | bS=>lia
   | rem nq zD Jl=>
    refine ⟨_,rfl,_,rfl,_,_,rfl,rfl,.inl ⟨by lia,by lia⟩,_,rfl,td,_,_,_,rfl,rfl,.of ht,rfl,_,_,rfl,rfl,(show 0<q by lia),k _ H (ai.refl H) ?_⟩
    unfold mulQ;rw [ao z];exact .rem (dA _ z) (dN _ (by lia)) q3
theorem US:bp ["told","a","part"] ["told","a"] (aM A4):=bJ
theorem UT(T:Txt K mg t):aW P w K mg base bR 2 t.qE t.uB ["told","a"] Rf:=by
 have S:=US;refine T.vg.cw S (fun _ _ _ _ H _ Q _ hr h=>?_);obtain ⟨td,q,v,x,m,B,rfl,ht,hq,hv,hB,k⟩:=h;have hu:=hr.wL
 refine ⟨_,(ak (bI (bG dW (aA a9 (pv 0) ah) eV) (aw (aR (lE (bq (ky (K:=K)) rfl T.jX boot_isinstance (aa (pv 1) (aa (kh (v:=.ty "int") rfl T.xT boot_int rfl) af))) (lE (G5 (bq (ky (K:=K)) rfl T.jX boot_isinstance (aa (pv 1) (aa (kh (v:=.ty "bool") rfl T.Bp boot_bool rfl) af)))) (su (HC sI kq ah (pv 1) (aA a9 (pv 0) ah))))))) b8)
  (ak (bI (PW.pt (pw_or (sq (mR (bq (ky (K:=K)) rfl T.jX boot_isinstance (aa (pv 1) (aa (kh (v:=.ty "tuple") rfl T.Bq boot_tuple rfl) af))))) (pw_or1 (bG oV (bq cq rfl T.ck cn (aa (pv 1) af)) ah)))) (aw (aR i4)) b8)
  (ak (i6 eS rfl (Oe (pv 1)) (eE (i:=2) S.nd rfl (Or.inl rfl))
   (aw (bI (PW.pt (pw_or (sq (mR (bq (ky (K:=K)) rfl T.jX boot_isinstance (aa (pv 2) (aa (kh (v:=.ty "int") rfl T.xT boot_int rfl) af))))) (pw_or1 (mR (bq (ky (K:=K)) rfl T.jX boot_isinstance (aa (pv 2) (aa (kh (v:=.ty "bool") rfl T.Bp boot_bool rfl) af))))))) (aw (aR i4)) b8)))
  (aw (aR (lE (mX jA (aA a9 (pv 1) ah) ah) (su (mX (Iv hu) (pv 1) (aD (xZ T) hr T.vd T.kP.kp T.vc ay (aa (aA a9 (pv 1) ah) (aa (aA a9 (pv 1) ah) af))))))))))),?_⟩
 unfold dE at ht;cases hv with
 | bS e l bx bm=>
  rename_i p
  rw [pL] at ht;refine ⟨_,rfl,td,_,_,_,rfl,rfl,.of ht,rfl,rfl,false,by decide +kernel,cQ ?_⟩
  refine ⟨_,rfl,_,_,_,true,rfl,rfl,.of (.tup e),zo,true,rfl,cQ ?_⟩;refine ⟨_,rfl,p,_,rfl,.inr (.of e),rfl,false,by rw [pB];rfl,cQ ?_⟩
  refine ⟨_,rfl,p,rfl,⟨_,.of e⟩,?_⟩;refine Oj (K:=K) (a:=p) (xs:=[.int x,.int m]) (fun i σ Hc=>Hc=H∧∃v2:Option V,σ=[some (.ref td),some (.ref p),v2]) ⟨rfl,_,rfl⟩ (fun i σ Hc _ ⟨z,_⟩=>by rw [z];exact .of e) ?_ ?_
  ·rintro i v σ Hc hi ⟨rfl,v2,rfl⟩
   obtain ⟨c,rfl⟩:∃c:Int,v=.int c:=by
    match i,hi with
    | 0,h=>cases h;exact ⟨_,rfl⟩
    | 1,h=>cases h;exact ⟨_,rfl⟩
    | i+2,h=>cases h
   refine ⟨_,rfl,_,_,_,true,rfl,rfl,.of (.int c),rfl,true,rfl,cQ ?_⟩;refine ⟨_,rfl,_,_,_,false,rfl,rfl,.of (.int c),rfl,false,rfl,cQ ?_⟩;exact ⟨rfl,_,rfl⟩
  ·rintro σ Hc ⟨rfl,v2,rfl⟩
   have m0:=l.pos;refine ⟨_,rfl,p,_,_,_,rfl,rfl,.of e,rfl,_,_,rfl,rfl,true,by show V.bl (decide ((0:Int)<m))=_;rw [dG (show (0:Int)<m by lia)],dI ?_⟩
   refine ⟨_,rfl,_,rfl,p,_,_,_,rfl,rfl,.of e,rfl,_,rfl,p,_,_,_,rfl,rfl,.of e,rfl,x,m,rfl,by lia,gh (ae bm hB) Qr,fun r H' s' kX=>?_⟩
   have e1:lowG x m=1:=by unfold lowG;rw [ao (by lia),l.zt];rfl
   rw [e1,Int.fdiv_one,Int.fdiv_one] at kX;refine ⟨p,r,_,_,rfl,rfl,.of (s' _ _ e),.of kX,rfl,rfl,?_⟩;show Q (.bl (ia [V.int x,V.int m] [V.int x,V.int m])) H';rw [QD];exact k H' s'
 | rem h0 h1 h2=>
  have z:q≠0:=by lia
  rw [nH z] at ht;refine ⟨_,rfl,td,_,_,_,rfl,rfl,.of ht,rfl,rfl,true,by decide +kernel,dI ?_⟩
  refine ⟨_,rfl,_,_,_,true,rfl,rfl,.of (.int x),rfl,true,rfl,dI ?_⟩;refine ⟨_,rfl,_,_,_,false,rfl,rfl,.of (.int x),rfl,false,rfl,_,rfl,dI ?_⟩;refine ⟨_,rfl,_,_,rfl,rfl,true,by show V.bl (decide ((0:Int)≤x))=_;rw [dG h0],dI ?_⟩
  refine ⟨_,rfl,td,_,_,_,rfl,rfl,.of ht,rfl,_,_,rfl,rfl,?_⟩;show Q (.bl (decide (x<q))) H;rw [dG h1];exact k H (ai.refl H)
theorem UU:bp ["told","found"] ["told","found"] (aM A5):=bJ
theorem UW(T:Txt K mg t):aW P w K mg base bR 3 t.qF t.uC ["told","found"] Rg:=by
 have S:=UU;refine T.vh.cw S (fun _ _ _ _ H vs _ _ hr h=>?_);obtain ⟨td,a,q,ps,B,rfl,ht,hq,⟨vs,ea,hl,hn⟩,E_,hB,k⟩:=h;refine ⟨_,(aw (aR (lE (bq (ky (K:=K)) rfl T.jX boot_isinstance (aa (pv 1) (aa (kh (v:=.ty "list") rfl T.oa boot_list rfl) af))) (su (bq (Qb (K:=K) rfl) rfl T.Ls boot_all (aa (kA (N:=["a","told"]) (ρ:=(fun σ=>[σ[0]?.join])) (gM [0] rfl) rfl (km (pv 1)) (fun _ _ _=>.nil) (fun _ _ _=>(aD (UT T) hr T.Lb T.vg.kp T.La ay (aa (pv 1) (aa (pv 0) af))))) af)))))),?_⟩;refine ⟨_,rfl,_,_,_,true,rfl,rfl,.of (.lst ea),zo,true,rfl,dI ?_⟩;refine QN (QE (xs:=vs) (fun R h=>⟨_,rfl,a,rfl,⟨_,.of ea⟩,h _ _ (ai.refl _) (ny (.of ea))⟩) (by rw [hl];exact jF (by lia)) (fun _ i y _=>y=.bl true) (fun _ _ _ _ _ _ h _ _=>h) ?_ ?_)
 ·intro D i v hi Hc R sc _ kc
  have cH:i<ps.length:=by rw [←hl];exact (cV.mp hi).1
  exact ⟨_,rfl,_,rfl,td,q,v,_,_,B,rfl,ht.mono sc,hq,(hn i v ps[i] hi (by simp [cH])).mono sc,hB,fun H' s'=>kc _ H' s' rfl⟩
 ·intro D ys Hc sc Bt hP eD
  refine ⟨D,List.replicate ys.length true,rfl,.of (by rw [eD];exact fT _ (fT _ (QR hP))),?_⟩
  rw [QS];exact k Hc sc
theorem UX:bp ["pen","way"] ["pen"] (aM A6):=bJ
theorem UY(T:Txt K mg t):aW P w K mg base bR 3 t.qG t.uD ["pen"] (Rh K):=by
 have S:=UX;have ie:=rD (P:=P) (w:=w) (base:=base) T;refine T.vi.cw S (fun _ _ _ _ H _ _ _ hr h=>?_);obtain ⟨P0,a,ns,rfl,pc,hS,k⟩:=h
 refine ⟨_,(@ak _ _ _ _ _ (@ja _ _ 1 _ _ _ _ (by rfl) (by first | exact .inl rfl | exact .inr rfl | assumption) S.nd rfl (Or.inl rfl) (gu ie (hr.mono (by decide)) rfl T.gf T.eO.kp T.gc .nil ay (@aO _ _ _ _ _ (by rfl) (pv 0) (@aO _ _ _ _ _ (by rfl) ah af))))
   (@ak _ _ _ _ _ (@bI _ _ _ _ _ _ _ _ (@kr _ _ _ _ _ _ _ _ kq (pv 1) ah (jB _)) (@aw _ _ _ (@aR _ _ _ _ (@fI _ _ _ _ _ (@aO _ _ _ _ _ (by rfl) eV af)))) b8)
   (@ak _ _ _ _ _ (@bI _ _ _ _ _ _ _ _ (@kr _ _ _ _ _ _ _ _ kq (pv 1) ah (jB _)) (@aw _ _ _ (@aR _ _ _ _ (@fI _ _ _ _ _ (@aO _ _ _ _ _ (by rfl) eV (@aO _ _ _ _ _ (by rfl) (@jE _ _ _ _ _ _ _ bQ (@cy _ _ _ _ (@aO _ _ _ _ _ (by rfl) ah (@aO _ _ _ _ _ (by rfl) ah (@aO _ _ _ _ _ (by rfl) ah (@aO _ _ _ _ _ (by rfl) ah af))))) (gu ie (hr.mono (by decide)) rfl T.gf T.eO.kp T.gc .nil ay (@aO _ _ _ _ _ (by rfl) (pv 0) (@aO _ _ _ _ _ (by rfl) ah af))) (fun _ _=>rfl)) af))))) b8)
   (@aw _ _ _ (@aR _ _ _ _ (@fI _ _ _ _ _ (@aO _ _ _ _ _ (by rfl) eV (@aO _ _ _ _ _ (by rfl) (@jE _ _ _ _ _ _ _ bQ (@cy _ _ _ _ (@aO _ _ _ _ _ (by rfl) ah (@aO _ _ _ _ _ (by rfl) ah (@aO _ _ _ _ _ (by rfl) ah (@aO _ _ _ _ _ (by rfl) ah (@aO _ _ _ _ _ (by rfl) ah (@aO _ _ _ _ _ (by rfl) ah (@aO _ _ _ _ _ (by rfl) ah (@aO _ _ _ _ _ (by rfl) ah (@aO _ _ _ _ _ (by rfl) ah (@aO _ _ _ _ _ (by rfl) ah af))))))))))) (gu ie (hr.mono (by decide)) rfl T.gf T.eO.kp T.gc .nil ay (@aO _ _ _ _ _ (by rfl) (pv 0) (@aO _ _ _ _ _ (by rfl) ah af))) (fun _ _=>rfl)) af)))))))),?_⟩
 refine ⟨_,rfl,P0,a,ns,5,rfl,pc,hS,by decide,aP.of_lt (by decide) (by decide),fun r H1 r0 r1 sA p1=>?_⟩
 have fB:bo K (er P0 H1) a (ns.map V.int):=ai.seq sA hS;refine ⟨_,rfl,_,_,rfl,rfl,_,rfl,b5 (fun _=>?_) (fun _=>?_)⟩
 ·refine ⟨by show 1≤sizeLine;decide,fun td jY=>?_⟩
  have np:=p1.ne jY;refine k td 0 _ (.inl rfl) (sA.trans (aL.of (aB jY))) (p1.mono (aB jY)) ?_;unfold dE;rw [pL,pK np];exact av
 refine ⟨_,rfl,_,_,rfl,rfl,_,rfl,b5 (fun _=>?_) (fun _=>?_)⟩
 ·refine ⟨by show 4≤sizeLine;decide,fun l nl=>?_⟩
  have nP:=p1.ne nl;have sl:ai H1 (upd H1 l (.lst [.int 2,.int 3,.int 5,.int 7])):=aB nl;have el:upd H1 l (.lst [.int 2,.int 3,.int 5,.int 7]) l=some (.lst [.int 2,.int 3,.int 5,.int 7]):=av;have pl:=p1.mono sl;have om:bo K (er P0 (upd H1 l (.lst [.int 2,.int 3,.int 5,.int 7]))) a (ns.map V.int):=ai.seq (xh sl) fB;generalize upd H1 l (.lst [.int 2,.int 3,.int 5,.int 7])=H2 at sl el pl om ⊢;refine ⟨_,rfl,P0,a,ns,4,rfl,pl,om,by decide,aP.of_lt (by decide) (by decide),fun r H3 r0 r1 s3 p3=>?_⟩
  obtain ⟨q,ya,hq,oh⟩:∃q:Int,dD ([.int 2,.int 3,.int 5,.int 7]:List V) r=some (.int q)∧ax q∧q≠0:=by
   rcases (show r=0∨r=1∨r=2∨r=3 by lia) with rfl | rfl | rfl | rfl
   ·exact ⟨2,rfl,.inr ⟨by decide,by decide,by decide⟩,by decide⟩
   ·exact ⟨3,rfl,.inr ⟨by decide,by decide,by decide⟩,by decide⟩
   ·exact ⟨5,rfl,.inr ⟨by decide,by decide,by decide⟩,by decide⟩
   ·exact ⟨7,rfl,.inr ⟨by decide,by decide,by decide⟩,by decide⟩
  refine ⟨l,_,_,_,rfl,rfl,.of (s3.at nP el),ya,by show 2≤sizeLine;decide,fun td jY=>?_⟩
  have np:=p3.ne jY;refine k td q _ hq ((sA.trans (aL.of sl)).trans (s3.trans (aL.of (aB jY)))) (p3.mono (aB jY)) ?_;unfold dE;rw [nH oh,pK np];exact av
 ·refine ⟨by show 10≤sizeLine;decide,fun l nl=>?_⟩
  have nP:=p1.ne nl;have sl:ai H1 (upd H1 l (.lst [.int 11,.int 13,.int 29,.int 97,.int 101,.int 257,.int 499,.int 743,.int 991,.int 997])):=aB nl;have el:upd H1 l (.lst [.int 11,.int 13,.int 29,.int 97,.int 101,.int 257,.int 499,.int 743,.int 991,.int 997]) l=some (.lst [.int 11,.int 13,.int 29,.int 97,.int 101,.int 257,.int 499,.int 743,.int 991,.int 997]):=av;have pl:=p1.mono sl;have om:bo K (er P0 (upd H1 l (.lst [.int 11,.int 13,.int 29,.int 97,.int 101,.int 257,.int 499,.int 743,.int 991,.int 997]))) a (ns.map V.int):=ai.seq (xh sl) fB;generalize upd H1 l (.lst [.int 11,.int 13,.int 29,.int 97,.int 101,.int 257,.int 499,.int 743,.int 991,.int 997])=H2 at sl el pl om ⊢;refine ⟨_,rfl,P0,a,ns,10,rfl,pl,om,by decide,aP.of_lt (by decide) (by decide),fun r H3 r0 r1 s3 p3=>?_⟩
  obtain ⟨q,ya,hq,oh⟩:∃q:Int,dD ([.int 11,.int 13,.int 29,.int 97,.int 101,.int 257,.int 499,.int 743,.int 991,.int 997]:List V) r=some (.int q)∧ax q∧q≠0:=by
   rcases (show r=0∨r=1∨r=2∨r=3∨r=4∨r=5∨r=6∨r=7∨r=8∨r=9 by lia) with rfl | rfl | rfl | rfl | rfl | rfl | rfl | rfl | rfl | rfl
   ·exact ⟨11,rfl,.inr ⟨by decide,by decide,by decide⟩,by decide⟩
   ·exact ⟨13,rfl,.inr ⟨by decide,by decide,by decide⟩,by decide⟩
   ·exact ⟨29,rfl,.inr ⟨by decide,by decide,by decide⟩,by decide⟩
   ·exact ⟨97,rfl,.inr ⟨by decide,by decide,by decide⟩,by decide⟩
   ·exact ⟨101,rfl,.inr ⟨by decide,by decide,by decide⟩,by decide⟩
   ·exact ⟨257,rfl,.inr ⟨by decide,by decide,by decide⟩,by decide⟩
   ·exact ⟨499,rfl,.inr ⟨by decide,by decide,by decide⟩,by decide⟩
   ·exact ⟨743,rfl,.inr ⟨by decide,by decide,by decide⟩,by decide⟩
   ·exact ⟨991,rfl,.inr ⟨by decide,by decide,by decide⟩,by decide⟩
   ·exact ⟨997,rfl,.inr ⟨by decide,by decide,by decide⟩,by decide⟩
  refine ⟨l,_,_,_,rfl,rfl,.of (s3.at nP el),ya,by show 2≤sizeLine;decide,fun td jY=>?_⟩
  have np:=p3.ne jY;refine k td q _ hq ((sA.trans (aL.of sl)).trans (s3.trans (aL.of (aB jY)))) (p3.mono (aB jY)) ?_;unfold dE;rw [nH oh,pK np];exact av
theorem UZ:bp ["pen","told","far","kind","top"] ["pen","told","far"] (aM A7):=bJ
theorem LZ(T:Txt K mg t):aW P w K mg base bR 3 t.qH t.uE ["pen","told","far"] (RA K):=by
 have S:=UZ;have ie:=rD (P:=P) (w:=w) (base:=base) T;refine T.rl.cw S (fun _ _ _ _ H _ _ _ hr h=>?_);obtain ⟨P0,a,td,ns,q,cR,F,rfl,pc,hS,ht,hq,f1,f2,f3,f4,k⟩:=h
 refine ⟨_,(ak (putL 3 S.nd (aD ie hr T.gf T.eO.kp T.gc ay (aa (pv 0) (aa ah af))))
  (ak (bI (bG dW (aA a9 (pv 1) ah) eV) (ak (bI (bG kq (pv 3) ah) (aw (aR ah)) b8)
  (aw (aR (aD ie hr T.gf T.eO.kp T.gc ay (aa (pv 0) (aa (aA a9 (pv 1) ah) af)))))) b8)
  (ak (bI (bG kq (pv 3) ah) (aw (aR (fI (aa ah (aa ah af))))) b8)
  (ak (bI (bG dW (pv 3) ah) (ak (putL 4 S.nd (au f9 (au eF ah (au f9 ah (aD ie hr T.gf T.eO.kp T.gc ay (aa (pv 0) (aa ah af))))) (aD ie hr T.gf T.eO.kp T.gc ay (aa (pv 0) (aa (pv 2) af)))))
  (aw (aR (aD (xZ T) hr T.vd T.kP.kp T.vc ay (aa (pv 4) (aa (au d8 ah (aD ie hr T.gf T.eO.kp T.gc ay (aa (pv 0) (aa (pv 2) af)))) af)))))) b8)
  (aw (aR (aD (xZ T) hr T.vd T.kP.kp T.vc ay (aa (au eF (aD ie hr T.gf T.eO.kp T.gc ay (aa (pv 0) (aa ah af))) ah) (aa (aA bQ (cy (aa ah (aa ah (aa ah (aa ah af))))) (aD ie hr T.gf T.eO.kp T.gc ay (aa (pv 0) (aa ah af)))) af))))))))),?_⟩
 have mf:aP cR:=aP.of_lt (by lia) (by lia)
 refine ⟨_,rfl,P0,a,ns,16,rfl,pc,hS,by decide,aP.of_lt (by decide) (by decide),fun kd H1 kd0 kd1 s1 p1=>?_⟩
 have fB:bo K (er P0 H1) a (ns.map V.int):=ai.seq s1 hS;have iM:=ht.mono s1;unfold dE at iM;by_cases z:q=0
 ·subst z
  rw [pL] at iM;refine ⟨_,rfl,td,_,_,_,rfl,rfl,.of (dZ _ _ iM),rfl,rfl,false,by decide +kernel,cQ ?_⟩
  refine ⟨_,rfl,_,_,rfl,rfl,_,rfl,b5 (fun _=>?_) (fun _=>?_)⟩
  ·refine ⟨by show 2≤sizeLine;decide,fun r nr=>?_⟩
   have np:=p1.ne nr;exact k _ 0 1 _ (s1.trans (aL.of (aB nr))) (p1.mono (aB nr)) (.bS (lR np av) ⟨by decide,by decide⟩ (by show Int.natAbs 0≤F;lia) (by show Int.natAbs 1≤F;lia))
  refine ⟨_,rfl,rfl,_,rfl,b5 (fun _=>?_) (fun _=>?_)⟩
  ·refine ⟨_,rfl,P0,a,ns,2,rfl,p1,fB,by decide,aP.of_lt (by decide) (by decide),fun sg H2 sg0 sg1 s2 p2=>?_⟩
   refine ⟨_,_,rfl,rfl,.inl ⟨by decide,by decide⟩,_,_,rfl,rfl,_,rfl,_,rfl,P0,a,ns,cR,rfl,p2,ai.seq s2 fB,f1,mf,fun tp H3 U0 U1 s3 p3=>?_⟩
   refine ⟨_,_,rfl,rfl,.inl ⟨by lia,by lia⟩,?_⟩
   refine ⟨_,rfl,_,rfl,_,rfl,P0,a,ns,cR,rfl,p3,ai.seq s3 (ai.seq s2 fB),f1,mf,fun bt H4 bt0 bt1 s4 p4=>?_⟩;refine ⟨_,_,rfl,rfl,_,_,rfl,(show 1+bt≠0 by lia),aP.of_lt (by lia) (by lia),fun r H5 s5 kX=>?_⟩
   have b1:((1-2*sg)*tp).natAbs≤F:=by
    rcases (show sg=0∨sg=1 by lia) with rfl | rfl
    ·rw [show (1-2*(0:Int))*tp=tp by lia];lia
    ·rw [show (1-2*(1:Int))*tp=-tp by lia];lia
   refine k _ _ _ H5 (s1.trans (s2.trans (s3.trans (s4.trans (aL.of s5))))) (p4.mono s5) ((zN (B:=F) kX (show 1≤1+bt by lia) b1 (by lia)).er (H':=H5) (p4.mono s5))
  ·refine ⟨_,rfl,P0,a,ns,9,rfl,p1,fB,by decide,aP.of_lt (by decide) (by decide),fun tp H2 U0 U1 s2 p2=>?_⟩
   refine ⟨_,_,rfl,rfl,by show 4≤sizeLine;decide,fun l nl=>?_⟩
   have nP:=p2.ne nl;have sl:ai H2 (upd H2 l (.lst [.int 1,.int 1,.int 2,.int 3])):=aB nl;have el:upd H2 l (.lst [.int 1,.int 1,.int 2,.int 3]) l=some (.lst [.int 1,.int 1,.int 2,.int 3]):=av;have pl:=p2.mono sl;have om:bo K (er P0 (upd H2 l (.lst [.int 1,.int 1,.int 2,.int 3]))) a (ns.map V.int):=ai.seq (xh sl) (ai.seq s2 fB);generalize upd H2 l (.lst [.int 1,.int 1,.int 2,.int 3])=H3 at sl el pl om ⊢;refine ⟨_,rfl,P0,a,ns,4,rfl,pl,om,by decide,aP.of_lt (by decide) (by decide),fun r H4 r0 r1 s4 p4=>?_⟩
   obtain ⟨b,ya,b1,b3⟩:∃b:Int,dD ([.int 1,.int 1,.int 2,.int 3]:List V) r=some (.int b)∧1≤b∧b≤3:=by
    rcases (show r=0∨r=1∨r=2∨r=3 by lia) with rfl | rfl | rfl | rfl
    ·exact ⟨1,rfl,by decide,by decide⟩
    ·exact ⟨1,rfl,by decide,by decide⟩
    ·exact ⟨2,rfl,by decide,by decide⟩
    ·exact ⟨3,rfl,by decide,by decide⟩
   refine ⟨l,_,_,_,rfl,rfl,.of (s4.at nP el),ya,_,_,rfl,by lia,aP.of_lt (by lia) (by lia),fun r' H5 s5 kX=>?_⟩
   exact k _ _ _ H5 (s1.trans (s2.trans ((aL.of sl).trans (s4.trans (aL.of s5))))) (p4.mono s5) ((zN (B:=F) kX b1 (show (tp-4).natAbs≤_ by lia) (by lia)).er (H':=H5) (p4.mono s5))
 ·rw [nH z] at iM
  obtain ⟨q2,q3,q4⟩:=hq.resolve_left z;refine ⟨_,rfl,td,_,_,_,rfl,rfl,.of (dZ _ _ iM),rfl,rfl,true,by decide +kernel,dI ?_⟩
  refine ⟨_,rfl,_,_,rfl,rfl,_,rfl,b5 (fun _=>?_) (fun _=>?_)⟩;·exact k _ 0 1 H1 s1 p1 (.rem (by decide) (by lia) q3)
  ·refine ⟨_,rfl,_,rfl,td,_,_,_,rfl,rfl,.of (dZ _ _ iM),rfl,P0,a,ns,q,rfl,p1,fB,by lia,aP.of_lt (by lia) (by lia),fun r H2 r0 r1 s2 p2=>?_⟩
   exact k _ r 1 H2 (s1.trans s2) p2 (.rem r0 r1 q3)
theorem U2:bp ["told","row","many"] ["told","row"] (aM A8):=bJ
theorem U3(T:Txt K mg t):aW P w K mg base bR 4 t.qI t.uF ["told","row"] Rj:=by
 have S:=U2;have gY:=vz (P:=P) (w:=w) (base:=base) (B:=1000) T;refine T.vj.cw S (fun _ _ _ _ H vs _ _ hr h=>?_);obtain ⟨z,a,q,ps,B,rfl,hz,hq,hR,E_,k⟩:=h;have hu:=hr.wL
 refine ⟨_,(ak (putL 2 S.nd (bq cq rfl T.ck cn (aa (pv 1) af)))
  (ak (mT eS (PW.pt (pw_and (bG jA (pv 2) ah) (pw_and1 (bG (IG hu) (aA bQ (pv 1) (au eF (pv 2) ah)) (aD gY hr T.jW T.gW.kp T.jV ay (aa (pv 0) (aa ah af))))))) (aw (putL 2 S.nd (au eF (pv 2) ah))))
  (aw (aR (sP sR (pv 1) sN (sO (pv 2))))))),?_⟩
 obtain ⟨vs,ea,hl,hn⟩:=id hR;refine ⟨_,rfl,a,vs,rfl,.inl (.of ea),?_⟩;refine ⟨fun c σ Hc=>ai H Hc∧c≤ps.length∧di ps c=di ps ps.length∧σ=[some (.ref z),some (.ref a),some (.int (c:Int))],⟨ps.length,ai.refl H,aJ _,rfl,by rw [←hl];rfl⟩,?_⟩
 rintro c σ Hc ⟨sc,hc,rB,rfl⟩;refine ⟨_,rfl,_,_,rfl,rfl,_,rfl,b5 (fun h0=>?_) (fun h0=>?_)⟩
 ·have h0:(0:Int)<(c:Int):=dm h0
  obtain ⟨d,rfl⟩:∃d,c=d+1:=⟨c-1,by lia⟩
  have hd:d<vs.length:=by lia
  have lD:d<ps.length:=by lia
  refine ⟨_,rfl,_,rfl,_,_,rfl,rfl,a,vs,_,vs[d],rfl,rfl,.of (sc _ _ ea),(by show dD vs (((d+1:Nat):Int)-1)=_;rw [show ((d+1:Nat):Int)-1=(d:Int) by lia];exact i8 (by simp [hd])),?_⟩
  have hv:=hn d vs[d] ps[d] (by simp [hd]) (by simp [lD])
  refine ⟨_,rfl,z,q,0,rfl,hz.mono sc,hq,by decide,by decide,fun v0 H1 s1 ho=>?_⟩
  have nq:a7 1000 H1 q v0 0 1:=by
   have e:cf q 0=(0,1):=by unfold cf;split <;> simp
   rw [e] at ho;exact ho
  have gd:ps.getD d o1=ps[d]:=getD_at lD;refine Jk (hv.mono (sc.trans s1)) nq ⟨_,rfl,b5 (fun fR=>?_) (fun fR=>?_)⟩
  ·have fR:ps[d].1=0:=dm fR
   refine ⟨fun σ' H2=>ai H H2∧σ'=[some (.ref z),some (.ref a),some (.int (d:Int))],?_,?_⟩
   ·rintro σ' H2 ⟨s2,rfl⟩
    refine ⟨d,by lia,s2,by lia,?_,rfl⟩
    rw [←rB];show _=if (ps.getD d o1).1=0 then di ps d else d+1
    rw [gd,ar fR]
   ·refine ⟨_,rfl,_,_,rfl,rfl,sc.trans s1,by show List.set _ 2 (some (V.int (((d+1:Nat):Int)-1)))=_;rw [show ((d+1:Nat):Int)-1=(d:Int) by lia];rfl⟩
  ·have fR:¬ps[d].1=0:=fun e=>fR (dG e)
   have e:di ps ps.length=d+1:=by
    rw [←rB];show (if (ps.getD d o1).1=0 then di ps d else d+1)=_
    rw [gd,ao fR]
   refine ⟨_,rfl,_,rfl,_,rfl,a,vs,rfl,.of ((sc.trans s1) _ _ ea),fun r nr=>?_⟩;rw [tG vs (d+1) (by lia)]
   have sr:=(sc.trans s1).trans (aB (o:=.lst (vs.take (d+1))) nr);refine k r _ sr (none_of (sc.trans s1) nr) ?_;unfold aN;rw [e];exact aE.take av hl fun i v p h1 h2=>(hn i v p h1 h2).mono sr
 ·have h0:¬(0:Int)<(c:Int):=fun z=>h0 (dG z)
  have c0:c=0:=by lia
  subst c0;refine ⟨_,rfl,_,rfl,_,rfl,a,vs,rfl,.of (sc _ _ ea),fun r nr=>?_⟩;rw [tG vs 0 (by lia)]
  have sr:=sc.trans (aB (o:=.lst (vs.take 0)) nr);refine k r _ sr (none_of sc nr) ?_;unfold aN;rw [←rB];exact aE.take av hl fun i v p h1 h2=>(hn i v p h1 h2).mono sr
def Fu:Sp:=fun vs H Q _=>∃(td a b:Addr) (q:Int) (ps rs:aK) (D:Int) (f g:Nat→Int),vs=[.ref td,.ref a,.ref b]∧dE H td q∧ax q∧aE B2 H q a ps∧aE B2 H q b rs∧ps.length≤60∧rs.length≤60∧aY q D∧D.natAbs≤B2∧(∀i j,(f i*g j).natAbs≤10 ^ 270)∧(∀i j,i<ps.length→j<rs.length→aS q ((ps.getD i o1).1*(rs.getD j o1).1,(ps.getD i o1).2*(rs.getD j o1).2) (f i*g j,D)) ∧
 ∀(c:Addr) (H':Hp),ai H H'→H c=none→aE B2 H' q c (aN (cZ q ps.length rs.length f g D (ps.length+rs.length-1)))→Q (.ref c) H'
theorem U4:bp ["told","one","other","found","i","j"] ["told","one","other"] (aM A9):=bJ
theorem Fv(T:Txt K mg t):aW P w K mg base bR 5 t.qJ t.uH ["told","one","other"] Fu:=by
 have S:=U4;have gY:=vz (P:=P) (w:=w) (base:=base) (B:=B2) T;refine T.n_.cw S (fun _ _ _ _ H vs _ _ hr h=>?_);obtain ⟨td,a,b,q,ps,rs,D,f,g,rfl,ht,hq,hA,hB,U5,U6,c_,bD,hs,U7,k⟩:=h
 refine ⟨_,(ak (tx (i0:=3) (N:=["k","told"]) (ρ:=(fun σ=>[σ[0]?.join])) (gM [0] rfl) rfl S.nd rfl (Or.inl rfl) (hE rfl T.gz (aa (au d8 (bq cq rfl T.ck cn (aa (pv 1) af)) (bq cq rfl T.ck cn (aa (pv 2) af))) af)) (fun _ _ _=>.nil) (fun _ _ _=>(aD gY hr T.jW T.gW.kp T.jV ay (aa (pv 1) (aa ah af)))))
  (ak (i6 eS rfl (hE rfl T.gz (aa (bq cq rfl T.ck cn (aa (pv 1) af)) af)) (eE (i:=4) S.nd rfl (Or.inl rfl))
   (aw (i6 eS rfl (hE rfl T.gz (aa (bq cq rfl T.ck cn (aa (pv 2) af)) af)) (eE (i:=5) S.nd rfl (Or.inl rfl))
   (aw (@wI _ _ _ _ _ _ (aD (LY T) hr T.EV T.rk.kp T.EU ay (aa (pv 0) (aa (aA bQ (pv 3) (au d8 (pv 4) (pv 5))) (aa (aD (UR T) hr T.K_ T.vf.kp T.K9 ay (aa (pv 0) (aa (aA bQ (pv 1) (pv 4)) (aa (aA bQ (pv 2) (pv 5)) af)))) af)))) (wH (pv 3) (au d8 (pv 4) (pv 5)) set_list) (by rfl) (by rfl) (by rfl))))))
  (aw (aR (aD (U3 T) hr T.Li T.vj.kp T.Lh ay (aa (pv 0) (aa (pv 3) af))))))),?_⟩
 obtain ⟨vs,ea,lv,fv⟩:=id hA;obtain ⟨us,eb,lu,fu⟩:=id hB;have iN:1000≤B2:=by decide +kernel
 obtain ⟨N,eN⟩:∃N,N=ps.length+rs.length:=⟨_,rfl⟩;have e0:cz q 0 D=cf q 0:=by
  refine kI hq (gR hq c_) ?_ ((gx (T:=0) c_).trans ?_ c_)
  ·unfold cf
   refine ⟨fun z=>?_,fun z=>?_⟩;·rw [ar z];exact ⟨by decide,by decide⟩
   ·rw [ao z]
    have q2:0<q:=by rcases hq with h | h <;> lia
    exact ⟨rfl,by simp,by simpa using q2⟩
  ·have:cf q 0=(0,1):=by unfold cf;split <;> simp
   rw [this];exact ⟨0,by simp⟩
 have U8:((vs.length:Int)+(us.length:Int))=(N:Int):=by lia
 refine iG (du (pJ (xs:=(List.range N).map fun i:Nat=>V.int (0+(i:Int))) (fun R h=>⟨_,rfl,a,vs,rfl,.inl (.of ea),_,rfl,b,us,rfl,.inl (.of eb),_,_,rfl,rfl,(N:Int),fT (fun x=>[V.int x]) U8,by lia,by lia,h _ _ (ai.refl _) (by rw [dM];exact zE)⟩) (by rw [aT,gI];exact jF (by lia)) (fun _ j y Hx=>a7 B2 Hx q y (cz q 0 D).1 (cz q 0 D).2) (fun _ _ _ _ _ _ h1 e f=>h1.cR e f) ?_ ?_))
 ·intro Dx i v hi Hc R sc _ kc
  refine ⟨_,rfl,td,q,0,rfl,ht.mono sc,hq,b9 _,iN,fun u H' s' hu=>kc u H' s' ?_⟩;rw [e0];exact hu
 intro fd ys H1 Bz s1 e_ hP Fw;rw [aT,gI] at e_;dsimp only [bE];refine ⟨_,rfl,a,vs,rfl,.inl (.of (s1 _ _ ea)),(vs.length:Int),rfl,by lia,by lia,?_⟩
 rw [dM]
 refine sG (fun i σ Hc=>ai H Hc∧∃(v4 v5:Option V) (ws:List V),σ=[some (.ref td),some (.ref a),some (.ref b),some (.ref fd),v4,v5]∧Hc fd=some (.lst ws)∧ws.length=N∧∀(x:Nat) (w:V),ws[x]?=some w→a7 B2 Hc q w (cz q (bK i rs.length f g x) D).1 (cz q (bK i rs.length f g x) D).2)
  ⟨s1,_,_,ys,rfl,Fw,e_,fun x w hw=>hP x w hw⟩ ?_ ?_
 ·rintro i σ Hc hi ⟨sc,v4,v5,ws,rfl,ef,ig,iO⟩
  refine ⟨_,rfl,b,us,rfl,.inl (.of (sc _ _ eb)),(us.length:Int),rfl,by lia,by lia,?_⟩
  rw [dM]
  refine sG (fun j σ Hd=>ai H Hd∧∃(v5:Option V) (ws:List V),σ=[some (.ref td),some (.ref a),some (.ref b),some (.ref fd),some (.int (0+(i:Int))),v5]∧Hd fd=some (.lst ws)∧ws.length=N∧∀(x:Nat) (w:V),ws[x]?=some w→a7 B2 Hd q w (cz q (bK i rs.length f g x+cK j (f i) g i x) D).1 (cz q (bK i rs.length f g x+cK j (f i) g i x) D).2)
   ⟨sc,_,ws,rfl,ef,ig,fun x w hw=>by
    have z:=iO x w hw;have e:bK i rs.length f g x+cK 0 (f i) g i x=bK i rs.length f g x:=by show _+0=_;lia
    rw [e];exact z⟩ ?_ ?_
  ·rintro j σ Hd hj ⟨sd,v5,ws,rfl,ed,ig,iO⟩
   have i1:i<ps.length:=by lia
   have j1:j<rs.length:=by lia
   have ij:i+j<ws.length:=by lia
   have L0:(0+(i:Int))+(0+(j:Int))=((i+j:Nat):Int):=by lia
   have nA:=(fv i vs[i] ps[i] (by simp [hi]) (by simp [i1])).mono sd
   have nB:=(fu j us[j] rs[j] (by simp [hj]) (by simp [j1])).mono sd
   have nW:=iO (i+j) ws[i+j] (by simp [ij])
   have cA:=nA.canon;have cB:=nB.canon;have rW:=U7 i j i1 j1;rw [getD_at i1,getD_at j1] at rW;have L3:=hs i j;refine ⟨_,rfl,_,rfl,_,rfl,_,rfl,_,_,rfl,rfl,fd,ws,_,ws[i+j],rfl,rfl,.of ed,(by show dD ws ((0+(i:Int))+(0+(j:Int)))=_;rw [L0];exact i8 (by simp [ij])),_,rfl,_,rfl,_,rfl,a,vs,_,vs[i],rfl,rfl,.of (sd _ _ ea),(by show dD vs (0+(i:Int))=_;rw [wc];exact i8 (by simp [hi])),_,rfl,_,rfl,b,us,_,us[j],rfl,rfl,.of (sd _ _ eb),(by show dD us (0+(j:Int))=_;rw [wc];exact i8 (by simp [hj])),td,q,_,_,ps[i],rs[j],B2,rfl,ht.mono sd,hq,nA,nB,by decide +kernel,by decide +kernel,fun v' H' s' hv=>?_⟩
   have mW:aS q (mulQ q ps[i] rs[j]) (f i*g j,D):=((Rv hq cA cB).2).trans rW (cA.bot.mul cB.bot);have cM:=hv.canon;have eM:mulQ q ps[i] rs[j]=cz q (f i*g j) D:=kI hq cM (gR hq c_) (mW.trans (gx c_).symm c_);have bM:=DL (T:=f i*g j) hq c_ iN (ae L3 (by decide +kernel)) bD
   have oo:=hv.DM (B':=B2) (by rw [eM];exact bM.1) (by rw [eM];exact bM.2)
   refine ⟨td,q,_,_,cz q (bK i rs.length f g (i+j)+cK j (f i) g i (i+j)) D,mulQ q ps[i] rs[j],B2,rfl,ht.mono (sd.trans s'),hq,nW.mono s',oo,iN,by decide +kernel,fun v2 H2 s2 yb=>?_⟩
   have kU:=s2 _ _ (s' _ _ ed);have eA:=Jr hq c_ (gR (T:=bK i rs.length f g (i+j)+cK j (f i) g i (i+j)) hq c_) cM (gx c_) mW;rw [eA] at yb;refine ⟨_,rfl,_,rfl,_,rfl,_,_,rfl,rfl,fd,ws,_,i+j,rfl,rfl,kU,(by show hV ws.length ((0+(i:Int))+(0+(j:Int)))=_;rw [L0];unfold hV;rw [ar (by lia),ar (by lia),dM]),?_⟩
   have cR:∀b o,b≠fd→H2 b=some o→upd H2 fd (.lst (ws.set (i+j) v2)) b=some o:=fun b o nb e=>by rw [b7 nb];exact e
   refine ⟨kD (sd.trans (s'.trans s2)) Bz,_,_,rfl,av,by rw [List.length_set];exact ig,fun x w hw=>?_⟩
   have eR:cK (j+1) (f i) g i x=cK j (f i) g i x+if i+j=x then f i*g j else 0:=by unfold cK;rw [gw]
   by_cases zx:i+j=x
   ·subst zx
    rw [vM ij] at hw;cases hw;rw [eR,ar rfl,←Int.add_assoc];have BA:(bK i rs.length f g (i+j)).natAbs≤60*(60*10 ^ 270):=ae (DO (M:=10 ^ 270) fun x y _ _=>hs x y) (bH (by lia) (gi _ (by lia)))
    have BB:(cK j (f i) g i (i+j)).natAbs≤60*10 ^ 270:=by
     unfold cK;refine ae (tH (M:=10 ^ 270) j _ fun y hy=>?_) (gi _ (by lia))
     by_cases zz:i+y=i+j;·rw [ar zz];exact hs i y
     ·rw [ao zz];exact b9 _
    have bT:(bK i rs.length f g (i+j)+cK j (f i) g i (i+j)+f i*g j).natAbs≤B2:=by refine ae (ae (wb ..) (oH (ae (wb ..) (oH BA BB)) L3)) (by decide +kernel)
    have bb:=DL hq c_ iN bT bD;exact (yb.DM bb.1 bb.2).cR kU cR
   ·rw [vN zx] at hw
    rw [eR,ao zx,oG];exact ((iO x w hw).mono (s'.trans s2)).cR kU cR
  ·rintro σ Hd ⟨sd,v5,ws,rfl,ed,ig,iO⟩
   refine ⟨sd,_,_,ws,rfl,ed,ig,fun x w hw=>?_⟩;have e:bK (i+1) rs.length f g x=bK i rs.length f g x+cK us.length (f i) g i x:=by unfold bK;rw [gw,lu]
   rw [e];exact iO x w hw
 ·rintro σ Hc ⟨sc,v4,v5,ws,rfl,ef,ig,iO⟩
  have hG:aE B2 Hc q fd (cZ q ps.length rs.length f g D (ps.length+rs.length)):=⟨ws,ef,by unfold cZ;rw [aT,gI];lia,fun x w p x1 x2=>by
   have hx:x<ps.length+rs.length:=by rw [←eN,←ig];exact (cV.mp x1).1
   unfold cZ at x2;rw [fV] at x2;simp [hx] at x2;subst x2;have z:=iO x w x1;rw [lv] at z;exact z⟩
  refine ⟨_,rfl,_,rfl,td,fd,q,_,B2,rfl,ht.mono sc,hq,hG,by unfold cZ;rw [aT,gI];lia,fun c H' s' nc hc=>k c H' (sc.trans s') (none_of sc nc) ?_⟩
  rw [Rz] at hc;exact hc
theorem U9:bp ["world","one","other","last","now","lead","height","gap","told","least","following"] ["world","one","other"] (aM Ay):=bJ
theorem U_(T:Txt K mg t):aW P w K mg base bR 6 t.qb t.tZ ["world","one","other"] (Si t.a_):=by
 have S:=U9;have oi:=Fb (P:=P) (w:=w) (base:=base) T;refine T.uU.cw S (fun _ _ _ _ H vs _ _ hr h=>?_);obtain ⟨z,a,b,q,ts,us,W,rfl,hz,hq,ea,eb,lt,lu,L,tt,tu,k⟩:=h
 refine ⟨_,(ak (putL 3 S.nd (cy (aa (pv 1) (aa (cy (aa ah af)) (aa (cy af) af)))))
  (ak (putL 4 S.nd (cy (aa (pv 2) (aa (cy af) (aa (cy (aa ah af)) af)))))
  (ak (bI (bG kq (bq cq rfl T.ck cn (aa (pv 1) af)) (bq cq rfl T.ck cn (aa (pv 2) af))) (ak (putL 3 S.nd (cy (aa (pv 2) (aa (cy af) (aa (cy (aa ah af)) af)))))
  (aw (putL 4 S.nd (cy (aa (pv 1) (aa (cy (aa ah af)) (aa (cy af) af))))))) b8)
  (ak (putL 5 S.nd ah)
  (ak (putL 6 S.nd ah)
  (ak (mT eS (bG jA (bq cq rfl T.ck cn (aa (aA bQ (pv 4) ah) af)) ah) (ak (putL 7 S.nd (au eF (bq cq rfl T.ck cn (aa (aA bQ (pv 3) ah) af)) (bq cq rfl T.ck cn (aa (aA bQ (pv 4) ah) af))))
  (ak (m8 8 S.nd (aD (LH T) hr T.EH T.qW.kp T.EG ay (aa (pv 0) (aa (aA bQ (pv 3) ah) (aa (aA bQ (pv 4) ah) af)))))
  (ak (m8 9 S.nd (au fL (pv 5) (aD (Fn T) hr T.Bj T.nZ.kp T.Bi ay (aa (pv 6) (aa (pv 7) af)))))
  (ak (Ti (i0:=10) (N:=["a","b","world","told","least"]) (ρ:=(fun σ=>[σ[0]?.join,σ[8]?.join,σ[9]?.join])) (Dy [0,8,9] rfl) rfl S.nd rfl (Or.inl rfl) (Dv rfl T.Br (aa (sP sR (pv 3) (sO ah) sN) (aa (sP sR (pv 4) (sO ah) sN) af))) (fun _ _ _=>.nil) (fun _ _ _=>(aD (UA T) hr T.KA T.uT.kp T.Kz ay (aa (pv 2) (aa (pv 0) (aa (pv 1) (aa (aA (zJ (K:=K)) (pv 3) ah) (aa (aA (zJ (K:=K)) (pv 3) ah) (aa (pv 4) af)))))))))
  (ak (putL 3 S.nd (pv 4))
  (ak (putL 4 S.nd (au lL (cy (aa (aD (LU T) hr T.ED T.qU.kp T.EC ay (aa (fJ (pv 0) T.dq T.mj oi (hr.mono (by decide)) T.rA .nil ay (aa (aA a9 (pv 8) ah) (aa (pv 9) af))) af)) af)) (pv 10)))
  (ak (putL 5 S.nd (aA bQ (aA bQ (pv 3) ah) (jy jz ah)))
  (aw (putL 6 S.nd (aA bQ (fJ (pv 0) T.dq T.mj oi (hr.mono (by decide)) T.rA .nil ay (aa (cy (aa (aD (Fn T) hr T.Bj T.nZ.kp T.Bi ay (aa (pv 5) (aa (pv 7) af))) af)) (aa (aD (Fn T) hr T.Bj T.nZ.kp T.Bi ay (aa (pv 6) (aa (au eF (pv 7) ah) af))) af))) ah)))))))))))
  (aw (aR (pv 3))))))))),?_⟩
 refine fP fun _ hR=>du (J0 rfl ea fun la H1 s1 t1=>hR _ _ ?_);refine fP fun _ hR=>du (J5 rfl (s1 _ _ eb) fun lb H2 s2 t2=>hR _ _ ?_);have bN:=s1.trans s2;simp only [d5,d6,L2.start];refine fP fun R iP=>?_;have BC:∀j,∀x∈[(1:Int)],x.natAbs≤W j:=fun j x hx=>by rw [iV.mp hx];show 1≤W j;have:=L.w1 j;lia
 have BE:∀j,∀x∈([]:List Int),x.natAbs≤W j:=fun j x hx=>nomatch hx;have BF:de q [1]:=fun _=>jf hq;have BG:de q []:=fun h=>absurd rfl h;have next:∀(la lb:Addr) (r u v r' u' v':List Int) (f g:Srs.Row) (n0 m0:Nat) (Hx:Hp),n0=max ts.length us.length→(∀n m,n≤n0→m≤n→1≤m→100*(W n*(2*W (n-1)) ^ (n-m+1))≤10 ^ 580)→ai H Hx→jg Hx la r u v→jg Hx lb r' u' v'→CI q ts us f g n0 m0 W r u v r' u' v' 1 1→CG q f g n0 m0 W→de q u→de q v→de q u'→de q v'→(r=[]→ts=[]∧us=[])→(u.length+r'.length≤n0+1∧v.length+r'.length≤n0+1∧u'.length+r.length≤n0+1∧v'.length+r.length≤n0+1)→((r'.length<r.length∨r.length=n0)∧(r.length<n0→u.length+r.length≤n0∧v.length+r.length≤n0))→R [some (.ref z),some (.ref a),some (.ref b),some (.ref la),some (.ref lb),none,none,none,none,none,none] Hx:=fun la lb r u v r' u' v' f g n0 m0 Hx Va lim sx tA tB I G BH BI BJ BK em ln bx=>iP _ _ (by
  refine fP fun _ hR=>du (hR _ _ ?_);refine fP fun _ hR=>du (hR _ _ ?_);simp only [d5,d6];refine fP fun R' Vb=>?_;refine ⟨fun m σ Hc=>∃(la lb:Addr) (r u v r' u' v':List Int) (ld ht:Int) (v7 v8 v9 v10:Option V),m=r'.length∧σ=[some (.ref z),some (.ref a),some (.ref b),some (.ref la),some (.ref lb),some (.int ld),some (.int ht),v7,v8,v9,v10]∧ai H Hc∧jg Hc la r u v∧jg Hc lb r' u' v'∧CI q ts us f g n0 m0 W r u v r' u' v' ld ht∧de q u∧de q v∧de q u'∧de q v'∧(r=[]→ts=[]∧us=[])∧(u.length+r'.length≤n0+1∧v.length+r'.length≤n0+1∧u'.length+r.length≤n0+1∧v'.length+r.length≤n0+1)∧((r'.length<r.length∨r.length=n0)∧(r.length<n0→u.length+r.length≤n0∧v.length+r.length≤n0)),⟨_,la,lb,r,u,v,r',u',v',1,1,_,_,_,_,rfl,rfl,sx,tA,tB,I,BH,BI,BJ,BK,em,ln,bx⟩,?_⟩;clear I tA tB BH BI BJ BK em sx ln bx;rintro m σ Hc ⟨la,lb,r,u,v,r',u',v',ld,ht,v7,v8,v9,v10,rfl,rfl,sc,tA,tB,I,BH,BI,BJ,BK,em,ln,bx⟩;obtain ⟨a0,a1,a2,eA,Fx,L4,L5⟩:=id tA;obtain ⟨b0,b1,b2,eB,yc,Vc,L6⟩:=id tB;have Fy:(r'.map V.int).length=r'.length:=aT _;have lr:(r.map V.int).length=r.length:=aT _;refine ⟨_,rfl,lb,_,_,_,rfl,rfl,.of eB,rfl,b0,_,rfl,.inl (.of yc),_,_,rfl,rfl,_,rfl,b5 (fun hb=>?_) (fun hb=>?_)⟩
  ·have hb:=dm hb
   rw [Fy] at hb;have ne:r'≠[]:=fun e=>by rw [e] at hb;exact absurd hb (by decide)
   have le:=I.le;refine ⟨fun σ' H2=>∃m',m'<r'.length∧∃(la lb:Addr) (r u v r' u' v':List Int) (ld ht:Int) (v7 v8 v9 v10:Option V),m'=r'.length∧σ'=[some (.ref z),some (.ref a),some (.ref b),some (.ref la),some (.ref lb),some (.int ld),some (.int ht),v7,v8,v9,v10]∧ai H H2∧jg H2 la r u v∧jg H2 lb r' u' v'∧CI q ts us f g n0 m0 W r u v r' u' v' ld ht∧de q u∧de q v∧de q u'∧de q v'∧(r=[]→ts=[]∧us=[])∧(u.length+r'.length≤n0+1∧v.length+r'.length≤n0+1∧u'.length+r.length≤n0+1∧v'.length+r.length≤n0+1)∧((r'.length<r.length∨r.length=n0)∧(r.length<n0→u.length+r.length≤n0∧v.length+r.length≤n0)),fun σ' H2 h=>h,?_⟩;refine fP fun _ hR=>du ⟨_,rfl,la,_,_,_,rfl,rfl,.of eA,rfl,a0,_,rfl,.inl (.of Fx),_,rfl,lb,_,_,_,rfl,rfl,.of eB,rfl,b0,_,rfl,.inl (.of yc),_,_,rfl,rfl,hR _ _ ?_⟩;rw [lr,Fy,show (fun i j:Int=>V.int (i-j)) ((r.length:Nat):Int) ((r'.length:Nat):Int)=V.int ((r.length-r'.length:Nat):Int) by
    show V.int _=V.int _
    congr 1
    lia]
   simp only [d5,d6];have S:=I.Sk G lim ne;have hU:ic ht (W (r.length-1)):=I.hU G;obtain ⟨L7,L8,L9⟩:=Ec I.bA;obtain ⟨L_,Ma,Mb⟩:=Ec I.JX;have r5:=ae I.rn G.n5;have l1:1≤r'.length:=iY.mpr ne;have nr:r≠[]:=fun e=>by rw [e] at le;exact absurd le (by show ¬r'.length≤0;lia)
   have ek:r.length+1-r'.length=r.length-r'.length+1:=by lia
   have S1:=S.a;rw [←ek] at S1;refine fP fun _ hR=>du ⟨_,rfl,_,rfl,la,_,_,_,rfl,rfl,.of eA,rfl,_,rfl,lb,_,_,_,rfl,rfl,.of eB,rfl,z,a0,b0,q,r,r',_,_,rfl,hz.mono sc,hq,Fx,yc,by lia,by lia,l1,L7,L_,by have:=S.t;have:=S.tu;lia,S.t,S1,S.u,I.pP ne,fun _=>I.tr nr,fun p8 k1 k2 bs ls az H1 s1 e8 Vd Ve PI BL=>hR _ _ ?_⟩
   rw [ek] at PI BL;have yd:=PI.lb;have BM:=PI.ll;have BM:ls.length=r'.length-1:=by lia
   have ab_:=G.n5;have l5:bs.length≤41:=by lia
   have pf:=PI.fin;obtain ⟨C,hC,bC⟩:=I.left hq G ne yd BM pf BL;have kK:¬q∣ld*ht ^ (r.length-r'.length):=dY hq I.nl (pM hq I.nh _);have gb:(-5:Int)≤((r.length-r'.length:Nat):Int)∧((r.length-r'.length:Nat):Int)≤100∧((r.length-r'.length:Nat):Int).toNat=r.length-r'.length∧(((r.length-r'.length:Nat):Int)-1).toNat=r.length-r'.length-1∧(-5:Int)≤((r.length-r'.length:Nat):Int)-1∧((r.length-r'.length:Nat):Int)-1≤100:=⟨by lia,by lia,by lia,by lia,by lia,by lia⟩
   have mL:ic (ld*ht ^ (r.length-r'.length)) (10 ^ 580):=S.lead I.bl hU;simp only [d5,d6];have hS:∀i,i≤r.length-r'.length→ic (ht ^ i) (10 ^ 600):=fun i hi=>ae (S.pow hU (Nat.le_succ_of_le hi)) kL;have ye:ic ht (10 ^ 600):=ae (ae hU S.u) kL;refine fP fun _ hR=>du ⟨_,rfl,_,rfl,_,rfl,ht,_,rfl,gb.1,gb.2.1,fun i hi=>hS i (ae hi (iT gb.2.2.1)),ye,_,_,rfl,rfl,⟨fb (ae (ae I.bl S.to) kL),fb (hS _ (iT gb.2.2.1))⟩,hR _ _ ?_⟩;rw [gb.2.2.1];simp only [d5,d6];generalize hL:ld*ht ^ (r.length-r'.length)=least at kK mL hC ⊢;obtain ⟨Vf,Vg,Vh,Fz,Mc,Md⟩:H1 la=some (.lst [.ref a0,.ref a1,.ref a2])∧H1 a1=some (.lst (u.map V.int))∧H1 a2=some (.lst (v.map V.int))∧H1 lb=some (.lst [.ref b0,.ref b1,.ref b2])∧H1 b1=some (.lst (u'.map V.int))∧H1 b2=some (.lst (v'.map V.int)):=⟨s1 _ _ eA,s1 _ _ L4,s1 _ _ L5,s1 _ _ eB,s1 _ _ Vc,s1 _ _ L6⟩;have BN:=(hz.mono sc).mono s1;have turn:∀(c:Nat) (xs ys:List Int),(∀t,Lf az (aI r u v) (ag bs) (aI r' u' v') (3*t+c)=az*ag xs t-cv (ag bs) (ag ys) t)→(∀x∈xs,x.natAbs≤W r.length)→(∀y∈ys,y.natAbs≤W (r.length-1))→xs.length≤42→ys.length≤42→∀(aj bj:Addr) (Hc:Hp) (R:VK),ai H1 Hc→Hc aj=some (.lst (xs.map V.int))→Hc bj=some (.lst (ys.map V.int))→(∀(v:Addr) (H3:Hp) (rs:List Int),ai Hc H3→Hc v=none→H3 v=some (.lst (rs.map V.int))→rs.length≤max xs.length (bs.length+ys.length-1)→(∀t,Cg q (ag rs t) (C (3*t+c)))→Rm q rs→de q rs→R (.ref v) H3)→JZ t.a_ [.ref z,.ref aj,.ref bj,.ref k1,.int az,.int least] Hc R E0:=fun c xs ys hl hx hy lx ly aj bj Hc R rH Vi Vj kk=>⟨z,aj,bj,k1,q,xs,ys,bs,az,least,fun t=>C (3*t+c),rfl,BN.mono rH,hq,Vi,Vj,rH _ _ Vd,by lia,by lia,by lia,fun x h=>⟨ae (ae (hx x h) S.to) kL,S.mx PI.bm (hx x h)⟩,fun y h=>ae (ae (hy y h) S.u) kL,fun b h=>S.bs (PI.bb b h),S.cv (by lia) PI.bb hy,S.az PI.bm,ae mL kL,kK,fun t=>by rw [←hl];exact hC _,kk⟩
   refine fP fun _ hR=>du (Rk (Z:=fun zs _=>zs=[(V.ref a1,V.ref b1),(V.ref a2,V.ref b2)]) (fun R h=>⟨_,rfl,_,rfl,la,_,rfl,.of Vf,fun r1 n1=>?_⟩) (fun D j y Hx=>∃(x:Addr) (rs:List Int),y=.ref x∧x≠D∧Hx x=some (.lst (rs.map V.int))∧rs.length≤max ([u,v].getD j []).length (bs.length+([u',v'].getD j []).length-1)∧(∀t,Cg q (ag rs t) (C (3*t+(j+1))))∧Rm q rs∧de q rs) (fun D j y Ha Hb ys ⟨x,rs,h1,h2,h3,h4⟩ e f=>⟨x,rs,h1,h2,f _ _ h2 h3,h4⟩) ?_ ?_)
   ·have q1:=aB (o:=.lst [.ref a1,.ref a2]) n1
    refine ⟨_,rfl,_,rfl,lb,_,rfl,.of (q1 _ _ Fz),fun r2 n2=>?_⟩;have q2:=aB (o:=.lst [.ref b1,.ref b2]) n2;exact ⟨r1,r2,rfl,⟨_,.of (q2 _ _ av)⟩,⟨_,.of av⟩,h _ _ _ (q1.trans q2) (DD (.of (q2 _ _ av)) (.of av)) (jF (show 2≤1000 by decide)) rfl⟩
   ·rintro zs Hx rfl sx D j x y kW Hc R rH ⟨yD,eD⟩ kc
    have bN:=sx.trans rH
    match j,kW with
    | 0,kW=>cases kW;refine ⟨_,rfl,_,rfl,_,rfl,_,rfl,p8,_,_,_,rfl,rfl,.of (bN _ _ e8),rfl,_,rfl,p8,_,_,_,rfl,rfl,.of (bN _ _ e8),rfl,_,rfl,?_⟩;exact turn 1 u u' (fun t=>Sm) L8 Ma (by lia) (by lia) a1 b1 Hc R bN (bN _ _ Vg) (bN _ _ Mc) fun v3 H3 rs s3 n3 e3 l3 c3 m3 t3=>kc _ _ s3 ⟨v3,rs,rfl,(fun z=>by rw [z,eD] at n3;cases n3),e3,l3,c3,m3,t3⟩
    | 1,kW=>cases kW;refine ⟨_,rfl,_,rfl,_,rfl,_,rfl,p8,_,_,_,rfl,rfl,.of (bN _ _ e8),rfl,_,rfl,p8,_,_,_,rfl,rfl,.of (bN _ _ e8),rfl,_,rfl,?_⟩;exact turn 2 v v' (fun t=>Sn) L9 Mb (by lia) (by lia) a2 b2 Hc R bN (bN _ _ Vh) (bN _ _ Md) fun v3 H3 rs s3 n3 e3 l3 c3 m3 t3=>kc _ _ s3 ⟨v3,rs,rfl,(fun z=>by rw [z,eD] at n3;cases n3),e3,l3,c3,m3,t3⟩
    | n+2,kW=>cases kW
   rintro zs Hx rfl sx D vs H2 nD s2 DV hP eD;refine hR _ _ ?_;simp only [d5,d6];obtain ⟨x1,x2,rfl⟩:∃x1 x2,vs=[x1,x2]:=by
    match vs,DV with
    | [x1,x2],_=>exact ⟨x1,x2,rfl⟩
   obtain ⟨f1,u2,rfl,_,Vk,FA,Vl,Vm,Vn⟩:=hP 0 _ rfl;obtain ⟨f2,v2,rfl,_,Vo,FC,Vp,Vq,Vr⟩:=hP 1 _ rfl;have bN:=sx.trans s2;obtain ⟨dz,hd⟩:=BN.mono bN;have oq:=BN.mono bN;have ml:∀x∈ls,aP x:=fun x hx=>fb (ae (ae (PI.bl x hx) S.a) kL);have Vs:∀t,Lf az (aI r u v) (ag bs) (aI r' u' v') (3*(t+1))=az*ag r t-cv (ag bs) (ag r') t:=fun t=>by rw [z_];rfl
   have c0:∀t,Cg q (ag ls t) (least*C (3*(t+1))):=fun t=>by refine Cg.trans ?_ (hC (3*(t+1)));rw [Vs];have:=(pf t).sub (Cg.refl (q:=q) (cv (ag bs) (ag r') t));rw [Int.add_comm,Int.add_sub_cancel] at this;exact this.symm
   refine fP fun _ hR=>du ⟨_,rfl,hR _ _ ?_⟩;simp only [d5,d6];refine fP fun _ hR=>du ⟨_,rfl,z,dz,_,rfl,hd,fM (by decide +kernel),⟨_,rfl,p8,_,_,_,rfl,rfl,.of (bN _ _ e8),rfl,_,rfl,z,k2,q,ls,least,fun t=>C (3*(t+1)),rfl,oq,hq,bN _ _ Ve,by lia,ml,fb (ae mL kL),kK,fun i _=>c0 i,fun c5 H3 rs s3 n3 e3 lrs Vt Vu=>?_⟩⟩
   refine ⟨c5,rs,rfl,e3,by lia,fun c6 H4 k5 s4 n4 hk Ft hn e4=>?_⟩
   obtain ⟨Me,Mf,Vv⟩:=JY (q:=q) Vu hk hn Ft;have FD:(rs.take k5).length≤r'.length-1:=by rw [mD];lia
   have Mg:∀t,Cg q (ag (rs.take k5) t) (C (3*(t+1))):=fun t=>by
    rw [Vv];by_cases h:t<ls.length;·exact Vt t h
    ·rw [da (by lia)]
     have z1:=c0 t;rw [da (by lia)] at z1
     exact xu hq kK ((Cg.of_eq (cJ _)).trans z1)
   generalize rs.take k5=r2 at e4 Me Mf FD Mg;have jn:=s3.trans s4;refine ⟨by show 1≤sizeLine;decide,fun l6 n6=>?_⟩
   have s6:=aB (o:=.lst [.ref c6]) n6;refine ⟨_,rfl,l6,D,_,_,rfl,rfl,av,s6 _ _ (jn _ _ eD),by show 3≤sizeLine;decide,fun l7 n7=>hR _ _ ?_⟩
   have s7:=aB (o:=.lst ([.ref c6]++[.ref f1,.ref f2])) n7;have ot:=s6.trans s7;have tN:jg (upd (upd H4 l6 (.lst [.ref c6])) l7 (.lst ([.ref c6]++[.ref f1,.ref f2]))) l7 r2 u2 v2:=⟨c6,f1,f2,av,ot _ _ e4,ot _ _ (jn _ _ Vk),ot _ _ (jn _ _ Vo)⟩;have mw:=bN.trans (jn.trans ot);generalize upd (upd H4 l6 (.lst [.ref c6])) l7 (.lst ([.ref c6]++[.ref f1,.ref f2]))=H5 at tN mw ⊢;have Mh:=BN.mono mw;obtain ⟨Vw,rJ⟩:=id Mh;simp only [d5,d6];refine fP fun _ hR=>du ⟨_,rfl,lb,_,_,_,rfl,rfl,.of (mw _ _ Fz),rfl,_,rfl,b0,_,_,_,rfl,rfl,.of (mw _ _ (s1 _ _ yc)),zS l1,hR _ _ ?_⟩;simp only [d5,d6];obtain ⟨x,ex,Vx⟩:∃x:Int,Cg q (ag r' (r'.length-1) ^ (r.length-r'.length)) (ht ^ (r.length-r'.length-1)*x)∧(q=0→ic x (W r'.length)):=I.high hq ne;have Mi:ic (ag r' (r'.length-1)) (W (r.length-1)):=by
    have:=I.JX (3*r'.length)
    rwa [lV l1] at this
   have nG:=I.pP ne;have lS:∀i,i≤r.length-r'.length→ic (ag r' (r'.length-1) ^ i) (10 ^ 600):=fun i hi=>ae (S.pow Mi (Nat.le_succ_of_le hi)) kL;have Vy:ic (ag r' (r'.length-1)) (10 ^ 600):=ae (ae Mi S.u) kL;have Vz:=(sc.trans s1).trans mw;have BO:r2.length<r'.length:=gh FD (Nat.sub_lt l1 (by decide))
   have BP:u2.length+r'.length≤n0+1∧v2.length+r'.length≤n0+1∧u'.length+r2.length≤n0+1∧v'.length+r2.length≤n0+1:=by have FA:u2.length≤max u.length (bs.length+u'.length-1):=FA;have FC:v2.length≤max v.length (bs.length+v'.length-1):=FC;exact ⟨J6 FA yd le ln.1 ln.2.2.1,J6 FC yd le ln.2.1 ln.2.2.2,J7 BO le ln.2.2.1,J7 BO le ln.2.2.2⟩
   have VA:=G.w1;have rn0:=I.rn;have ext:(r2.length<r'.length∨r'.length=n0)∧(r'.length<n0→u'.length+r'.length≤n0∧v'.length+r'.length≤n0):=⟨.inl BO,fun h=>by have e1:=ln.2.2.1;have e2:=ln.2.2.2;rcases bx.1 with e | e <;> exact ⟨by lia,by lia⟩⟩
   have VC:=G.n5;have eC:∀i,Cg q (aI r2 u2 v2 i) (C i):=Sl hq kK (by have:=hC 0;rwa [So] at this) Mg Vl Vp
   have Mj:q≠0→∀i,(aI r2 u2 v2 i).natAbs≤1000:=fun q0=>xx (Ac hq (aJ 1000) q0 Me) (Ac hq (aJ 1000) q0 Vm) (Ac hq (aJ 1000) q0 Vq);rw [←hL] at hC;have VD:∀h2,Cg q (ag r' (r'.length-1) ^ (r.length-r'.length)) (ht ^ (r.length-r'.length-1)*h2)→ic h2 (W r'.length)→CI q ts us f g n0 m0 W r' u' v' r2 u2 v2 (ag r' (r'.length-1)) h2:=fun h2 eh VE=>I.next hq G ne yd BM pf PI.nz BL hC bC eC Mj FD Mf eh VE;clear Mj eC hC bC pf BL PI S1 turn hP L7 L8 L9 L_ Ma Mb bx;refine du ⟨_,rfl,z,Vw,_,rfl,rJ,fM (by decide +kernel),⟨_,rfl,_,rfl,ag r' (r'.length-1),_,rfl,gb.1,gb.2.1,fun i hi=>lS i (ae hi (iT gb.2.2.1)),Vy,by show 1≤sizeLine;decide,fun l8 n8=>⟨_,rfl,_,rfl,_,_,rfl,rfl,ht,_,rfl,gb.2.2.2.2.1,gb.2.2.2.2.2,fun i hi=>hS i (ae (ae hi (iT gb.2.2.2.1)) (Nat.sub_le _ _)),ye,?_⟩⟩⟩
   rw [gb.2.2.1,gb.2.2.2.1];have s8:=aB (o:=.lst [.int (ag r' (r'.length-1) ^ (r.length-r'.length))]) n8;refine ⟨z,l8,q,[ag r' (r'.length-1) ^ (r.length-r'.length)],ht ^ (r.length-r'.length-1),fun _=>x,rfl,Mh.mono s8,hq,av,by show 1≤500;decide,fun y hy=>by rw [iV.mp hy];exact fb (lS _ (aJ _)),fb (hS _ (Nat.sub_le _ _)),pM hq I.nh _,fun i hi=>?_,fun c9 H9 rs9 s9 n9 e9 l9 VF VG=>?_⟩
   ·rw [show i=0 from Nat.lt_one_iff.mp hi]
    exact ex
   obtain ⟨h2,rfl⟩:=List.length_eq_one_iff.mp l9;have Ml:Cg q h2 x:=VF 0 (by show 0<1;decide)
   refine ⟨_,_,_,_,rfl,rfl,.of e9,rfl,?_⟩;have I2:=VD h2 (ex.trans (Ml.symm.mulL _)) (by
    by_cases q0:q=0
    ·have z1:=Vx q0
     subst q0
     rwa [oJ.mp (gG.mp Ml)]
    ·exact ae (Ac hq (aJ 1000) q0 VG h2 (iV.mpr rfl)) (VA _))
   exact ⟨_,BO,lb,l7,r',u',v',r2,u2,v2,_,_,_,_,_,_,rfl,rfl,Vz.trans (s8.trans s9),⟨b0,b1,b2,(s8.trans s9) _ _ (mw _ _ Fz),(s8.trans s9) _ _ (mw _ _ (s1 _ _ yc)),(s8.trans s9) _ _ (mw _ _ Mc),(s8.trans s9) _ _ (mw _ _ Md)⟩,tN.mono (s8.trans s9),I2,BJ,BK,Vn,Vr,fun e=>absurd e ne,⟨BP.2.2.1,BP.2.2.2,BP.1,BP.2.1⟩,ext⟩
  ·have e0:r'=[]:=mI.mp (by rw [Fy,rS] at hb;lia)
   obtain ⟨d1,d2⟩:=I.dv (ag r) (cF.self hq _) (cF.R5 hq fun t=>Cg.of_eq (by rw [e0];exact da (by simp)))
   have rn:=I.rn;have VC:=G.n5;exact Vb _ _ ⟨_,rfl,k la a0 a1 a2 r u v Hc sc eA Fx L4 L5 I.tr BH BI I.bz em d1 d2 (by lia) (by lia) (by lia) (by rw [←Va];exact bx.2) fun nr=>Ec I.bA⟩)
 have Mm:(ts.map V.int).length=ts.length:=aT _;have BQ:(us.map V.int).length=us.length:=aT _;refine ⟨_,rfl,a,_,rfl,.inl (.of (bN _ _ ea)),_,rfl,b,_,rfl,.inl (.of (bN _ _ eb)),_,_,rfl,rfl,_,rfl,b5 (fun hb=>?_) (fun hb=>?_)⟩
 ·have hb:=dm hb
  rw [Mm,BQ] at hb;refine fP fun _ hR=>du (J5 rfl (bN _ _ eb) fun lc H3 s3 t3=>hR _ _ ?_);refine du (J0 rfl (s3 _ _ (bN _ _ ea)) fun ld H4 s4 t4=>?_);obtain ⟨I,G⟩:=CI.start (ts:=ts) (us:=us) (u:=[]) (v:=[1]) (u':=[1]) (v':=[]) hq L.w1 L.am (by lia) (show ts.length≤us.length by lia) L.bu L.bt (fun j=>⟨BE j,BC j,BC j,BE j⟩) tu tt (L.sA (by lia)) (L.eA (by lia)) (fun t=>by rw [Aa,xw];lia) (fun t=>by rw [Aa,xw];lia) fun D d1 d2=>⟨d2,d1⟩
  refine next lc ld us [] [1] ts [1] [] _ _ _ _ H4 (by lia) (fun n m a b c=>L.lim n m (.inr a) b c) (bN.trans (s3.trans s4)) (t3.mono s4) t4 I G BG BF BF BG (fun e=>?_) ⟨by simp <;> lia,by simp <;> lia,by simp <;> lia,by simp <;> lia⟩ ⟨.inr rfl,fun h=>absurd h (gg _)⟩
  have:us.length=0:=by rw [e];rfl
  lia
 ·rw [Mm,BQ,rS] at hb
  obtain ⟨I,G⟩:=CI.start (ts:=ts) (us:=us) (u:=[1]) (v:=[]) (u':=[]) (v':=[1]) hq L.w1 L.am (by lia) (show us.length≤ts.length by lia) L.bt L.bu (fun j=>⟨BC j,BE j,BE j,BC j⟩) tt tu (L.sB (by lia)) (L.eB (by lia)) (fun t=>by rw [Aa,xw];lia) (fun t=>by rw [Aa,xw];lia) fun D d1 d2=>⟨d1,d2⟩
  refine next la lb ts [1] [] us [] [1] _ _ _ _ H2 (by lia) (fun n m a b c=>L.lim n m (.inl a) b c) bN (t1.mono s2) t2 I G BF BG BG BF (fun e=>⟨e,mI.mp ?_⟩) ⟨by simp <;> lia,by simp <;> lia,by simp <;> lia,by simp <;> lia⟩ ⟨.inr rfl,fun h=>absurd h (gg _)⟩
  have:ts.length=0:=by rw [e];rfl
  lia
theorem VH:bp ["world","one","other","first","second","told","lead","u","v"] ["world","one","other"] (aM AF):=bJ
theorem Mn(T:Txt K mg t):aW P w K mg base bR 9 t.qh t.t_ ["world","one","other"] (Su t.a_):=by
 have S:=VH;have ou:=E9 (P:=P) (w:=w) (base:=base) T;refine T.rf.cw S (fun _ _ _ _ H _ _ _ hr h=>?_);obtain ⟨z,a,b,q,ps,rs,D1,D2,f,g,W,VB,Z,rfl,hz,hq,hA,hB,I,k⟩:=h
 refine ⟨_,(ak (putL 3 S.nd (fJ (pv 0) T.dq T.mi ou (hr.mono (by decide)) T.rz .nil ay (aa (aD (vt T) hr T.qY T.jT.kp T.qX ay (aa (pv 0) (aa (pv 1) af))) af)))
  (ak (putL 4 S.nd (fJ (pv 0) T.dq T.mi ou (hr.mono (by decide)) T.rz .nil ay (aa (aD (vt T) hr T.qY T.jT.kp T.qX ay (aa (pv 0) (aa (pv 2) af))) af)))
  (ak (putL 5 S.nd (aD (U_ T) hr T.KD T.uU.kp T.KC ay (aa (pv 0) (aa (aA a9 (pv 3) ah) (aa (aA a9 (pv 4) ah) af)))))
  (ak (bI (bG dW (bq cq rfl T.ck cn (aa (aA bQ (pv 5) ah) af)) ah) (aw (aR (fI (aa (cy af) (aa (cy af) (aa (cy af) af)))))) b8)
  (ak (putL 6 S.nd (aA bQ (aA bQ (pv 5) ah) (jy jz ah)))
  (ak (putL 7 S.nd (aD (vw T) hr T.q8 T.jU.kp T.qZ ay (aa (pv 0) (aa (aA bQ (pv 5) ah) (aa (aA a9 (pv 3) ah) (aa (pv 6) af))))))
  (ak (putL 8 S.nd (aD (vw T) hr T.q8 T.jU.kp T.qZ ay (aa (pv 0) (aa (aA bQ (pv 5) ah) (aa (aA a9 (pv 4) ah) (aa (pv 6) af))))))
  (aw (aR (fI (aa (aD (vw T) hr T.q8 T.jU.kp T.qZ ay (aa (pv 0) (aa (aA bQ (pv 5) ah) (aa ah (aa (pv 6) af))))) (aa (pv 7) (aa (pv 8) af))))))))))))),?_⟩
 obtain ⟨dz,hd⟩:=id hz;have VI:=jd ps;have VJ:=jd rs;have lp:=I.lp;have lr:=I.lr;have hW:=I.hW;have big:=I.big;obtain ⟨z1,FE⟩:1≤Z 1∧W≤10 ^ 290:=I.zw;have BR:10 ^ 290≤10 ^ 300:=dr (by decide) (by decide)
 refine ⟨_,rfl,z,dz,_,rfl,hd,fM (by decide +kernel),_,rfl,_,rfl,z,a,q,ps,10 ^ 290,rfl,hz,hq,hA,by lia,fun ca H1 s1 Fo yf=>?_⟩
 refine ⟨z,ca,q,aN ps,10 ^ 290,D1,rfl,hz.mono s1,hq,yf,by lia,I.nR,fun p hp=>I.Ad p (xq hp),BR,by decide +kernel,ae I.d1 (ae FE BR),fun v1 H2 ts b1 s2 n1 W1=>?_⟩
 have bN:=s1.trans s2;have hd2:=bN _ _ hd;refine ⟨_,rfl,z,dz,_,rfl,hd2,fM (by decide +kernel),_,rfl,_,rfl,z,b,q,rs,10 ^ 290,rfl,⟨dz,hd2⟩,hq,hB.mono bN,by lia,fun cb H3 s3 Fq yg=>?_⟩
 refine ⟨z,cb,q,aN rs,10 ^ 290,D2,rfl,⟨dz,s3 _ _ hd2⟩,hq,yg,by lia,I.gT,fun p hp=>I.Ae p (xq hp),BR,by decide +kernel,ae I.d2 (ae FE BR),fun v2 H4 us b2 s4 n2 W2=>?_⟩
 obtain ⟨tp,l,rfl,e1,e2,_⟩:=n1;obtain ⟨my,l',rfl,f_,vA,_⟩:=n2;have jn:=s3.trans s4;have e1:=jn _ _ e1;have e2:=jn _ _ e2;have ox:=bN.trans jn;have yh:=ox _ _ hd;have lt:=W1.len;have lu:=W2.len;have cA:=yf.dJ;have cB:=yg.dJ;have bT:∀x∈ts,x.natAbs≤W:=fun x hx=>by
  obtain ⟨i,hi,rfl⟩:=iu hx;have cH:i<(aN ps).length:=by lia
  have e:=(W1.each i cH).1;rw [getD_at hi,iI cH] at e;exact tK hq hW (by rw [←iI cH];exact dP hq cA i) e W1.ok I.nR W1.dvd (I.w1 i) (I.t1 i)
 have bU:∀x∈us,x.natAbs≤W:=fun x hx=>by
  obtain ⟨i,hi,rfl⟩:=iu hx;have cH:i<(aN rs).length:=by lia
  have e:=(W2.each i cH).1;rw [getD_at hi,iI cH] at e;exact tK hq hW (by rw [←iI cH];exact dP hq cB i) e W2.ok I.gT W2.dvd (I.w2 i) (I.u2 i)
 have VL:q=0→∀x∈us,x.natAbs≤VB:=fun q0 x hx=>by
  obtain ⟨i,hi,rfl⟩:=iu hx;have cH:i<(aN rs).length:=by lia
  have e:=(W2.each i cH).1;rw [getD_at hi,iI cH] at e;have c1:=dP hq cB i;have c2:=W2.ok;have c3:=I.gT;have c4:=I.w2 i;have c5:=I.u3 q0 i;rw [iI cH] at c1;subst q0;exact Ss c1 e c2 c3 W2.dvd c4 c5
 have LT:=I.lim ts us lt lu bT bU VL;have tT:de q ts:=fun ne=>by
  have t1:=iY.mpr ne;have cH:ts.length-1<(aN ps).length:=by lia
  have e:=(W1.each _ cH).1;refine zV hq (dP hq cA _) ?_ e W1.ok;rw [lt];exact zT (by lia)
 have tU:de q us:=fun ne=>by
  have t1:=iY.mpr ne;have cH:us.length-1<(aN rs).length:=by lia
  have e:=(W2.each _ cH).1;refine zV hq (dP hq cB _) ?_ e W2.ok;rw [lu];exact zT (by lia)
 have oq:D1≠0:=fun e=>I.nR.nz hq (by rw [e];exact dB q)
 have vB:D2≠0:=fun e=>I.gT.nz hq (by rw [e];exact dB q)
 have iL:ic b1 W:=ae (je W1.dvd oq) I.d1;have rK:ic b2 W:=ae (je W2.dvd vB) I.d2;have hP:=JF (q:=q) (b:=b1) lt fun k hk=>⟨0,by have:=(W1.each k hk).1;dsimp only;lia⟩
 have hR:=JF (q:=q) (b:=b2) lu fun k hk=>⟨0,by have:=(W2.each k hk).1;dsimp only;lia⟩
 have c1:=I.c1;have c2:=I.c2;dsimp only [bE];refine ⟨_,rfl,_,rfl,tp,_,_,_,rfl,rfl,.of e1,rfl,_,rfl,my,_,_,_,rfl,rfl,.of f_,rfl,z,l,l',q,ts,us,Z,rfl,⟨dz,yh⟩,hq,e2,vA,by lia,by lia,LT,tT,tU,fun p l0 l1 l2 r u v H5 s5 ep vx FF FG tr tu tv bz em d1 d2 lr5 lu5 lv5 ext VM=>?_⟩
 have rJ:=s5 _ _ yh;have iQ:=ox.trans s5;dsimp only [bE];refine ⟨_,rfl,p,_,_,_,rfl,rfl,.of ep,rfl,l0,r.map V.int,rfl,.inl (.of vx),rfl,_,rfl,b5 (fun h0=>?_) (fun h0=>?_)⟩
 ·have r0:r=[]:=mI.mp (by simpa using h0)
  obtain ⟨t0,u0⟩:=em r0;subst r0 t0 u0;have q1:aN ps=[]:=mI.mp (by rw [←lt];rfl)
  have q2:aN rs=[]:=mI.mp (by rw [←lu];rfl)
  have wz:=z1;have VN:([]:List Int).length<max (aN ps).length (aN rs).length→([]:List Int).length+([]:List Int).length≤max (aN ps).length (aN rs).length∧([]:List Int).length+([]:List Int).length≤max (aN ps).length (aN rs).length:=fun _=>⟨b9 _,b9 _⟩;refine ⟨b9 _,fun m0 n0=>⟨b9 _,fun m1 n1=>⟨b9 _,fun m2 n2=>⟨by show 3≤sizeLine;decide,fun pp np=>?_⟩⟩⟩⟩
  have t1:=aB (o:=.lst []) n0;have t2:=aB (o:=.lst []) n1;have t3:=aB (o:=.lst []) n2;have t4:=aB (o:=.tup [.ref m0,.ref m1,.ref m2]) np;have ne1:m0≠m1:=fun e=>by rw [←e,av] at n1;cases n1
  have ne2:m0≠m2:=fun e=>by rw [←e,t2 _ _ av] at n2;cases n2
  have ne3:m1≠m2:=fun e=>by rw [←e,av] at n2;cases n2
  exact k pp m0 m1 m2 [] [] [] [] [] [] [] [] b1 b2 1 _ (iQ.trans (t1.trans (t2.trans (t3.trans t4)))) av (none_of iQ n0) (none_of (iQ.trans t1) n1) (none_of (iQ.trans (t1.trans t2)) n2) ne1 ne2 ne3 (Ed (t4 _ _ (t3 _ _ (t2 _ _ av)))) (Ed (t4 _ _ (t3 _ _ av))) (Ed (t4 _ _ av)) rfl rfl rfl (b9 _) (b9 _) (b9 _) VN (fun x h=>nomatch h) (fun x h=>nomatch h) (fun x h=>nomatch h) (fun x h=>nomatch h) (fun x h=>nomatch h) iL rK wz
   ⟨W1.ok,W2.ok,hP,hR,jf hq,fun i h=>absurd h (oC _),fun i h=>absurd h (oC _),fun i h=>absurd h (oC _),rfl,rfl,rfl,fun t=>by rw [xw];exact Cg.of_eq rfl,d1,d2,fun _=>⟨q1,q2,rfl,rfl⟩,fun h=>absurd rfl h,fun h=>absurd rfl h⟩
 ·have rn:r≠[]:=fun e=>h0 (by rw [e];rfl)
  have yi:=iY.mpr rn;obtain ⟨Ab,Eg,VO⟩:=VM rn;have zL:Z r.length≤Z 1:=LT.am _ _ yi;have br:=fun x hx=>ae (Ab x hx) zL;have bu:=fun x hx=>ae (Eg x hx) zL;have bv:=fun x hx=>ae (VO x hx) zL;have nG:=tr rn;have zB:Z 1≤10 ^ 290:=ae (fW _ (by lia)) big
  have mz:∀{x:Int},x.natAbs≤10 ^ 290→aP x:=fun h=>fb (ae h (dr (by decide) (by decide)))
  have wB:W≤10 ^ 290:=FE;generalize tO:ag r (r.length-1)=ld at nG;have vC:ic ld (Z 1):=by rw [←tO];exact nQ br _
  have vD:ic ld (10 ^ 290):=ae vC zB;have mul:∀(x y:Int),x.natAbs≤Z 1→y.natAbs≤W→(x*y).natAbs≤B2:=fun x y hx hy=>by rw [a8];exact ae (bH hx hy) big
  dsimp only [iy];refine ⟨_,rfl,p,_,_,_,rfl,rfl,.of ep,rfl,_,rfl,l0,_,_,_,rfl,rfl,.of vx,zS yi,?_⟩;rw [show r.getD (r.length-1) 0=ld from tO];dsimp only [bE];refine ⟨_,rfl,_,rfl,p,_,_,_,rfl,rfl,.of ep,rfl,_,rfl,tp,_,_,_,rfl,rfl,.of (s5 _ _ e1),rfl,_,rfl,z,l1,q,b1,ld,u,B2,rfl,⟨dz,rJ⟩,hq,FF,by lia,nG,mz vD,mz (ae iL wB),fun x hx=>mz (ae (bu x hx) zB),vD,fun x hx=>mul _ _ (bu x hx) iL,fun r1 VP H6 s6 Mp FH Mq Mr=>?_⟩
  have yj:=s6 _ _ rJ;dsimp only [bE];refine ⟨_,rfl,_,rfl,p,_,_,_,rfl,rfl,.of (s6 _ _ ep),rfl,_,rfl,my,_,_,_,rfl,rfl,.of (s6 _ _ (s5 _ _ f_)),rfl,_,rfl,z,l2,q,b2,ld,v,B2,rfl,⟨dz,yj⟩,hq,s6 _ _ FG,by lia,nG,mz vD,mz (ae rK wB),fun x hx=>mz (ae (bv x hx) zB),vD,fun x hx=>mul _ _ (bv x hx) rK,fun r2 VQ H7 s7 BS FI Ms Mt=>?_⟩
  have VR:=s7 _ _ yj;have ot:=s6.trans s7;dsimp only [bE];refine ⟨_,rfl,_,rfl,p,_,_,_,rfl,rfl,.of (ot _ _ ep),rfl,_,rfl,z,l0,q,1,ld,r,B2,rfl,⟨dz,VR⟩,hq,ot _ _ vx,by lia,nG,mz vD,mz (by decide),fun x hx=>mz (ae (br x hx) zB),vD,fun x hx=>mul _ _ (br x hx) (by show 1≤W;lia),fun r3 gs H8 s8 oy Mu BU Mv=>?_⟩
  refine ⟨_,rfl,_,rfl,by show 3≤sizeLine;decide,fun pp rN=>?_⟩
  have sp:=aB (o:=.tup [.ref r3,.ref r1,.ref r2]) rN;have yk:=s7.trans s8;have VS:=s6.trans yk;obtain ⟨_,eu,_⟩:=id FH;obtain ⟨_,ev,_⟩:=id FI;have ne1:r3≠r1:=fun e=>by rw [e,s7 _ _ eu] at oy;cases oy
  have ne2:r3≠r2:=fun e=>by rw [e,ev] at oy;cases oy
  have ne3:r1≠r2:=fun e=>by rw [←e,eu] at BS;cases BS
  refine k pp r3 r1 r2 gs VP VQ ts us r u v b1 b2 ld _ (iQ.trans (VS.trans sp)) av (none_of (iQ.trans ot) oy) (none_of iQ Mp) (none_of (iQ.trans s6) BS) ne1 ne2 ne3 (Mu.mono sp) (FH.mono (yk.trans sp)) (FI.mono (s8.trans sp)) (zU fun h=>?_) (zU fun h=>?_) (zU fun h=>?_) (by lia) (by lia) (by lia) (by rw [←lt,←lu];exact ext) Ab bu bv bT bU iL rK vC
   ⟨W1.ok,W2.ok,hP,hR,nG,fun i h=>Mv i (by lia),fun i h=>Mr i (by lia),fun i h=>Mt i (by lia),BU,Mq,Ms,bz,d1,d2,fun e=>absurd (by rw [e] at BU;exact BU.symm) (Nat.ne_of_gt yi),fun _=>tO.symm,tr⟩
  ·refine DY hq (dP hq Mu.dJ _) ?_ (Mv _ (by lia))
   rw [BU];refine dY hq ?_ (jf hq);rw [show r.getD (r.length-1) 0=ld from tO];exact nG
  ·refine DY hq (dP hq FH.dJ _) ?_ (Mr _ (by lia))
   rw [Mq];exact dY hq (tu (iY.mp (by lia))) (W1.ok.nz hq)
  ·refine DY hq (dP hq FI.dJ _) ?_ (Mt _ (by lia))
   rw [Ms];exact dY hq (tv (iY.mp (by lia))) (W2.ok.nz hq)
theorem VT:bp ["world","one","other","first","second","told","bottom","by"] ["world","one","other"] (aM AE):=bJ
theorem Mw(T:Txt K mg t):aW P w K mg base (dX P w) 7 t.qg t.t9 ["world","one","other"] (SJ t.a_):=by
 have S:=VT;have ou:=E9 (P:=P) (w:=w) (base:=base) T;refine T.q_.eK S (fun _ _ _ _ H _ _ _ hr h L=>?_);obtain ⟨z,a,b,q,ps,rs,D1,D2,f,g,TT,U,LL,rfl,hz,hq,hA,hB,cI,k⟩:=h
 refine ⟨_,(ak (putL 3 S.nd (fJ (pv 0) T.dq T.mi ou (hr.mono (by decide)) T.rz .nil ay (aa (aD (vt T) hr T.qY T.jT.kp T.qX ay (aa (pv 0) (aa (pv 1) af))) af)))
  (ak (putL 4 S.nd (fJ (pv 0) T.dq T.mi ou (hr.mono (by decide)) T.rz .nil ay (aa (aD (vt T) hr T.qY T.jT.kp T.qX ay (aa (pv 0) (aa (pv 2) af))) af)))
  (ak (bI (bG dW (bq cq rfl T.ck cn (aa (aA a9 (pv 4) ah) af)) ah) (aw (sZ L rfl r9 T.Bs rfl T.Bo (aa eV af))) b8)
  (ak (putL 5 S.nd (aD (LH T) hr T.EH T.qW.kp T.EG ay (aa (pv 0) (aa (aA a9 (pv 3) ah) (aa (aA a9 (pv 4) ah) af)))))
  (ak (putL 6 S.nd (au fL (aA a9 (pv 5) ah) (aA a9 (pv 3) ah)))
  (ak (putL 7 S.nd (aD (vw T) hr T.q8 T.jU.kp T.qZ ay (aa (pv 0) (aa (aA a9 (pv 5) ah) (aa (aA a9 (pv 4) ah) (aa (pv 6) af))))))
  (aw (aR (fI (aa (pv 7) (aa (aD (vt T) hr T.qY T.jT.kp T.qX ay (aa (pv 0) (aa (aD (vw T) hr T.q8 T.jU.kp T.qZ ay (aa (pv 0) (aa (aA a9 (pv 5) ah) (aa ah (aa (pv 6) af))))) af))) af))))))))))),?_⟩
 obtain ⟨dz,hd⟩:=id hz;obtain ⟨lp,lr,nR,gT,Ad,Ae,w1,w2,t1,u2,hT,hU,d2,d1,Ai,hc,len,big,Ki⟩:=id cI;have VI:=jd ps;have VJ:=jd rs;have lY:10 ^ 290≤10 ^ 300:=dr (by decide) (by decide)
 refine ⟨_,rfl,z,dz,_,rfl,hd,fM (by decide +kernel),_,rfl,_,rfl,z,a,q,ps,10 ^ 290,rfl,hz,hq,hA,by lia,fun ca H1 s1 Fo yf=>?_⟩
 refine ⟨z,ca,q,aN ps,10 ^ 290,D1,rfl,hz.mono s1,hq,yf,by lia,nR,fun p hp=>Ad p (xq hp),lY,by decide +kernel,ae d1 lY,fun v1 H2 ts b1 s2 n1 W1=>?_⟩
 have bN:=s1.trans s2;have hd2:=bN _ _ hd;refine ⟨_,rfl,z,dz,_,rfl,hd2,fM (by decide +kernel),_,rfl,_,rfl,z,b,q,rs,10 ^ 290,rfl,⟨dz,hd2⟩,hq,hB.mono bN,by lia,fun cb H3 s3 Fq yg=>?_⟩
 refine ⟨z,cb,q,aN rs,10 ^ 290,D2,rfl,⟨dz,s3 _ _ hd2⟩,hq,yg,by lia,gT,fun p hp=>Ae p (xq hp),lY,by decide +kernel,ae d2 (ae Ai lY),fun v2 H4 us b2 s4 n2 W2=>?_⟩
 obtain ⟨tp,l,rfl,e1,e2,_⟩:=n1;obtain ⟨my,l',rfl,f_,vA,_⟩:=n2;have jn:=s3.trans s4;have e1:=jn _ _ e1;have e2:=jn _ _ e2;have ox:=bN.trans jn;have yh:=ox _ _ hd;have lt:=W1.len;have lu:=W2.len;dsimp only [bE];refine ⟨_,rfl,my,_,_,_,rfl,rfl,.of f_,rfl,l',us.map V.int,rfl,.inl (.of vA),rfl,_,rfl,b5 (fun h0=>?_) (fun h0=>?_)⟩
 ·have z0:us.length=0:=by simpa using h0
  exact absurd (mI.mp (by lia)) hc
 ·have u1:1≤us.length:=by
   have:¬us.length=0:=fun e=>h0 (by simp [e])
   lia
  dsimp only [iy];have cA:=yf.dJ;have cB:=yg.dJ;have bT:∀x∈ts,x.natAbs≤TT:=fun x hx=>by
   obtain ⟨i,hi,rfl⟩:=iu hx;have cH:i<(aN ps).length:=by lia
   have e:=(W1.each i cH).1;rw [getD_at hi,iI cH] at e;exact tK hq hT (by rw [←iI cH];exact dP hq cA i) e W1.ok nR W1.dvd (w1 i) (t1 i)
  have bU:∀x∈us,x.natAbs≤U:=fun x hx=>by
   obtain ⟨i,hi,rfl⟩:=iu hx;have cH:i<(aN rs).length:=by lia
   have e:=(W2.each i cH).1;rw [getD_at hi,iI cH] at e;exact tK hq hU (by rw [←iI cH];exact dP hq cB i) e W2.ok gT W2.dvd (w2 i) (u2 i)
  have lz:¬q∣us.getD (us.length-1) 0:=by
   have cH:us.length-1<(aN rs).length:=by lia
   have e:=(W2.each _ cH).1;refine zV hq (dP hq cB _) ?_ e W2.ok;rw [lu];exact zT (by lia)
  have tz:1≤ts.length→¬q∣ts.getD (ts.length-1) 0:=fun t1=>by
   have cH:ts.length-1<(aN ps).length:=by lia
   have e:=(W1.each _ cH).1;refine zV hq (dP hq cA _) ?_ e W1.ok;rw [lt];exact zT (by lia)
  generalize hn:ts.length+1-us.length=n;have nL:n≤LL:=by lia
  have pw:(2*U) ^ n≤(2*U) ^ LL:=dr (by lia) nL
  have oj:TT*(2*U) ^ n≤10 ^ 570:=ae (d4 TT pw) big;have oq:D1≠0:=fun e=>nR.nz hq (by rw [e];exact dB q)
  have vB:D2≠0:=fun e=>gT.nz hq (by rw [e];exact dB q)
  have iL:b1.natAbs≤D1.natAbs:=je W1.dvd oq;have rK:b2.natAbs≤U:=ae (je W2.dvd vB) d2;have vE:10 ^ 570≤10 ^ 580:=dr (by decide) (by decide)
  have FJ:10 ^ 290≤10 ^ 580:=dr (by decide) (by decide)
  refine ⟨_,rfl,_,rfl,tp,_,_,_,rfl,rfl,.of e1,rfl,_,rfl,my,_,_,_,rfl,rfl,.of f_,rfl,z,l,l',q,ts,us,TT,U,rfl,⟨dz,yh⟩,hq,e2,vA,by lia,by lia,u1,bT,bU,by lia,hT,by rw [hn];exact ae oj vE,ae Ai FJ,lz,fun h=>tz (by lia),fun p l1 l2 bs ls az H5 s5 ep FF FG I _=>?_⟩
  rw [hn] at I;have rJ:=s5 _ _ yh;have Fg:az.natAbs≤10 ^ 580:=ae I.bm (ae (gi _ hT) (ae oj vE));have bM:(az*b1).natAbs≤10 ^ 580:=by rw [a8];exact ae (ae (bH (ae I.bm (d4 1000 pw)) iL) Ki) vE
  have nM:=dY hq I.nz (W1.ok.nz hq);have Ff:∀x∈bs,x.natAbs≤10 ^ 580:=fun x hx=>ae (ae (fW _ (by lia)) (I.bb x hx)) (ae oj vE)
  have xW:∀x∈ls,x.natAbs≤10 ^ 580:=fun x hx=>ae (I.bl x hx) (ae oj vE);have yd:=I.lb;have ach:=I.ll;dsimp only [bE];refine ⟨_,rfl,p,_,_,_,rfl,rfl,.of ep,rfl,_,rfl,tp,_,_,_,rfl,rfl,.of (s5 _ _ e1),rfl,_,_,rfl,rfl,⟨pS Fg,pS (ae iL (ae d1 FJ))⟩,?_⟩;refine ⟨_,rfl,_,rfl,p,_,_,_,rfl,rfl,.of ep,rfl,_,rfl,my,_,_,_,rfl,rfl,.of (s5 _ _ f_),rfl,_,rfl,z,l1,q,b2,az*b1,bs,10 ^ 580,rfl,⟨dz,rJ⟩,hq,FF,by lia,nM,pS bM,pS (ae rK (ae Ai FJ)),fun x hx=>pS (Ff x hx),bM,fun x hx=>?_,fun r1 pV H6 s6 Mp VU lby wby=>?_⟩
  ·rw [a8]
   exact ae (d4 _ (ae rK (show U≤2*U by lia))) (ae (I.bb x hx) (ae oj vE))
  have yj:=s6 _ _ rJ;dsimp only [bE];refine ⟨_,rfl,_,rfl,_,rfl,_,rfl,p,_,_,_,rfl,rfl,.of (s6 _ _ ep),rfl,_,rfl,z,l2,q,1,az*b1,ls,10 ^ 580,rfl,⟨dz,yj⟩,hq,s6 _ _ FG,by lia,nM,pS bM,aP.of_lt (by decide) (by decide),fun x hx=>pS (xW x hx),bM,fun x hx=>?_,fun r2 FK H7 s7 BS VV BM wls=>?_⟩
  ·rw [fU]
   exact xW x hx
  refine ⟨z,r2,q,FK,10 ^ 580,rfl,⟨dz,s7 _ _ yj⟩,hq,VV,by lia,fun r3 H8 s8 oy VW=>?_⟩
  refine ⟨by show 2≤sizeLine;decide,fun pp rN=>?_⟩
  have sp:ai H8 (upd H8 pp (.tup [.ref r1,.ref r3])):=aB rN;have iQ:=ox.trans s5;have yk:=s7.trans s8;have acm:=jd FK;exact k pp r1 r3 pV (aN FK) _ (iQ.trans (s6.trans (yk.trans sp))) av (VU.mono (yk.trans sp)) (VW.mono sp) (by lia) (by lia)
theorem VX:bp ["world","one","other","first","second"] ["world","one","other"] (aM AD):=bJ
theorem VY(T:Txt K mg t):aW P w K mg base bR 6 t.qf t.t8 ["world","one","other"] (SI t.a_):=by
 have S:=VX;have ou:=E9 (P:=P) (w:=w) (base:=base) T;refine T.uV.cw S (fun _ _ _ _ H _ _ _ hr h=>?_);obtain ⟨z,a,b,q,ps,rs,D1,D2,f,g,X1,X2,Y1,Y2,L1,L2,rfl,hz,hq,hA,hB,U5,U6,h1,h2,x1,x2,bX,y1,y2,bY,k⟩:=h
 refine ⟨_,(ak (putL 3 S.nd (fJ (pv 0) T.dq T.mi ou (hr.mono (by decide)) T.rz .nil ay (aa (pv 1) af)))
  (ak (putL 4 S.nd (fJ (pv 0) T.dq T.mi ou (hr.mono (by decide)) T.rz .nil ay (aa (pv 2) af)))
  (aw (aR (aD (vt T) hr T.qY T.jT.kp T.qX ay (aa (pv 0) (aa (aD (vw T) hr T.q8 T.jU.kp T.qZ ay (aa (pv 0) (aa (aD (LD T) hr T.EF T.qV.kp T.EE ay (aa (aA a9 (pv 3) ah) (aa (aA a9 (pv 4) ah) af))) (aa ah (aa (au fL (aA a9 (pv 3) ah) (aA a9 (pv 4) ah)) af))))) af))))))),?_⟩
 obtain ⟨dz,hd⟩:=id hz;have oq:D1≠0:=fun e=>h1.ok.nz hq (by rw [e];exact dB q)
 have vB:D2≠0:=fun e=>h2.ok.nz hq (by rw [e];exact dB q)
 have VZ:X1≤10 ^ 270:=ae (fW _ (by lia)) bX
 have FL:X2≤10 ^ 270:=ae (fX _ (by lia)) bX
 have BA:D1.natAbs≤10 ^ 270:=ae h1.bD (ae (fW _ (by lia)) bY)
 have BB:D2.natAbs≤10 ^ 270:=ae h2.bD (ae (fX _ (by lia)) bY)
 have Mx:10 ^ 270≤10 ^ 300:=dr (by decide) (by decide)
 have Mz:B2≤10 ^ 300:=by unfold B2;exact dr (by decide) (by decide)
 have iN:1000≤B2:=by decide +kernel
 refine ⟨_,rfl,z,dz,_,rfl,hd,fM (by decide +kernel),_,rfl,z,a,q,ps,B2,D1,rfl,⟨dz,hd⟩,hq,hA,by lia,h1.ok,h1.dvd,Mz,iN,ae BA Mx,fun v1 H1 ts b1 s1 n1 w1=>?_⟩
 have mq:=s1 _ _ hd;refine ⟨_,rfl,z,dz,_,rfl,mq,fM (by decide +kernel),_,rfl,z,b,q,rs,B2,D2,rfl,⟨dz,mq⟩,hq,hB.mono s1,by lia,h2.ok,h2.dvd,Mz,iN,ae BB Mx,fun v2 H2 us b2 s2 n2 w2=>?_⟩
 obtain ⟨tp,l,rfl,e1,e2,_⟩:=n1;obtain ⟨my,l',rfl,f_,vA,_⟩:=n2;have e1:=s2 _ _ e1;have e2:=s2 _ _ e2;have lt:=w1.len;have lu:=w2.len;have cA:=hA.dJ;have cB:=hB.dJ;have yl:∀{x:Int},x.natAbs≤10 ^ 270→aP x:=fun h=>Kh (ae h (dr (by decide) (by decide)))
 have bT:∀x∈ts,x.natAbs≤X1:=fun x hx=>by
  obtain ⟨i,hi,rfl⟩:=iu hx;have e:=(w1.each i (by lia)).1
  rw [getD_at hi] at e;exact tK hq x1 (dP hq cA i) e w1.ok h1.ok w1.dvd (h1.w i) (h1.bf i)
 have bU:∀x∈us,x.natAbs≤X2:=fun x hx=>by
  obtain ⟨i,hi,rfl⟩:=iu hx;have e:=(w2.each i (by lia)).1
  rw [getD_at hi] at e;exact tK hq x2 (dP hq cB i) e w2.ok h2.ok w2.dvd (h2.w i) (h2.bf i)
 have mt:∀t∈ts,aP t:=fun x hx=>yl (ae (bT x hx) VZ);have mu:∀t∈us,aP t:=fun x hx=>yl (ae (bU x hx) FL);have rep1:∀i,i<ps.length→aS q (ts.getD i 0,b1) (f i,D1):=fun i hi=>by
  have a:=(w1.each i hi).1;have w:aS q (ps.getD i o1) (ts.getD i 0,b1):=⟨0,by dsimp only;rw [a];lia⟩
  exact w.symm.trans (h1.w i) (dP hq cA i).bot
 have rep2:∀i,i<rs.length→aS q (us.getD i 0,b2) (g i,D2):=fun i hi=>by
  have a:=(w2.each i hi).1;have w:aS q (rs.getD i o1) (us.getD i 0,b2):=⟨0,by dsimp only;rw [a];lia⟩
  exact w.symm.trans (h2.w i) (dP hq cB i).bot
 have V0:b1.natAbs≤10 ^ 270:=ae (je w1.dvd oq) BA;have V1:b2.natAbs≤10 ^ 270:=ae (je w2.dvd vB) BB;have bb:(b1*b2).natAbs≤10 ^ 270:=by rw [a8];exact ae (bH (ae (je w1.dvd oq) h1.bD) (ae (je w2.dvd vB) h2.bD)) bY
 have V2:10 ^ 270≤B2:=by unfold B2;exact dr (by decide) (by decide)
 have bN:=s1.trans s2;have hd2:=bN _ _ hd;refine ⟨_,rfl,_,rfl,_,rfl,tp,_,_,_,rfl,rfl,.of e1,rfl,_,rfl,my,_,_,_,rfl,rfl,.of f_,rfl,l,l',ts,us,rfl,e2,vA,mt,mu,by lia,by lia,fun c3 H3 s3 LQ Fl=>?_⟩
 have MA:∀x∈gQ ts us,x.natAbs≤B2:=fun x hx=>by
  unfold gQ at hx;obtain ⟨k,_,rfl⟩:=fE.mp hx;refine ae (DO (M:=10 ^ 270) fun i j hi hj=>?_) (ae (bH (show ts.length≤50 by lia) (gi (10 ^ 270) (show us.length≤50 by lia))) (by decide +kernel))
  rw [a8];exact ae (bH (nJ bT i) (nJ bU j)) bX
 have lcv:(gQ ts us).length=ts.length+us.length-1:=by unfold gQ;rw [aT,gI]
 refine ⟨_,rfl,tp,_,_,_,rfl,rfl,.of (s3 _ _ e1),rfl,_,rfl,my,_,_,_,rfl,rfl,.of (s3 _ _ f_),rfl,_,_,rfl,rfl,⟨yl V0,yl V1⟩,z,c3,q,1,b1*b2,gQ ts us,B2,rfl,⟨dz,s3 _ _ hd2⟩,hq,Fl,by lia,(w1.ok.mul w2.ok).nz hq,yl bb,aP.of_lt (by decide) (by decide),fun x hx=>Kh (MA x hx),ae bb V2,fun x hx=>by rw [fU];exact MA x hx,fun c4 xs H4 s4 Fm hG lG wG=>?_⟩
 have eG:xs=cZ q ps.length rs.length f g (D1*D2) (ps.length+rs.length-1):=by
  have cG:=hG.dJ;refine List.ext_getElem (by unfold cZ;rw [aT,gI];lia) fun i i1 i2=>?_
  have e3:(cZ q ps.length rs.length f g (D1*D2) (ps.length+rs.length-1))[i]=cz q (bK ps.length rs.length f g i) (D1*D2):=by rw [←getD_at (d:=o1) i2];exact zX (by lia)
  rw [e3];have w:=wG i (by lia)
  rw [getD_at i1,getD_at (show i<(gQ ts us).length by lia),fU] at w
  have e4:(gQ ts us)[i]'(by lia)=bK ts.length us.length (fun i=>ts.getD i 0) (fun j=>us.getD j 0) i:=by
   rw [←getD_at (d:=(0:Int)) (show i<(gQ ts us).length by lia)]
   exact zX (by lia)
  rw [e4,lt,lu] at w;refine kI hq (cG _ (gD _)) (gR hq (h1.ok.mul h2.ok)) ?_;exact (w.trans (Rw rep1 rep2 i) (w1.ok.mul w2.ok)).trans (gx (h1.ok.mul h2.ok)).symm (h1.ok.mul h2.ok)
 rw [eG] at hG;have MB:=bN.trans (s3.trans s4);refine ⟨z,c4,q,_,B2,rfl,⟨dz,s4 _ _ (s3 _ _ hd2)⟩,hq,hG,by unfold cZ;rw [aT,gI];lia,fun c5 H5 s5 MC hC=>k c5 H5 (MB.trans s5) (none_of MB MC) hC⟩
theorem V3:bp ["world","n"] ["world","n"] (aM AI):=bJ
theorem MD(T:Txt K mg t):aW P w K mg base bR 5 t.qk t.ue ["world","n"] (SK t.a_):=by
 have S:=V3;have kT:=xU (P:=P) (w:=w) (base:=base) T;obtain ⟨dv,mq,vv⟩:=T.Bn;refine T.rh.cw S (fun _ _ _ _ H vs _ _ hr h=>?_);obtain ⟨z,q,n,rfl,⟨dz,hd⟩,hq,n1,aco,k⟩:=h;refine ⟨_,(aw (aR (au lL (aD (Bw T) hr T.xJ T.md.kp T.xI ay (aa (pv 0) (aa (cy (aa (fJ (pv 0) T.dq T.rq kT (hr.mono (by decide)) vv mq i9 (aa (jy jz ah) af)) af)) (aa (pv 1) af)))) (cy (aa (fJ (pv 0) T.dq T.rq kT (hr.mono (by decide)) vv mq i9 (aa ah af)) af))))),?_⟩
 have nv:=DI hq;have ME:∀{Hx:Hp} {v:V} {x:Int},x.natAbs≤1000→pE Hx q v x 1→a7 1000 Hx q v (cf q x).1 (cf q x).2:=fun{Hx v x} bx ho=>by
  obtain ⟨p,np,wp⟩:=JA (B:=1000) ho hq (jf hq) bx (by decide)
  obtain ⟨c,w⟩:=nS q x hq;rw [←kI hq np.canon c (wp.trans w.symm aY.one)];exact np
 refine ⟨_,rfl,_,rfl,z,dz,_,rfl,hd,fM (by decide +kernel),_,rfl,z,q,-1,1,rfl,⟨dz,hd⟩,hq,aP.of_lt (by decide) (by decide),fun h=>absurd h nv,fun _ v0 H1 s1 ho=>?_⟩
 refine ⟨by show 1≤sizeLine;decide,fun l nl=>?_⟩
 have sl:ai H1 (upd H1 l (.lst [v0])):=aB nl;have hR:aE 1000 (upd H1 l (.lst [v0])) q l [cf q (-1)]:=⟨[v0],av,rfl,fun i v p h1 h2=>by
  match i,h1,h2 with
  | 0,h1,h2=>cases h1;cases h2;exact (ME (by decide) ho).mono sl
  | i+1,h1,h2=>simp at h1⟩
 generalize upd H1 l (.lst [v0])=H2 at sl hR ⊢;have s2:=s1.trans sl;refine ⟨_,rfl,z,l,q,[cf q (-1)],1000,n,rfl,⟨dz,s2 _ _ hd⟩,hq,hR,by decide,by show 1≤n;exact n1,by lia,fun b H3 s3 nb hB=>?_⟩
 have FN:=s2.trans s3;refine ⟨_,rfl,z,dz,_,rfl,FN _ _ hd,fM (by decide +kernel),z,q,1,1,rfl,⟨dz,FN _ _ hd⟩,hq,aP.of_lt (by decide) (by decide),fun h=>absurd h nv,fun _ v1 H4 s4 V4=>?_⟩
 refine ⟨by show 1≤sizeLine;decide,fun l4 V5=>?_⟩
 have FO:ai H4 (upd H4 l4 (.lst [v1])):=aB V5;have MF:upd H4 l4 (.lst [v1]) l4=some (.lst [v1]):=av;have h1:=(ME (by decide) V4).mono FO
 generalize upd H4 l4 (.lst [v1])=H5 at FO MF h1 ⊢;have iR:=s4.trans FO;obtain ⟨vs,eb,lv,fv⟩:=hB.mono iR;refine ⟨b,l4,vs,[v1],rfl,rfl,eb,MF,?_,fun c nc=>?_⟩
 ·rw [lv]
  unfold jc;exact ae (show _≤200 by simp;lia) (by decide)
 have sc:ai H5 (upd H5 c (.lst (vs++[v1]))):=aB nc;have iQ:=FN.trans iR;refine k c _ (iQ.trans sc) (none_of iQ nc) (aE.cat av lv rfl (fun i v p h1 h2=>(fv i v p h1 h2).mono sc) (fun i v p e1 e2=>?_))
 match i,e1,e2 with
 | 0,e1,e2=>cases e1;cases e2;exact h1.mono sc
 | i+1,e1,e2=>simp at e1
theorem V6:bp ["row"] ["row"] (aM AH):=bJ
theorem MG(T:Txt K mg t):aW P w K mg base (dX P w) 1 t.qj t.ud ["row"] (RX t.nY):=by
 have S:=V6;obtain ⟨uM,hM,rM⟩:=T.Lx;refine T.rg.eK S (fun _ _ _ _ H _ _ _ hr h L=>?_);obtain ⟨a,xs,rfl,ea,acp,kE,k⟩:=h
 refine ⟨_,(ak (bI (sq (Ow sI sI ah (bq cq rfl T.ck cn (aa (pv 0) af)) (CA (v:=.int 40) rfl hM rM))) (aw (sZ L rfl r9 T.E7 rfl T.E4 (aa eV af))) b8)
  (aw (aR (bq cq rfl T.ck cn (aa (pv 0) af))))),?_⟩
 refine ⟨_,rfl,a,xs,rfl,.inl (.of ea),_,_,rfl,rfl,_,rfl,b5 (fun h1=>?_) (fun h1=>?_)⟩
 ·have e1:(1:Int)≤(xs.length:Int):=dm h1
  refine ⟨_,_,rfl,rfl,_,rfl,b5 (fun h2=>?_) (fun h2=>?_)⟩
  ·have e2:¬(xs.length:Int)≤40:=by simpa using h2
   exact ⟨by show 1≤sizeLine;decide,kE (.inr (by lia))⟩
  ·have e2:(xs.length:Int)≤40:=by simpa using h2
   exact ⟨_,rfl,a,xs,rfl,.inl (.of ea),k fun h=>by rcases h with h | h <;> lia⟩
 ·have e1:¬(1:Int)≤(xs.length:Int):=fun z=>h1 (dG z)
  exact ⟨false,rfl,dI ⟨by show 1≤sizeLine;decide,kE (.inl (by lia))⟩⟩
theorem V7:bp ["n","aim"] ["n","aim"] (aM AG):=bJ
theorem V8(T:Txt K mg t):aW P w K mg base (dX P w) 1 t.qi t.uc ["n","aim"] (RY t.nY):=by
 have S:=V7;refine T.uW.eK S (fun _ _ _ _ H _ _ _ hr h L=>?_);obtain ⟨n,a,xs,rfl,ea,kE,k⟩:=h;refine ⟨_,(aw (bI (bG oV (bq cq rfl T.ck cn (aa (pv 1) af)) (pv 0)) (aw (sZ L rfl r9 T.E7 rfl T.E4 (aa eV af))) b8)),?_⟩;refine ⟨_,rfl,a,xs,rfl,.inl (.of ea),_,rfl,rfl,_,rfl,b5 (fun m7=>?_) (fun m7=>?_)⟩
 ·have m7:xs.length≠n:=fun z=>by
   have:(xs.length:Int)=(n:Int):=by lia
   rw [pB,dG this] at m7;cases m7
  exact ⟨by show 1≤sizeLine;decide,kE m7⟩
 ·have heq:xs.length=n:=by
   by_cases z:(xs.length:Int)=(n:Int);·lia
   ·exact absurd (by rw [pB,fS z];rfl) m7
  exact k heq
theorem V9:bp ["world","row","n","told"] ["world","row"] (aM AK):=bJ
theorem MH(T:Txt K mg t):aW P w K mg base (dX P w) 10 t.qm t.ug ["world","row"] (Kj t.a_):=by
 have S:=V9;refine T.me.eK S (fun _ _ _ _ H vs _ _ hr h L=>?_);obtain ⟨z,a,q,n,W,ps,rfl,hz,hq,hA,cI,kN,k⟩:=h
 refine ⟨_,(ak (putL 2 S.nd (aD (MG T) hr T.EN T.rg.kp T.EM (m4 L) (aa (pv 1) af)))
  (ak (putL 3 S.nd (aD (Mn T) hr T.EL T.rf.kp T.EK ay (aa (pv 0) (aa (pv 1) (aa (aD (MD T) hr T.ER T.rh.kp T.EO ay (aa (pv 0) (aa (pv 2) af))) af)))))
  (ak (bI (bG jA (bq cq rfl T.ck cn (aa (aA a9 (pv 3) ah) af)) ah) (aw (aR jw)) b8)
  (aw (aR (aD (Bw T) hr T.xJ T.md.kp T.xI ay (aa (pv 0) (aa (aA a9 (pv 3) ah) (aa (pv 2) af))))))))),?_⟩
 obtain ⟨dz,hd⟩:=id hz;obtain ⟨D,f,R⟩:=cI.row;have n1:=cI.sz.t.n1;have dy:=cI.sz.t.dy;have len:=cI.len;have lt:=nU (q:=q) n1;obtain ⟨xs,ea,lv,fv⟩:=id hA;have ln:(xs.length:Int)=(n:Int):=by lia
 refine ⟨_,rfl,a,xs,rfl,ea,by lia,fun h=>?_,fun _=>?_⟩
 ·unfold zY at h
  lia
 rw [ln];dsimp only [bE]
 try simp only [d5,d6,L2.start]
 refine ⟨_,rfl,_,rfl,_,rfl,_,rfl,z,q,n,rfl,hz,hq,n1,by lia,fun c1 H1 s1 V_ hT=>?_⟩
 refine ⟨z,a,c1,q,ps,df q n,D,1,f,tp n,W,1,Zt q n W,rfl,hz.mono s1,hq,hA.mono s1,hT.weak (by decide +kernel),cI.Kk hq R,fun p l0 xV l2 gs us vs ts ws r u v b1 b2 ld H2 s2 ep _ _ Wa _ _ _ hG hU _ _ _ _ MI _ _ ext _ bu _ bt _ iL _ vC C=>?_⟩
 have bN:=s1.trans s2;have cp:=hA.dJ;have cu:=hU.dJ;have yi:=C.nn hq n1;have Wb:=C.lg;obtain ⟨gv,eg,Wc,_⟩:=id hG;dsimp only [bE]
 try simp only [d5,d6]
 refine ⟨_,rfl,p,_,_,_,rfl,rfl,.of ep,rfl,l0,gv,rfl,.inl (.of eg),_,_,rfl,rfl,_,rfl,b5 (fun h0=>?_) (fun h0=>?_)⟩
 ·have h0:(1:Int)<(gv.length:Int):=dm h0
  exact kN _ bN fun D' f' w h=>C.no hq n1 (by lia) (Ak hq cp w.ok w.w C.k1 C.p1 h)
 ·have h0:¬(1:Int)<(gv.length:Int):=fun z=>h0 (dG z)
  have l1:r.length=1:=by lia
  have cl:=jd ps;have hl:=ext (by rw [jh hq n1,lt];lia)
  rw [jh hq n1,lt] at hl;have FP:u.length≤n:=by lia
  have BQ:=C.lu;obtain ⟨F,M,RW,m⟩:=C.row hq n1 l1 cu FP (jQ cI.sz.t 1) cI.sz.t.w bu vC iL;dsimp only [iy];refine ⟨_,rfl,_,rfl,p,_,_,_,rfl,rfl,.of ep,rfl,_,rfl,z,xV,q,us,B2,n,rfl,(hz.mono bN),hq,hU,by decide +kernel,by lia,by lia,fun c H3 s3 nc hC=>?_⟩
  exact k c _ F M H3 (bN.trans s3) (none_of bN nc) hC (C.SV hq n1 l1 cp (by lia) RW m)
theorem Wd:bp ["world","row","aim","n","turn","told","answer"] ["world","row","aim"] (aM AJ):=bJ
theorem We(T:Txt K mg t):aW P w K mg base (dX P w) 10 t.ql t.uf ["world","row","aim"] (SM t.a_):=by
 have S:=Wd;refine T.uX.eK S (fun _ _ _ s H vs _ _ hr h L=>?_);obtain ⟨z,a,b,q,SS,n,W,X,ps,ss,s,rfl,hz,hq,hA,hB,cI,ls,RS,x1,bX,k⟩:=h
 refine ⟨_,(ak (putL 3 S.nd (aD (MG T) hr T.EN T.rg.kp T.EM (m4 L) (aa (pv 1) af)))
  (ak (G6 (aD (V8 T) hr T.KJ T.uW.kp T.KI (m4 L) (aa (pv 3) (aa (pv 2) af))))
  (ak (putL 4 S.nd (aD (MD T) hr T.ER T.rh.kp T.EO ay (aa (pv 0) (aa (pv 3) af))))
  (ak (putL 5 S.nd (aD (Mn T) hr T.EL T.rf.kp T.EK ay (aa (pv 0) (aa (pv 1) (aa (pv 4) af)))))
  (ak (bI (bG jA (bq cq rfl T.ck cn (aa (aA a9 (pv 5) ah) af)) ah) (aw (aR (fI (aa eV (aa (aA a9 (pv 5) ah) (aa (aD (Bw T) hr T.xJ T.md.kp T.xI ay (aa (pv 0) (aa (aA a9 (aD (Mw T) hr T.EJ T.q_.kp T.EI (m4 L) (aa (pv 0) (aa (pv 4) (aa (aA a9 (pv 5) ah) af)))) ah) (aa (pv 3) af)))) af)))))) b8)
  (ak (putL 6 S.nd (aA a9 (aD (Mw T) hr T.EJ T.q_.kp T.EI (m4 L) (aa (pv 0) (aa (aD (VY T) hr T.KH T.uV.kp T.KG ay (aa (pv 0) (aa (aA a9 (pv 5) ah) (aa (pv 2) af)))) (aa (pv 4) af)))) ah))
  (aw (aR (fI (aa eV (aa (aD (Bw T) hr T.xJ T.md.kp T.xI ay (aa (pv 0) (aa (pv 6) (aa (pv 3) af)))) af))))))))))),?_⟩
 obtain ⟨dz,hd⟩:=id hz;obtain ⟨D,f,R⟩:=cI.row;have n1:=cI.sz.t.n1;have dy:=cI.sz.t.dy;have len:=cI.len;have lt:=nU (q:=q) n1;obtain ⟨xs,ea,lv,fv⟩:=id hA;obtain ⟨ys,eb,lw,fw⟩:=id hB;have ln:(xs.length:Int)=(n:Int):=by lia
 refine ⟨_,rfl,a,xs,rfl,ea,by lia,fun h=>?_,fun _=>?_⟩
 ·unfold zY at h
  lia
 rw [ln];dsimp only [bE];refine ⟨_,rfl,_,rfl,n,b,ys,rfl,eb,fun h=>absurd (by lia) h,fun _=>?_⟩
 try dsimp only [iy]
 refine ⟨_,rfl,_,rfl,z,q,n,rfl,hz,hq,n1,by lia,fun c1 H1 s1 V_ hT=>?_⟩
 have hT:=hT.weak (B':=10 ^ 290) (by decide +kernel)
 dsimp only [bE];refine ⟨_,rfl,_,rfl,_,rfl,z,a,c1,q,ps,df q n,D,1,f,tp n,W,1,Zt q n W,rfl,hz.mono s1,hq,hA.mono s1,hT,cI.Kk hq R,fun p l0 xV l2 gs us vs ts ws r u v b1 b2 ld H2 s2 ep _ _ Wa _ _ _ hG hU _ MJ _ _ MI _ _ ext br bu _ bt _ iL _ vC C=>?_⟩;have bN:=s1.trans s2;have cp:=hA.dJ;have cu:=hU.dJ;have yi:=C.nn hq n1;have Wb:=C.lg;have MK:=hT.mono s2;obtain ⟨gv,eg,Wc,_⟩:=id hG;dsimp only [bE];refine ⟨_,rfl,p,_,_,_,rfl,rfl,.of ep,rfl,l0,gv,rfl,.inl (.of eg),_,_,rfl,rfl,_,rfl,b5 (fun h0=>?_) (fun h0=>?_)⟩
 ·have h0:(1:Int)<(gv.length:Int):=dm h0
  obtain ⟨M,G,PI⟩:=C.SX hq cI.sz hG.dJ MJ (by lia) MI br
  have neg:∀D f,fA q n ps D f→¬Inv q n f:=fun D' f' w h=>C.no hq n1 (by lia) (Ak hq cp w.ok w.w C.k1 C.p1 h)
  refine ⟨_,rfl,p,_,_,_,rfl,rfl,.of ep,rfl,_,rfl,_,rfl,_,rfl,_,rfl,p,_,_,_,rfl,rfl,.of ep,rfl,z,c1,l0,q,df q n,gs,1,M,tp n,G,1000,Zt q n W 2,n,rfl,hz.mono bN,hq,MK,hG,PI,fun p2 m1 m2 pV tM H3 s3 og Wf _ _ Wg=>?_⟩;rw [MJ,jh hq n1,lt] at Wg;have gA:=bN.trans s3;refine ⟨p2,_,_,_,rfl,rfl,.of og,rfl,_,rfl,z,m1,q,pV,10 ^ 580,n,rfl,hz.mono gA,hq,Wf,ka (by decide),by lia,by lia,fun c4 H4 s4 Fm FQ=>?_⟩
  refine ⟨by show 3≤sizeLine;decide,fun pp rN=>?_⟩
  exact k pp _ _ _ (gA.trans (s4.trans (aB rN))) av (.inl ⟨rfl,neg⟩)
 ·have h0:¬(1:Int)<(gv.length:Int):=fun z=>h0 (dG z)
  have l1:r.length=1:=by lia
  have cl:=jd ps;have hl:=ext (by rw [jh hq n1,lt];lia)
  rw [jh hq n1,lt] at hl;have FP:u.length≤n:=by lia
  have BQ:=C.lu;obtain ⟨F,M,RW,m⟩:=C.row hq n1 l1 cu FP (jQ cI.sz.t 1) cI.sz.t.w bu vC iL;have pos:∀D f,fA q n ps D f→Inv q n f:=fun D' f' w=>Ak hq cp C.k1 C.p1 w.ok w.w (C.inv hq n1 l1);dsimp only [iy];have z1:=jQ cI.sz.t 1;have hW:=cI.sz.t.w;have ZW:1000≤Zt q n W 1*W:=ae z1 (fW _ (by lia))
  have ZX:Zt q n W 1*W*X≤10 ^ 270:=ae (bH cI.sz.big bX) (by decide +kernel)
  have PI:=S2 hq n1 dy RW RS (by lia) (by lia) (ae (by decide) ZW) cI.sz.big bX
  refine ⟨_,rfl,_,rfl,_,rfl,p,_,_,_,rfl,rfl,.of ep,rfl,_,rfl,z,xV,b,q,us,ss,M,SS,F,s,Zt q n W 1*W,X,Zt q n W 1*W,X,n,n,rfl,hz.mono bN,hq,hU,hB.mono bN,by lia,by lia,RW,RS,ZW,x1,ZX,ae (by decide) ZW,by lia,ZX,fun c3 H3 s3 LQ Wh=>?_⟩
  have gA:=bN.trans s3;refine ⟨_,rfl,z,c3,c1,q,_,df q n,M*SS,1,bK us.length ss.length F s,tp n,10 ^ 280,1000,2*n,rfl,hz.mono gA,hq,Wh,MK.mono s3,PI,fun p2 m1 m2 pV tM H4 s4 og _ Wi Wj _=>?_⟩;rw [jh hq n1,lt] at Wj;have ox:=gA.trans s4;refine ⟨p2,_,_,_,rfl,rfl,.of og,rfl,?_⟩;dsimp only [bE];refine ⟨_,rfl,_,rfl,_,rfl,z,m2,q,tM,10 ^ 580,n,rfl,hz.mono ox,hq,Wi,ka (by decide),by lia,by lia,fun c5 H5 s5 MC FR=>?_⟩
  refine ⟨by show 2≤sizeLine;decide,fun pp rN=>?_⟩
  exact k pp _ _ _ (ox.trans (s5.trans (aB rN))) av (.inr ⟨rfl,pos⟩)
theorem Wk:bp ["told","many"] ["told","many"] (aM A_):=bJ
theorem Wl(T:Txt K mg t):aW P w K mg base bR 2 t.qK t.uI ["told","many"] Kq:=by
 have S:=Wk;have gY:=vz (P:=P) (w:=w) (base:=base) (B:=1000) T;refine T.vk.cw S (fun _ _ _ _ H _ _ _ hr h=>?_);obtain ⟨td,q,n,rfl,ht,hq,n1,dy,k⟩:=h;refine ⟨_,(aw (aR (au lL (au lL (cy (aa (aD gY hr T.jW T.gW.kp T.jV ay (aa (pv 0) (aa (jy jz ah) af))) af)) (kA (N:=["k","told"]) (ρ:=(fun σ=>[σ[0]?.join])) (gM [0] rfl) rfl (hE rfl T.gz (aa (au eF (pv 1) ah) af)) (fun _ _ _=>.nil) (fun _ _ _=>(aD gY hr T.jW T.gW.kp T.jV ay (aa (pv 1) (aa ah af)))))) (cy (aa (aD gY hr T.jW T.gW.kp T.jV ay (aa (pv 0) (aa ah af))) af))))),?_⟩;refine ⟨_,rfl,_,rfl,td,q,-1,rfl,ht,hq,by decide,by decide,fun v0 H1 s1 h0=>?_⟩
 refine ⟨by show 1≤sizeLine;decide,fun l nl=>?_⟩
 have sl:ai H1 (upd H1 l (.lst [v0])):=aB nl;have el:upd H1 l (.lst [v0]) l=some (.lst [v0]):=av;have h0:=h0.mono sl;generalize upd H1 l (.lst [v0])=H2 at sl el h0 ⊢;have s2:=s1.trans sl;refine pJ (xs:=(List.range (n-1)).map fun i:Nat=>V.int (0+(i:Int))) (fun R h=>?_) (by rw [aT,gI];exact jF (by lia)) (fun _ j y Hx=>a7 1000 Hx q y (cf q 0).1 (cf q 0).2) (fun _ _ _ _ _ _ h1 e f=>h1.cR e f) ?_ ?_
 ·exact ⟨_,rfl,_,_,rfl,rfl,((n-1:Nat):Int),fT (fun x=>[V.int x]) (show (n:Int)-1=((n-1:Nat):Int) by lia),by lia,by lia,h _ _ (ai.refl _) (by rw [dM];exact zE)⟩
 ·intro Dx i v hi Hc R sc _ kc
  exact ⟨_,rfl,td,q,0,rfl,ht.mono (s2.trans sc),hq,b9 _,by decide,fun u H' s' hu=>kc u H' s' hu⟩
 intro D ys H3 nD s3 e_ hP eD;rw [aT,gI] at e_;have Wm:=s2.trans s3;refine ⟨l,D,[v0],ys,rfl,rfl,s3 _ _ el,eD,ae (show _≤200 by simp;lia) (by decide),fun c nc=>?_⟩
 have sc:ai H3 (upd H3 c (.lst ([v0]++ys))):=aB nc;have ec:upd H3 c (.lst ([v0]++ys)) c=some (.lst ([v0]++ys)):=av;have hP:=fun i v e=>(hP i v e).mono sc;have h0:=(h0.mono s3).mono sc;generalize upd H3 c (.lst ([v0]++ys))=H4 at sc ec hP h0 ⊢;have s4:=Wm.trans sc;dsimp only;refine ⟨_,rfl,td,q,1,rfl,ht.mono s4,hq,by decide,by decide,fun v1 H5 s5 h1=>?_⟩
 refine ⟨by show 1≤sizeLine;decide,fun l5 Wn=>?_⟩
 have FT:ai H5 (upd H5 l5 (.lst [v1])):=aB Wn;have ML:upd H5 l5 (.lst [v1]) l5=some (.lst [v1]):=av;have h1:=h1.mono FT;generalize upd H5 l5 (.lst [v1])=H6 at FT ML h1 ⊢;have ym:=s5.trans FT;refine ⟨c,l5,[v0]++ys,[v1],rfl,rfl,ym _ _ ec,ML,ae (show _≤200 by simp;lia) (by decide),fun r nr=>?_⟩
 have sr:ai H6 (upd H6 r (.lst ([v0]++ys++[v1]))):=aB nr;refine k r _ (s4.trans (ym.trans sr)) (none_of (s4.trans ym) nr) ?_;have e0:cf q 0=o1:=by unfold cf;split <;> simp [o1]
 have one:∀{Hx:Hp} {v:V} {p:Int×Int},a7 1000 Hx q v p.1 p.2→∀(i:Nat) (w:V) (x:Int×Int),[v][i]?=some w→[p][i]?=some x→a7 1000 Hx q w x.1 x.2:=fun{Hx v p} hv i w x a b=>by
  match i,a,b with
  | 0,a,b=>cases a;cases b;exact hv
  | i+1,a,b=>simp at a
 unfold df jc;refine aE.cat av (by simp;lia) rfl (fun i v p a b=>?_) (one (h1.mono sr))
 by_cases hi:i<1
 ·rw [ip (by simpa using hi)] at a b
  exact one ((h0.mono ym).mono sr) i v p a b
 ·rw [g8 (by simp;lia)] at a b
  rw [k6] at b
  split at b
  ·cases b
   have z:=(hP _ v a).mono (ym.trans sr);rw [e0] at z;exact z
  ·cases b
theorem Wo:bp ["told","many","row","found","k"] ["told","many","row"] (aM Ba):=bJ
theorem BV(T:Txt K mg t):aW P w K mg base bR 4 t.qL t.uJ ["told","many","row"] Et:=by
 have S:=Wo;have gY:=vz (P:=P) (w:=w) (base:=base) (B:=B2) T;refine T.mh.cw S (fun _ _ _ _ H vs _ _ hr h=>?_);obtain ⟨td,a,q,D,n,ps,h,rfl,ht,hq,hA,n1,dy,lp,c_,bD,wh,bh,k⟩:=h
 refine ⟨_,(ak (tx (i0:=3) (N:=["k","told"]) (ρ:=(fun σ=>[σ[0]?.join])) (gM [0] rfl) rfl S.nd rfl (Or.inl rfl) (hE rfl T.gz (aa (pv 1) af)) (fun _ _ _=>.nil) (fun _ _ _=>(aD gY hr T.jW T.gW.kp T.jV ay (aa (pv 1) (aa ah af)))))
  (ak (i6 eS rfl (hE rfl T.gz (aa (bq cq rfl T.ck cn (aa (pv 2) af)) af)) (eE (i:=4) S.nd rfl (Or.inl rfl))
   (aw (@wI _ _ _ _ _ _ (aD (LY T) hr T.EV T.rk.kp T.EU ay (aa (pv 0) (aa (aA bQ (pv 3) (au eX (pv 4) (pv 1))) (aa (aA bQ (pv 2) (pv 4)) af)))) (wH (pv 3) (au eX (pv 4) (pv 1)) set_list) (by rfl) (by rfl) (by rfl))))
  (aw (aR (pv 3))))),?_⟩
 obtain ⟨vs,ea,lv,fv⟩:=id hA;have iN:1000≤B2:=by decide +kernel
 have e0:cz q 0 D=cf q 0:=by obtain ⟨c,w⟩:=nS q 0 hq;refine kI hq (gR hq c_) c ((gx (T:=0) c_).trans (aS.symm (w.trans ?_ aY.one)) c_);exact ⟨0,by simp⟩
 refine iG (du (pJ (xs:=(List.range n).map fun i:Nat=>V.int (0+(i:Int))) (fun R h=>⟨_,rfl,(n:Int),rfl,by lia,by lia,h _ _ (ai.refl _) (by rw [dM];exact zE)⟩) (by rw [aT,gI];exact jF (by lia)) (fun _ j y Hx=>a7 B2 Hx q y (cz q 0 D).1 (cz q 0 D).2) (fun _ _ _ _ _ _ h1 e f=>h1.cR e f) ?_ ?_))
 ·intro Dx i v hi Hc R sc _ kc
  refine ⟨_,rfl,td,q,0,rfl,ht.mono sc,hq,b9 _,iN,fun u H' s' hu=>kc u H' s' ?_⟩;rw [e0];exact hu
 intro fd ys H1 Bz s1 e_ hP Fw;rw [aT,gI] at e_;dsimp only [bE];refine ⟨_,rfl,a,vs,rfl,.inl (.of (s1 _ _ ea)),(vs.length:Int),rfl,by lia,by lia,?_⟩
 rw [dM]
 refine sG (fun i σ Hc=>ai H Hc∧∃(v4:Option V) (ws:List V),σ=[some (.ref td),some (.int (n:Int)),some (.ref a),some (.ref fd),v4]∧Hc fd=some (.lst ws)∧ws.length=n∧∀(x:Nat) (w:V),ws[x]?=some w→a7 B2 Hc q w (cz q (fQ n i h x) D).1 (cz q (fQ n i h x) D).2)
  ⟨s1,_,ys,rfl,Fw,e_,fun x w hw=>by rw [S3];exact hP x w hw⟩ ?_ ?_
 ·rintro i σ Hc hi ⟨sc,v4,ws,rfl,ef,ig,iO⟩
  have hn:i % n<n:=Nat.mod_lt _ (by lia)
  have cI:i % n<ws.length:=by lia
  have cH:i<ps.length:=by lia
  have MM:(0+(i:Int)) % (n:Int)=((i % n:Nat):Int):=by rw [wc];exact (Int.natCast_emod i n).symm
  have nA:=(fv i vs[i] ps[i] (by simp [hi]) (by simp [cH])).mono sc
  have nW:=iO (i % n) ws[i % n] (by simp [cI])
  have wA:=wh i;rw [getD_at cH] at wA;dsimp only [bE];refine ⟨_,rfl,_,rfl,_,rfl,_,rfl,_,_,rfl,rfl,(by show (0:Int)<(n:Int);lia),fd,ws,_,ws[i % n],rfl,rfl,.of ef,(by show dD ws ((0+(i:Int)) % (n:Int))=_;rw [MM];exact i8 (by simp [cI])),_,rfl,_,rfl,a,vs,_,vs[i],rfl,rfl,.of (sc _ _ ea),(by show dD vs (0+(i:Int))=_;rw [wc];exact i8 (by simp [hi])),td,q,_,_,cz q (fQ n i h (i % n)) D,ps[i],B2,rfl,ht.mono sc,hq,nW,nA,iN,by decide +kernel,fun v2 H2 s2 yb=>?_⟩
  have kU:=s2 _ _ ef;have eA:=Jr hq c_ (gR (T:=fQ n i h (i % n)) hq c_) nA.canon (gx c_) wA;rw [eA] at yb;refine ⟨_,rfl,_,rfl,_,rfl,_,_,rfl,rfl,(by show (0:Int)<(n:Int);lia),fd,ws,_,i % n,rfl,rfl,kU,(by show hV ws.length ((0+(i:Int)) % (n:Int))=_;rw [MM];unfold hV;rw [ar (by lia),ar (by lia),dM]),?_⟩
  have cR:∀b o,b≠fd→H2 b=some o→upd H2 fd (.lst (ws.set (i % n) v2)) b=some o:=fun b o nb e=>by rw [b7 nb];exact e
  refine ⟨kD (sc.trans s2) Bz,_,_,rfl,av,by rw [List.length_set];exact ig,fun x w hw=>?_⟩
  by_cases zx:i % n=x
  ·subst zx
   rw [vM cI] at hw;cases hw;rw [S4 (by lia) hn rfl]
   have bT:(fQ n i h (i % n)+h i).natAbs≤B2:=by have b1:=S6 (n:=n) (k:=i) (x:=i % n) bh;exact ae (wb ..) (ae (oH b1 (bh i)) (by decide +kernel))
   have bb:=DL hq c_ iN bT bD;exact (yb.DM bb.1 bb.2).cR kU cR
  ·rw [vN zx] at hw
   have hx:x<n:=by rw [←ig];exact (cV.mp hw).1
   rw [S5 (by lia) hx zx]
   exact ((iO x w hw).mono s2).cR kU cR
 ·rintro σ Hc ⟨sc,v4,ws,rfl,ef,ig,iO⟩
  refine ⟨_,rfl,k fd Hc sc Bz ⟨ws,ef,by rw [ig,tP],fun x w p x1 x2=>?_⟩⟩
  have hx:x<n:=by rw [←ig];exact (cV.mp x1).1
  have z:=iO x w x1;have e:(fc q n h D)[x]?=some (cz q (wr n h x) D):=by unfold fc;simp [hx]
  rw [e] at x2;cases x2;rw [Jt hq c_ c_ (T:=fQ n vs.length h x) (U:=wr n h x)] at z;·exact z
  ·obtain ⟨c,y⟩:=S8 (q:=q) (k:=vs.length) (h:=h) hx fun i hi=>by
    have w0:=wh i;rw [dw (by lia)] at w0
    exact Ey w0
   exact ⟨c*D,by dsimp only;rw [←Int.sub_mul,y,ir]⟩
theorem Wq:bp ["told","row","numbers"] ["told","row","numbers"] (aM Bc):=bJ
theorem BW(T:Txt K mg t):aW P w K mg base bR 6 t.qN t.uN ["told","row","numbers"] Ta:=by
 have S:=Wq;refine T.kR.cw S (fun _ _ _ _ H vs _ _ hr h=>?_);obtain ⟨td,a,b,q,D1,D2,n,ps,rs,f,g,X1,X2,Y1,Y2,rfl,ht,hq,hA,hB,n1,dy,lp,lr,R1,R2,bX,bY,k⟩:=h;refine ⟨_,(aw (aR (aD (BV T) hr T.xO T.mh.kp T.xN ay (aa (pv 0) (aa (bq cq rfl T.ck cn (aa (pv 1) af)) (aa (aD (Fv T) hr T.Bl T.n_.kp T.Bk ay (aa (pv 0) (aa (pv 1) (aa (pv 2) af)))) af)))))),?_⟩;obtain ⟨vs,ea,lv,fv⟩:=id hA;have ok:=R1.ok.mul R2.ok;have bD:(D1*D2).natAbs≤B2:=by rw [a8];exact ae (bH R1.bD R2.bD) (ae bY (by decide +kernel))
 have MN:∀i j,(f i*g j).natAbs≤10 ^ 260:=fun i j=>by rw [a8];exact ae (bH (R1.bf i) (R2.bf j)) bX
 have Wr:∀i j,(f i*g j).natAbs≤10 ^ 270:=fun i j=>ae (MN i j) (by decide +kernel)
 refine ⟨_,rfl,_,rfl,a,vs,rfl,.inl (.of ea),_,rfl,_,rfl,_,rfl,td,a,b,q,ps,rs,D1*D2,f,g,rfl,ht,hq,hA,hB,by lia,by lia,ok,bD,Wr,fun i j _ _=>JI (R1.w i) (R2.w j),fun c H1 s1 nc hC=>?_⟩
 have cP:=D4 (n:=ps.length) (m:=rs.length) (N:=ps.length+rs.length-1) (f:=f) (g:=g) hq ok;have lP:(cZ q ps.length rs.length f g (D1*D2) (ps.length+rs.length-1)).length=ps.length+rs.length-1:=by simp [cZ]
 have cl:=jd (cZ q ps.length rs.length f g (D1*D2) (ps.length+rs.length-1));refine ⟨td,c,q,D1*D2,n,_,cv f g,by rw [lv,lp];rfl,ht.mono s1,hq,hC,n1,dy,by lia,ok,bD,fun i=>?_,fun i=>?_,fun c2 H2 s2 Bx BX=>k c2 H2 (s1.trans s2) (none_of s1 Bx) BX⟩
 ·rw [DZ hq cP]
  refine (D7 ok i).trans ?_ ok;refine Kt (Ks (fun i hi=>R1.out i (by lia)) (fun j hj=>?_) i)
  have w:=R2.w j;rw [dw hj] at w;exact Ey w
 ·exact ae (Am R1.out MN i) (ae (gi _ dy) (by decide +kernel))
theorem Ws:bp ["pen","told","many","row","way","by"] ["pen","told","many"] (aM Bb):=bJ
theorem Wt(T:Txt K mg t):aW P w K mg base bR 7 t.qM t.uK ["pen","told","many"] (Tg K):=by
 have S:=Ws;refine T.rp.cw S (fun _ _ _ _ H _ Q _ hr h=>?_);obtain ⟨P0,a,td,ns,q,n,F,W1,W2,rfl,pc,hS,ht,hq,sz,k⟩:=h;have gY:=vz (P:=P) (w:=w) (base:=base) (B:=F+1000) T
 refine ⟨_,(ak (tx (i0:=3) (N:=["k","pen","told","many"]) (ρ:=(fun σ=>[σ[0]?.join,σ[1]?.join,σ[2]?.join])) (gM [0,1,2] rfl) rfl S.nd rfl (Or.inl rfl) (hE rfl T.gz (aa (pv 2) af)) (fun _ _ _=>.nil) (fun _ _ _=>(aD (LZ T) hr T.EX T.rl.kp T.EW ay (aa (pv 1) (aa (pv 2) (aa (aA (QM (K:=K)) (cy (aa (au CQ ah ah) (aa (au CQ ah ah) (aa ah (aa ah (aa ah (aa ah af))))))) (au eF (bq (Ox rfl) rfl T.Lu boot_min (aa (pv 3) (aa ah af))) ah)) af))))))
  (ak (putL 4 S.nd (aD (rD T) hr T.gf T.eO.kp T.gc ay (aa (pv 0) (aa ah af))))
  (ak (m8 5 S.nd (au d8 ah (aD (rD T) hr T.gf T.eO.kp T.gc ay (aa (pv 0) (aa (pv 2) af)))))
  (ak (bI (PW.pt (pw_or (bG dW (pv 4) ah) (pw_or1 (bG dW (pv 4) ah)))) (aw (putL 3 S.nd (aD (BV T) hr T.xO T.mh.kp T.xN ay (aa (pv 1) (aa (pv 2) (aa (aD (Fv T) hr T.Bl T.n_.kp T.Bk ay (aa (pv 1) (aa (pv 3) (aa (aD (Wl T) hr T.Lk T.vk.kp T.Lj ay (aa (pv 1) (aa (pv 5) af))) af)))) af)))))) b8)
  (ak (bI (bG dW (pv 4) ah) (aw (putL 3 S.nd (aD (BV T) hr T.xO T.mh.kp T.xN ay (aa (pv 1) (aa (pv 2) (aa (aD (Fv T) hr T.Bl T.n_.kp T.Bk ay (aa (pv 1) (aa (pv 3) (aa (kA (N:=["k","told"]) (ρ:=(fun σ=>[σ[1]?.join])) (gM [1] rfl) rfl (hE rfl T.gz (aa (pv 5) af)) (fun _ _ _=>.nil) (fun _ _ _=>(aD gY hr T.jW T.gW.kp T.jV ay (aa (pv 1) (aa ah af))))) af)))) af)))))) b8)
  (ak (bI (bG dW (pv 4) ah) (aw (tx (i0:=3) (N:=["k","told","by","pen"]) (ρ:=(fun σ=>[σ[1]?.join,σ[5]?.join,σ[0]?.join])) (gM [1,5,0] rfl) rfl S.nd rfl (Or.inl rfl) (hE rfl T.gz (aa (pv 2) af)) (fun _ _ _=>.nil) (fun _ _ _=>(aD gY hr T.jW T.gW.kp T.jV ay (aa (pv 1) (aa (au f9 (o8 Oy rfl T.xT boot_int (aa (mX dW (pv 0) (au eF (pv 2) ah)) af)) (au d8 ah (aD (rD T) hr T.gf T.eO.kp T.gc ay (aa (pv 3) (aa ah af))))) af)))))) b8)
  (ak (bI (bG dW (pv 4) ah) (aw (tx (i0:=3) (N:=["k","told","pen"]) (ρ:=(fun σ=>[σ[1]?.join,σ[0]?.join])) (gM [1,0] rfl) rfl S.nd rfl (Or.inl rfl) (hE rfl T.gz (aa (pv 2) af)) (fun _ _ _=>.nil) (fun _ _ _=>(aD gY hr T.jW T.gW.kp T.jV ay (aa (pv 1) (aa (au eF (aD (rD T) hr T.gf T.eO.kp T.gc ay (aa (pv 2) (aa ah af))) ah) af)))))) b8)
  (aw (aR (pv 3)))))))))),?_⟩
 obtain ⟨n1,n8,s1,s2,Ew,f4,pW,b1,xG,b2,n6⟩:=id sz;have bF:F≤B2:=ae pW (by decide +kernel)
 refine iG (du (zR (P:=P0) (a:=a) (n:=n) (gh n8 (by decide)) (fun R h=>⟨_,rfl,(n:Int),rfl,by lia,by lia,by rw [dM];exact h H (aL.refl _) pc⟩) (fun D _ y Hx=>∃xm:Int×Int,a7 F (er P0 Hx) q y xm.1 xm.2) (fun _ _ _ _ _ _ ⟨xm,h1⟩ e _ f=>⟨xm,h1.zO e f⟩) ?_ ?_))
 ·intro D i hi Hc R sc rO _ nD kc
  refine ⟨_,rfl,_,rfl,_,_,rfl,rfl,⟨by decide,by decide,by decide⟩,_,_,rfl,rfl,⟨by decide,by decide,by decide⟩,by show 6≤sizeLine;decide,fun l nl=>?_⟩
  have t1:=aB (o:=.lst [.int (10 ^ Int.toNat 12),.int (10 ^ Int.toNat 12),.int 100,.int 9,.int 9,.int 9]) nl;have el:upd Hc l (.lst [.int (10 ^ Int.toNat 12),.int (10 ^ Int.toNat 12),.int 100,.int 9,.int 9,.int 9]) l=some (.lst [.int (10 ^ Int.toNat 12),.int (10 ^ Int.toNat 12),.int 100,.int 9,.int 9,.int 9]):=av;refine ⟨_,rfl,_,_,rfl,_,_,rfl,rfl,l,_,_,_,rfl,rfl,.of el,Ew,?_⟩;have p2:=rO.mono t1;have rH:=sc.trans (aL.of t1);exact ⟨P0,a,td,ns,q,(F:Int),F,rfl,p2,ai.seq rH hS,ht.mono rH,hq,by lia,Int.le_refl _,by lia,pW,fun v x m H' s' p' hv=>kc v H' ((aL.of t1).trans s') p' ⟨(x,m),hv⟩⟩
 intro D0 ys H1 Wu FU p1 e_ hP eD;obtain ⟨ps,iS,tM⟩:=DK (lR Wu eD) hP;have lp:ps.length=n:=by lia
 have x1:1000≤F ^ n+1000:=Nat.le_add_left ..;obtain ⟨D,f,R⟩:=Ex (X:=F ^ n+1000) hq iS lp (by lia) n1 (fun _=>oF ..) x1
 have X8:q=0→F ^ n+1000≤W1:=fun z=>ae (fX _ (by decide)) (b1 z).1
 have iP:aE B2 (er P0 H1) q D0 ps:=iS.weak bF;have MO:iK P0 H1 q n W1 D0:=⟨ps,iP,An hq s1 lp iS.dJ fun z=>⟨D,f,R.weak (X8 z) (X8 z) (aJ _)⟩⟩;dsimp only [bE]
 try simp only [d5,d6]
 have fB:=ai.seq FU hS;have iM:=ht.mono FU;clear hP e_;refine ⟨_,rfl,P0,a,ns,7,rfl,p1,fB,by decide,aP.of_lt (by decide) (by decide),fun way H2 Wv Ww FV p2=>?_⟩
 dsimp only [bE];refine ⟨_,rfl,_,rfl,P0,a,ns,(n:Int),rfl,p2,ai.seq FV fB,by lia,aP.of_lt (by lia) (by lia),fun MP H3 Wx Wy MQ p3=>?_⟩
 refine ⟨_,_,rfl,rfl,?_⟩;obtain ⟨m,em,m1,mn⟩:∃m:Nat,(1:Int)+MP=(m:Int)∧1≤m∧m≤n:=⟨(1+MP).toNat,by lia,by lia,by lia⟩
 dsimp only [bE];rw [em];have gA:=FV.trans MQ;have Wz:=MO.mono gA;have oz:aE B2 (er P0 H3) q D0 ps:=aE.mono iP gA;have gB:=iM.mono gA;have dO:=ai.seq gA fB;have cp:=iS.dJ;clear fB iM MO iS iP Wv Ww Wx Wy FV MQ p1 p2 eD Ew;have FL:F ^ n+1000≤B2:=ae xG (by decide +kernel)
 have prod:∀(g:Nat→Int) (M:Nat) (rs:aK) (b:Addr) (Hx:Hp) (QQ:VK),aL P0 H3 Hx→cS Hx P0 a→aE B2 Hx q b rs→rs.length≤n+1→(∀i,aS q (rs.getD i o1) (g i,1))→(∀j,(g j).natAbs≤2)→(∀k,(cv f g k).natAbs≤M)→(q=0→2*M≤W1)→M≤10 ^ 280→(∀(r:Addr) (H':Hp),aL P0 H3 H'→cS H' P0 a→iK P0 H' q n W1 r→QQ (.ref r) H')→Fu [.ref td,.ref D0,.ref b] Hx (fun v H'=>Et [.ref td,.int (n:Int),v] H' QQ E0) E0:=by
  intro g M rs b Hx QQ sx px hb lr wg bg bM bW WA kk;have fg:∀i j,(f i*g j).natAbs≤10 ^ 270:=fun i j=>by rw [a8];exact ae (bH (ae (R.bf i) xG) (bg j)) (by decide +kernel)
  have ok:=R.ok;have bD:D.natAbs≤B2:=ae R.bD FL;refine ⟨td,D0,b,q,ps,rs,D,f,g,rfl,(gB.mono sx).mono dZ,hq,(aE.mono oz sx).mono dZ,hb,by lia,by lia,ok,bD,fg,fun i j _ _=>by have:=JI (R.w i) (wg j);rwa [fU] at this,fun c H4 s4 nc hC=>?_⟩
  have cP:=D4 (n:=ps.length) (m:=rs.length) (N:=ps.length+rs.length-1) (f:=f) (g:=g) hq ok;have lP:(cZ q ps.length rs.length f g D (ps.length+rs.length-1)).length=ps.length+rs.length-1:=by simp [cZ]
  have cl:=jd (cZ q ps.length rs.length f g D (ps.length+rs.length-1));refine ⟨td,c,q,D,n,_,cv f g,rfl,((gB.mono sx).mono (aL.of s4)).mono dZ,hq,hC,n1,by lia,by lia,ok,bD,fun i=>?_,fun i=>ae (bM i) WA,fun c2 H5 s5 Bx BX=>?_⟩
  ·rw [DZ hq cP]
   refine (D7 ok i).trans (Kt (Ks (fun i hi=>R.out i (by lia)) (fun j hj=>?_) i)) ok
   have w:=wg j;rw [dw hj] at w;exact Ey w
  ·have iR:=s4.trans s5
   have p5:=(px.mono s4).mono s5;refine kk c2 H5 (sx.trans (aL.of iR)) p5 ⟨_,BX.er p5 ((px.mono s4).ne Bx),An hq s1 (tP ..) BX.dJ fun z=>⟨D,_,(Eu ok bM R.bD).weak (bW z) (X8 z) (aJ _)⟩⟩
 refine iG (xr fun Ra ra=>?_);have MR:∀(r:Addr) (Hx:Hp),aL P0 H3 Hx→cS Hx P0 a→iK P0 Hx q n W1 r→(way=3→r=D0)→Ra [some (.ref P0),some (.ref td),some (.int (n:Int)),some (.ref r),some (.int way),some (.int (m:Int))] Hx:=by
  intro r Hx sx px hx w3;apply ra;dsimp only;refine iG (xr fun Rb rb=>?_);have MS:∀(r:Addr) (Hx:Hp),aL P0 H3 Hx→cS Hx P0 a→iK P0 Hx q n W1 r→Rb [some (.ref P0),some (.ref td),some (.int (n:Int)),some (.ref r),some (.int way),some (.int (m:Int))] Hx:=by
   intro r Hx sx px hx;apply rb;dsimp only;refine iG (xr fun Rc rc=>?_);have MT:∀(r:Addr) (Hx:Hp),aL P0 H3 Hx→cS Hx P0 a→iK P0 Hx q n W1 r→Rc [some (.ref P0),some (.ref td),some (.int (n:Int)),some (.ref r),some (.int way),some (.int (m:Int))] Hx:=by
    intro r Hx sx px hx;apply rc;dsimp only;refine iG (xr fun Rd rd=>?_);have MU:∀(r:Addr) (Hx:Hp),aL P0 H3 Hx→cS Hx P0 a→iK P0 Hx q n W1 r→Rd [some (.ref P0),some (.ref td),some (.int (n:Int)),some (.ref r),some (.int way),some (.int (m:Int))] Hx:=by intro r Hx sx px hx;apply rd;dsimp only;obtain ⟨xs,h1,h2⟩:=hx;exact ⟨_,rfl,k r xs Hx (FU.trans (gA.trans sx)) px h1 h2⟩
    refine ⟨_,rfl,rfl,_,rfl,b5 (fun _=>?_) (fun _=>?_)⟩
    ·refine du (zR (P:=P0) (a:=a) (n:=n) (gh n8 (by decide)) (fun R h=>⟨_,rfl,(n:Int),rfl,by lia,by lia,by rw [dM];exact h Hx (aL.refl _) px⟩) (fun D _ y Hx=>∃xm:Int×Int,a7 F (er P0 Hx) q y xm.1 xm.2) (fun _ _ _ _ _ _ ⟨xm,h1⟩ e _ f=>⟨xm,h1.zO e f⟩) (fun D i hi Hc R sc rO _ nD kc=>?_) fun D5 ys Hy BY sy py e_ hP yn=>MU D5 Hy (sx.trans sy) py (iK.drawn hq sz BY yn e_ hP))
     refine ⟨_,rfl,_,rfl,P0,a,ns,3,rfl,rO,ai.seq (sx.trans sc) dO,by decide,aP.of_lt (by decide) (by decide),fun v H' v0 v1 s' p'=>?_⟩
     exact ⟨_,_,rfl,rfl,td,q,v-1,rfl,(gB.mono ((sx.trans sc).trans s')).mono dZ,hq,by lia,by lia,fun u yo eI hu=>kc u yo (s'.trans (aL.of eI)) (p'.mono eI) ⟨_,(Ku (F:=F) hu (by lia) (by lia)).er (H':=yo) (p'.mono eI)⟩⟩
    ·exact MU r Hx sx px hx
   refine ⟨_,rfl,rfl,_,rfl,b5 (fun _=>?_) (fun _=>?_)⟩
   ·refine du (zR (P:=P0) (a:=a) (n:=n) (gh n8 (by decide)) (fun R h=>⟨_,rfl,(n:Int),rfl,by lia,by lia,by rw [dM];exact h Hx (aL.refl _) px⟩) (fun D _ y Hx=>∃xm:Int×Int,a7 F (er P0 Hx) q y xm.1 xm.2) (fun _ _ _ _ _ _ ⟨xm,h1⟩ e _ f=>⟨xm,h1.zO e f⟩) (fun D i hi Hc R sc rO _ nD kc=>?_) fun D5 ys Hy BY sy py e_ hP yn=>MT D5 Hy (sx.trans sy) py (iK.drawn hq sz BY yn e_ hP))
    refine ⟨_,rfl,_,rfl,_,rfl,_,_,rfl,rfl,rfl,.inr ⟨_,rfl,?_⟩⟩;refine ⟨_,rfl,P0,a,ns,9,rfl,rO,ai.seq (sx.trans sc) dO,by decide,aP.of_lt (by decide) (by decide),fun v H' v0 v1 s' p'=>?_⟩
    have hb:∃b:Int,(if decide (V.int (0+(i:Int))=V.int ((m:Int)-1))=true then (1:Int) else 0)=b∧0≤b∧b≤1:=⟨_,rfl,by split <;> lia,by split <;> lia⟩
    obtain ⟨b,eb,b0,b1'⟩:=hb;dsimp only;rw [eb];have hx:∃x:Int,b*(1+v)=x∧0≤x∧x≤9:=by
     rcases (show b=0∨b=1 by lia) with rfl | rfl
     ·exact ⟨_,rfl,by lia,by lia⟩
     ·exact ⟨_,rfl,by lia,by lia⟩
    obtain ⟨x,ex,x0,x9⟩:=hx;refine ⟨_,_,rfl,rfl,_,_,rfl,rfl,.inl ⟨by lia,by lia⟩,?_⟩
    show Jm (F+1000) [.ref td,.int (b*(1+v))] H' R E0;rw [ex];exact ⟨td,q,x,rfl,(gB.mono ((sx.trans sc).trans s')).mono dZ,hq,by lia,by lia,fun u yo eI hu=>kc u yo (s'.trans (aL.of eI)) (p'.mono eI) ⟨_,(Ku (F:=F) hu (by lia) (by lia)).er (H':=yo) (p'.mono eI)⟩⟩
   ·exact MT r Hx sx px hx
  refine ⟨_,rfl,rfl,_,rfl,b5 (fun h3=>?_) (fun _=>?_)⟩
  ·have h3:=w3 (V.int.inj (dm h3))
   subst h3;refine du ⟨_,rfl,_,rfl,_,rfl,_,rfl,?_⟩;refine pJ (xs:=(List.range m).map fun i:Nat=>V.int (0+(i:Int))) (fun R h=>⟨_,rfl,(m:Int),rfl,by lia,by lia,h _ _ (ai.refl _) (by rw [dM];exact zE)⟩) (by rw [aT,gI];exact jF (by lia)) (fun _ j y Hx=>a7 (F+1000) Hx q y (cf q 1).1 (cf q 1).2) (fun _ _ _ _ _ _ h1 e f=>h1.cR e f) ?_ ?_
   ·intro Dx i v hi Hc R sc _ kc
    exact ⟨_,rfl,td,q,1,rfl,((gB.mono sx).mono dZ).mono sc,hq,by lia,by lia,fun u H' s' hu=>kc u H' s' hu⟩
   intro D5 ys Hy BY sy e_ hP yn;rw [aT,gI] at e_;have hO:aE B2 Hy q D5 (List.replicate m (cf q 1)):=⟨ys,yn,by rw [g9,e_],fun i v p e1 e2=>by
    rw [k6] at e2
    split at e2
    ·cases e2
     exact (hP i v e1).weak (ae (Nat.add_le_add_right pW 1000) (by decide +kernel))
    ·cases e2⟩
   refine prod (fun j=>if j<m then 1 else 0) (n*(F ^ n+1000)) (List.replicate m (cf q 1)) D5 Hy (fun v H'=>Rb [some (.ref P0),some (.ref td),some (.int (n:Int)),some v,some (.int way),some (.int (m:Int))] H') (sx.trans (aL.of sy)) (px.mono sy) hO (by rw [g9];lia) (fun i=>?_) (fun j=>by split <;> decide) (fun k=>?_) (fun z=>(b1 z).2) (ae (bH n8 xG) (by decide +kernel)) fun r H' sr pr hr=>MS r H' sr pr hr
   ·by_cases hi:i<m
    ·rw [ar hi,getD_at (by rw [g9];exact hi),List.getElem_replicate]
     exact (nS q 1 hq).2
    ·rw [ao hi,dw (by rw [g9];lia)]
     exact zW
   ·refine Am R.out (fun i j=>?_) k
    split
    ·rw [fU];exact R.bf i
    ·rw [cJ];exact b9 _
  ·exact MS r Hx sx px hx
 have turn:way≠3→lH (o6 Et [] E0 (cX (gL 1) (cX (gL 2) (cX (o6 Fu [] E0 (cX (gL 1) (cX (gL 3) (cX (o6 Kq [] E0 (cX (gL 1) (cX (gL 5) fH))) fH)))) fH)))) (bE 3) {nx:=Ra,rt:=Q} [some (.ref P0),some (.ref td),some (.int (n:Int)),some (.ref D0),some (.int way),some (.int (m:Int))] H3:=by
  intro w3;refine du ⟨_,rfl,_,rfl,_,rfl,_,rfl,_,rfl,_,rfl,td,q,m,rfl,gB.mono dZ,hq,m1,by lia,fun c H4 s4 nc hC=>?_⟩
  refine prod (tp m) (2*(F ^ n+1000)) (df q m) c H4 (fun v H'=>Ra [some (.ref P0),some (.ref td),some (.int (n:Int)),some v,some (.int way),some (.int (m:Int))] H') (aL.of s4) (p3.mono s4) (hC.weak (by decide +kernel)) (by rw [nU m1];lia) (xE hq m1) (Aj m) (fun k=>?_) (fun z=>by have:=(b1 z).1;lia) (ae (d4 2 xG) (by decide +kernel)) fun r H' sr pr hr=>MR r H' sr pr hr fun h=>absurd h w3
  have e1:=R.bf k;have e2:=R.bf (k-m);rw [xy]
  split <;> lia
 refine ⟨_,rfl,rfl,_,rfl,b5 (fun h1=>dI ?_) (fun _=>⟨_,rfl,rfl,_,rfl,b5 (fun h2=>?_) (fun _=>?_)⟩)⟩;·exact turn (by have:=V.int.inj (dm h1);lia)
 ·exact turn (by have:=V.int.inj (dm h2);lia)
 ·exact MR D0 H3 (aL.refl _) p3 Wz fun _=>rfl
theorem WB:bp ["told","world","row","some","turns","handed","unit","turn","back","loose"] ["told","world","row","some","turns"] (aM Bd):=bJ
theorem WC(T:Txt K mg t):aW P w K mg base bR 12 t.qO t.uO ["told","world","row","some","turns"] (Kw t.a_):=by
 have S:=WB;have gY:=vz (P:=P) (w:=w) (base:=base) (B:=B2) T;refine T.vo.cw S (fun _ _ _ s H _ _ _ hr h=>?_);obtain ⟨td,z,a,b,q,SS,m,n,W,X,ps,ss,s,rfl,ht,hz,hq,hA,hB,cI,bZ,ls,RS,x1,bX,m5,k⟩:=h;have rE:=hr.units;have hu:=hr.wL
 refine ⟨_,(ak (putL 5 S.nd (o8 sU rfl T.oa boot_list (aa (pv 2) af)))
  (ak (putL 6 S.nd (aD (BV T) hr T.xO T.mh.kp T.xN ay (aa (pv 0) (aa (bq cq rfl T.ck cn (aa (pv 2) af)) (aa (cy (aa (aD gY hr T.jW T.gW.kp T.jV ay (aa (pv 0) (aa ah af))) af)) af)))))
  (ak (i6 eS rfl (hE rfl T.gz (aa (pv 4) af)) (eE (i:=7) S.nd rfl (Or.inl rfl))
   (ak (putL 8 S.nd (aD (MH T) hr T.xM T.me.kp T.xK i9 (aa (pv 1) (aa (pv 5) af))))
  (ak (putL 9 S.nd (aD (We T) hr T.KN T.uX.kp T.KL i9 (aa (pv 1) (aa (pv 5) (aa (o8 sU rfl T.oa boot_list (aa (pv 3) af)) af)))))
  (ak (bI (PW.pt (pw_or (bG (zH (n:=1) rE) (pv 5) (pv 2)) (pw_or1 (bG oV (mX dW (aA a9 (pv 9) ah) eV) (mX sJ (pv 8) jw))))) (aw (aR i4)) b8)
  (aw (bI (bG HA (pv 8) jw) (ak (bI (PW.pt (pw_or (sq (mR (aD (UW T) hr T.Ld T.vh.kp T.Lc ay (aa (pv 0) (aa (pv 8) af))))) (pw_or (bG oV (bq cq rfl T.ck cn (aa (pv 8) af)) (bq cq rfl T.ck cn (aa (pv 2) af))) (pw_or1 (bG (zH (n:=1) rE) (aD (BW T) hr T.vn T.kR.kp T.vm ay (aa (pv 0) (aa (pv 2) (aa (pv 8) af)))) (pv 6)))))) (aw (aR i4)) b8)
  (ak (bI (bG (zH (n:=1) rE) (aD (BW T) hr T.vn T.kR.kp T.vm ay (aa (pv 0) (aa (pv 8) (aa (aD (BW T) hr T.vn T.kR.kp T.vm ay (aa (pv 0) (aa (pv 2) (aa (pv 3) af)))) af)))) (pv 3)) (aw (aR i4)) b8)
  (aw (G6 (Pe PySem.F.plainAttrs_list PySem.F.slot_list_append PySem.F.type_list_append wO (pv 8) (aa jw af)))))) b8))))))
  (aw (aR i4))))),?_⟩
 obtain ⟨D,f,R⟩:=cI.row;have n1:=cI.sz.t.n1;have dy:=cI.sz.t.dy;have lp:=cI.len;have cp:=hA.dJ;have cs:=hB.dJ;have iN:1000≤B2:=by decide +kernel
 have L6:B2=10 ^ 290:=rfl;obtain ⟨xs,ea,lv,fv⟩:=id hA;refine ⟨_,rfl,a,xs,rfl,.inl (.of ea),fun h0 WD=>?_⟩;have s0:ai H (upd H h0 (.lst xs)):=aB WD;have hD:aE B2 (upd H h0 (.lst xs)) q h0 ps:=⟨xs,av,lv,fun i v p h1 h2=>(fv i v p h1 h2).mono s0⟩;generalize upd H h0 (.lst xs)=H0 at s0 hD ⊢;dsimp only [bE];refine ⟨_,rfl,_,rfl,a,xs,rfl,.inl (.of (s0 _ _ ea)),_,rfl,td,q,1,rfl,ht.mono s0,hq,by decide +kernel,iN,fun v0 H1 s1 MV=>?_⟩
 refine ⟨by show 1≤sizeLine;decide,fun l nl=>?_⟩
 have sl:ai H1 (upd H1 l (.lst [v0])):=aB nl;have hL:aE B2 (upd H1 l (.lst [v0])) q l [cf q 1]:=⟨[v0],av,rfl,fun i v p h1 h2=>by
  match i,h1,h2 with
  | 0,h1,h2=>cases h1;cases h2;exact MV.mono sl
  | i+1,h1,h2=>simp at h1⟩
 generalize upd H1 l (.lst [v0])=H2 at sl hL ⊢;have bN:=s1.trans sl;have MW:=s0.trans bN;refine ⟨td,l,q,1,n,[cf q 1],dl 1,by rw [lv,lp];rfl,ht.mono MW,hq,hL,n1,dy,by show 1≤2*n;lia,aY.one,by decide +kernel,fun i=>?_,fun i=>?_,fun un H3 s3 nun hU=>?_⟩
 ·match i with
  | 0=>exact (nS q 1 hq).2
  | i+1=>exact zW
 ·unfold dl
  split
  ·exact ae (show (1:Int).natAbs≤1 by decide) (ka (by decide))
  ·exact b9 _
 have MX:=MW.trans s3;have WE:=hD.mono (bN.trans s3);clear hL MV s1 sl bN;dsimp only [bE];refine ⟨_,rfl,(m:Int),rfl,by lia,by lia,?_⟩
 rw [dM];refine sG (fun i σ Hc=>∃(v7 v8 v9:Option V),σ=[some (.ref td),some (.ref z),some (.ref a),some (.ref b),some (.int (m:Int)),some (.ref h0),some (.ref un),v7,v8,v9]∧ai H3 Hc) ⟨_,_,_,rfl,ai.refl _⟩ ?_ ?_
 ·rintro i σ Hc hi ⟨v7,v8,v9,rfl,sc⟩
  have sH:=MX.trans sc;have yp:=WE.mono sc;have MY:=hA.mono sH;have WG:=hB.mono sH;obtain ⟨ys,eb,lw,fw⟩:=id WG;dsimp only [bE];have hl:∀{Hx:Hp} {l:Addr},ai Hc Hx→Hx l=none→aE (10 ^ 290) (upd Hx l (.lst ys)) q l ss:=fun{Hx l} sx nl=>⟨ys,av,lw,fun i v p h1 h2=>((fw i v p h1 h2).mono sx).mono (aB nl)⟩;refine ⟨_,rfl,_,rfl,z,h0,q,n,W,ps,rfl,hz.mono sH,hq,yp,cI,fun H4 s4 neg=>?_,fun c rs F M H4 s4 nc hC BD=>?_⟩
  ·refine ⟨_,rfl,_,rfl,_,rfl,b,ys,rfl,.inl (.of (s4 _ _ eb)),fun l nl=>⟨z,h0,l,q,SS,n,W,X,ps,ss,s,rfl,(hz.mono sH).mono (s4.trans (aB nl)),hq,yp.mono (s4.trans (aB nl)),hl s4 nl,cI,ls,RS,x1,bX,fun p tg us H5 s5 ep FW=>?_⟩⟩
   have iR:=(s4.trans (aB nl)).trans s5;rcases FW with ⟨rfl,_⟩ | ⟨_,h⟩
   ·dsimp only [bE]
    refine ⟨_,rfl,_,rfl,xi hq (yp.mono iR) (MY.mono iR) ⟨false,rfl,cQ ?_⟩⟩;refine ⟨_,rfl,p,_,_,V.str (Str.ofString "loose"),rfl,rfl,.of ep,(by show dD _ ((0:Nat):Int)=_;exact i8 rfl),rfl,_,rfl,rfl,rfl,false,by simp,cQ ?_⟩
    dsimp only [iy];exact ⟨_,rfl,rfl,false,by simp,cQ ⟨_,_,_,rfl,sc.trans iR⟩⟩
   ·exact absurd (h D f R.cj) (neg D f R.cj)
  ·refine ⟨_,rfl,_,rfl,_,rfl,b,ys,rfl,.inl (.of (s4 _ _ eb)),fun l nl=>⟨z,h0,l,q,SS,n,W,X,ps,ss,s,rfl,(hz.mono sH).mono (s4.trans (aB nl)),hq,yp.mono (s4.trans (aB nl)),hl s4 nl,cI,ls,RS,x1,bX,fun p tg us H5 s5 ep FW=>?_⟩⟩
   have iR:=(s4.trans (aB nl)).trans s5;rcases FW with ⟨_,h⟩ | ⟨rfl,_⟩;·exact absurd (BD.inv D f R.cj) (h D f R.cj)
   ·dsimp only [bE]
    refine ⟨_,rfl,_,rfl,xi hq (yp.mono iR) (MY.mono iR) ⟨false,rfl,cQ ?_⟩⟩;have e1:decide (V.str (Str.ofString "one")=V.str (Str.ofString "loose"))=false:=by decide +kernel
    have e2:decide (V.ref c=V.aV)=false:=fS fun h=>nomatch h;refine ⟨_,rfl,p,_,_,V.str (Str.ofString "one"),rfl,rfl,.of ep,(by show dD _ ((0:Nat):Int)=_;exact i8 rfl),rfl,_,rfl,rfl,rfl,false,by rw [e1,e2];simp,cQ ?_⟩
    dsimp only [iy];refine ⟨_,rfl,rfl,true,by rw [e2];rfl,dI ?_⟩
    have FR:=hC.mono ((aB nl).trans s5);have MZ:=sH.trans iR;have RB:RowW q rs M F (Zt q n W 1*W) (Zt q n W 1*W) n:=⟨BD.cj.ok,BD.dvd,BD.cj.w,BD.bF,BD.bM,BD.cj.low⟩;have lr:=BD.len;have z1:=jQ cI.sz.t 1;have hW:=cI.sz.t.w;have bW:W≤10 ^ 220:=ae (ae (fX _ (by lia)) (fX _ (by lia))) bZ
    have M0:W*(Zt q n W 1*W)≤10 ^ 260:=ae bZ (by decide +kernel)
    have M4:W*X≤10 ^ 260:=ae (bH bW bX) (by decide +kernel)
    have bT:(Zt q n W 1*W)*(2*(n*(W*X)))≤10 ^ 260:=by
     rw [show (Zt q n W 1*W)*(2*(n*(W*X)))=2*n*(W*(Zt q n W 1*W)*X) by ac_rfl]
     exact ae (bH (show 2*n≤80 by lia) (bH bZ bX)) (by decide +kernel)
    have bU:(Zt q n W 1*W)*(W*X)≤10 ^ 260:=by
     rw [show (Zt q n W 1*W)*(W*X)=W*(Zt q n W 1*W)*X by ac_rfl]
     exact ae (bH bZ bX) (by decide +kernel)
    refine ⟨_,rfl,_,rfl,td,c,q,rs,B2,rfl,ht.mono MZ,hq,FR,by lia,by decide +kernel,fun H6 s6=>⟨true,rfl,cQ ?_⟩⟩
    have BZ:=FR.mono s6;have B0:=MZ.trans s6;obtain ⟨ws,ew,ig,_⟩:=id BZ;obtain ⟨M5,WH,lv',_⟩:=id (hA.mono B0);refine ⟨_,rfl,c,ws,rfl,.inl (.of ew),_,rfl,a,M5,rfl,.inl (.of WH),rfl,false,?_,cQ ?_⟩
    ·rw [show (ws.length:Int)=(M5.length:Int) by lia]
     simp
    refine ⟨_,rfl,_,rfl,_,rfl,td,a,c,q,D,M,n,ps,rs,f,F,W,Zt q n W 1*W,W,Zt q n W 1*W,rfl,ht.mono B0,hq,hA.mono B0,BZ,n1,dy,lp,by lia,R,RB,M0,M0,fun c7 H7 s7 nc7 h7=>?_⟩
    rw [BD.unit hq n1 R.cj] at h7;have M6:=sc.trans (iR.trans (s6.trans s7));have B4:=B0.trans s7;refine ⟨_,rfl,xi hq h7 (hU.mono M6) ⟨false,rfl,cQ ?_⟩⟩;dsimp only [iy];refine ⟨_,rfl,_,rfl,_,rfl,_,rfl,_,rfl,td,a,b,q,D,SS,n,ps,ss,f,s,W,X,W,X,rfl,ht.mono B4,hq,hA.mono B4,hB.mono B4,n1,dy,lp,by lia,R,RS,M4,M4,fun c8 H8 s8 nc8 h8=>?_⟩
    have M7:=B4.trans s8;have RG:=Eu (q:=q) (n:=n) (R.ok.mul RS.ok) (Am R.out (M:=W*X) (fun i j=>by rw [a8];exact bH (R.bf i) (RS.bf j))) (show (D*SS).natAbs≤W*X by rw [a8];exact bH R.bD RS.bD)
    refine ⟨td,c,c8,q,M,D*SS,n,rs,_,F,wr n (cv f s),Zt q n W 1*W,2*(n*(W*X)),Zt q n W 1*W,W*X,rfl,ht.mono M7,hq,(BZ.mono s7).mono s8,h8,n1,dy,BD.len,by rw [tP];exact aJ _,RB,RG,bT,bU,fun c9 H9 s9 nc9 h9=>?_⟩
    rw [BD.El hq n1 R.cj RS.cj ls cs] at h9;have WI:=M7.trans s9;refine ⟨_,rfl,xi hq h9 (hB.mono WI) ⟨false,rfl,cQ ?_⟩⟩;dsimp only [iy];obtain ⟨w9,M8,lw9,_⟩:=id (((BZ.mono s7).mono s8).mono s9);refine ⟨_,rfl,.inl ⟨rfl,_,.of M8⟩,c,w9,_,rfl,rfl,M8,jF (by lia),?_⟩
    exact ⟨_,_,_,rfl,kD (M6.trans (s8.trans s9)) (none_of sc nc)⟩
 ·rintro σ Hc ⟨v7,v8,v9,rfl,sc⟩
  exact k _ (MX.trans sc)
theorem WJ(q:Int):(jN q).prime=if q=0 then .aV else .int q:=by
 unfold jN
 split <;> rfl
theorem WK:bp ["script","pen","k","told","world","many","one","other","some","both","row","turns","backs"] ["script"] (aM Be):=bJ
theorem WL(T:Txt K mg t):aW P w K mg base bR 13 t.nX t.qP ["script"] (zr K):=by
 have S:=WK;have WM:=UY (P:=P) (w:=w) (base:=base) T;have ie:=rD (P:=P) (w:=w) (base:=base) T;have WN:=LZ (P:=P) (w:=w) (base:=base) T;have M9:=Wt (P:=P) (w:=w) (base:=base) T;have M_:=BW (P:=P) (w:=w) (base:=base) T;have WO:=WC (P:=P) (w:=w) (base:=base) T;have FX:=MH (P:=P) (w:=w) (base:=base) T;have WQ:=TH (P:=P) (w:=w) (base:=base) T;refine T.vp.cw S (fun _ _ _ s H _ Q _ hr h=>?_);obtain ⟨a,ns,rfl,hS,hlen,kQ⟩:=h;have rE:=hr.units
 refine ⟨_,(@ak _ _ _ _ _ (@ja _ _ 1 _ _ _ _ (by rfl) (by first | exact .inl rfl | exact .inr rfl | assumption) S.nd rfl (Or.inr rfl) (@cy _ _ _ _ (@aO _ _ _ _ _ (by rfl) (pv 0) (@aO _ _ _ _ _ (by rfl) ah (@aO _ _ _ _ _ (by rfl) ah af)))))
   (@ak _ _ _ _ _ (i6 eS rfl (hE rfl T.gz (@aO _ _ _ _ _ (by rfl) ah af)) (eE (i:=2) S.nd rfl (Or.inl rfl))
    (@ak _ _ _ _ _ (@bI _ _ _ _ _ _ _ _ (PW.pt (pw_and (@kr _ _ _ _ _ _ _ _ jA (pv 2) ah (jB _)) (pw_and1 (@kr _ _ _ _ _ _ _ _ CT (@jE _ _ _ _ _ _ _ bQ (pv 1) ah (fun _ _=>rfl)) (bq cq rfl T.ck cn (@aO _ _ _ _ _ (by rfl) (pv 0) af)) (jB _))))) (@aw _ _ _ NS) b8)
   (@ak _ _ _ _ _ (@ja _ _ 3 _ _ _ _ (by rfl) (by first | exact .inl rfl | exact .inr rfl | assumption) S.nd rfl (Or.inr rfl) (gu WM (hr.mono (by decide)) rfl T.Lg T.vi.kp T.Le .nil ay (@aO _ _ _ _ _ (by rfl) (pv 1) af)))
   (@ak _ _ _ _ _ (@ja _ _ 4 _ _ _ _ (by rfl) (by first | exact .inl rfl | exact .inr rfl | assumption) S.nd rfl (Or.inl rfl) (OV T.Bm WQ (hr.mono (by decide)) rfl T.Lq T.Lo .nil i9 (@aO _ _ _ _ _ (by rfl) (pv 3) af)))
   (@ak _ _ _ _ _ (@ja _ _ 5 _ _ _ _ (by rfl) (by first | exact .inl rfl | exact .inr rfl | assumption) S.nd rfl (Or.inl rfl) (@au _ _ _ _ _ _ _ _ d8 ah (gu ie (hr.mono (by decide)) rfl T.gf T.eO.kp T.gc .nil ay (@aO _ _ _ _ _ (by rfl) (pv 1) (@aO _ _ _ _ _ (by rfl) ah af)))))
   (@ak _ _ _ _ _ (@bI _ _ _ _ _ _ _ _ (@kr _ _ _ _ _ _ _ _ dW (@jE _ _ _ _ _ _ _ a9 (pv 3) ah (fun _ _=>rfl)) eV (jB _)) (@aw _ _ _ (@ja _ _ 5 _ _ _ _ (by rfl) (by first | exact .inl rfl | exact .inr rfl | assumption) S.nd rfl (Or.inl rfl) (@au _ _ _ _ _ _ _ _ d8 ah (gu ie (hr.mono (by decide)) rfl T.gf T.eO.kp T.gc .nil ay (@aO _ _ _ _ _ (by rfl) (pv 1) (@aO _ _ _ _ _ (by rfl) ah af)))))) b8)
   (@ak _ _ _ _ _ (@ja _ _ 6 _ _ _ _ (by rfl) (by first | exact .inl rfl | exact .inr rfl | assumption) S.nd rfl (Or.inl rfl) (gu M9 (hr.mono (by decide)) rfl T.EZ T.rp.kp T.EY .nil ay (@aO _ _ _ _ _ (by rfl) (pv 1) (@aO _ _ _ _ _ (by rfl) (pv 3) (@aO _ _ _ _ _ (by rfl) (pv 5) af)))))
   (@ak _ _ _ _ _ (@ja _ _ 7 _ _ _ _ (by rfl) (by first | exact .inl rfl | exact .inr rfl | assumption) S.nd rfl (Or.inl rfl) (gu M9 (hr.mono (by decide)) rfl T.EZ T.rp.kp T.EY .nil ay (@aO _ _ _ _ _ (by rfl) (pv 1) (@aO _ _ _ _ _ (by rfl) (pv 3) (@aO _ _ _ _ _ (by rfl) (pv 5) af)))))
   (@ak _ _ _ _ _ (tx (i0:=8) (N:=["turn","pen","told"]) (ρ:=(fun σ=>[σ[1]?.join,σ[3]?.join])) ⟨rfl,rfl,by decide +kernel,by decide +kernel,(yG.mpr ⟨rfl,(yG.mpr ⟨rfl,(List.forall_mem_nil _)⟩)⟩),Dg (by rfl),rfl,by decide +kernel,rfl,(fun σ j v h=>match j,h with | 0,h=>⟨1,_,rfl,rfl,join_some h,Or.inr (Or.inl rfl),.inl rfl,.inl rfl⟩ | 1,h=>⟨3,_,rfl,rfl,join_some h,Or.inr (Or.inl rfl),.inl rfl,.inl rfl⟩ | j+2,h=>by cases h),(fun _ _=>rfl)⟩ rfl S.nd rfl (Or.inl rfl) (hE rfl T.gz (@aO _ _ _ _ _ (by rfl) (pv 5) af)) (fun _ _ _=>.nil) (fun _ _ _=>(gu WN (hr.mono (by decide)) rfl T.EX T.rl.kp T.EW .nil ay (@aO _ _ _ _ _ (by rfl) (pv 1) (@aO _ _ _ _ _ (by rfl) (pv 2) (@aO _ _ _ _ _ (by rfl) ah af))))))
   (@ak _ _ _ _ _ (@ja _ _ 9 _ _ _ _ (by rfl) (by first | exact .inl rfl | exact .inr rfl | assumption) S.nd rfl (Or.inl rfl) (gu M_ (hr.mono (by decide)) rfl T.vn T.kR.kp T.vm .nil ay (@aO _ _ _ _ _ (by rfl) (pv 3) (@aO _ _ _ _ _ (by rfl) (pv 6) (@aO _ _ _ _ _ (by rfl) (pv 7) af)))))
   (@ak _ _ _ _ _ (i6 eS rfl (km (@cy _ _ _ _ (@aO _ _ _ _ _ (by rfl) (@fI _ _ _ _ _ (@aO _ _ _ _ _ (by rfl) (pv 6) (@aO _ _ _ _ _ (by rfl) ah af))) (@aO _ _ _ _ _ (by rfl) (@fI _ _ _ _ _ (@aO _ _ _ _ _ (by rfl) (pv 7) (@aO _ _ _ _ _ (by rfl) ah af))) (@aO _ _ _ _ _ (by rfl) (@fI _ _ _ _ _ (@aO _ _ _ _ _ (by rfl) (pv 9) (@aO _ _ _ _ _ (by rfl) ah af))) af))))) (wF rfl (kj (eE (i:=10) S.nd rfl (Or.inl rfl)) (kj (eE (i:=11) S.nd rfl (Or.inl rfl)) wC)))
    (@aw _ _ _ (@bI _ _ _ _ _ _ _ _ (@sq _ _ _ _ (mR (gu WO (hr.mono (by decide)) rfl T.Lm T.vo.kp T.Ll .nil ay (@aO _ _ _ _ _ (by rfl) (pv 3) (@aO _ _ _ _ _ (by rfl) (pv 4) (@aO _ _ _ _ _ (by rfl) (pv 10) (@aO _ _ _ _ _ (by rfl) (pv 8) (@aO _ _ _ _ _ (by rfl) (pv 11) af)))))))) (@aw _ _ _ (@aR _ _ _ _ i4)) b8)))
   (@ak _ _ _ _ _ (@ja _ _ 12 _ _ _ _ (by rfl) (by first | exact .inl rfl | exact .inr rfl | assumption) S.nd rfl (Or.inl rfl) (@cy _ _ _ _ (@aO _ _ _ _ _ (by rfl) (gu FX (hr.mono (by decide)) rfl T.xM T.me.kp T.xK .nil i9 (@aO _ _ _ _ _ (by rfl) (pv 4) (@aO _ _ _ _ _ (by rfl) (o8 sU rfl T.oa boot_list (@aO _ _ _ _ _ (by rfl) (pv 6) af)) af))) (@aO _ _ _ _ _ (by rfl) (gu FX (hr.mono (by decide)) rfl T.xM T.me.kp T.xK .nil i9 (@aO _ _ _ _ _ (by rfl) (pv 4) (@aO _ _ _ _ _ (by rfl) (o8 sU rfl T.oa boot_list (@aO _ _ _ _ _ (by rfl) (pv 7) af)) af))) (@aO _ _ _ _ _ (by rfl) (gu FX (hr.mono (by decide)) rfl T.xM T.me.kp T.xK .nil i9 (@aO _ _ _ _ _ (by rfl) (pv 4) (@aO _ _ _ _ _ (by rfl) (o8 sU rfl T.oa boot_list (@aO _ _ _ _ _ (by rfl) (pv 9) af)) af))) af)))))
   (@aw _ _ _ (@bI _ _ _ _ _ _ _ _ (PW.pt (@pw_or _ _ _ _ _ _ _ (@kr _ _ _ _ _ _ _ _ sJ (@jE _ _ _ _ _ _ _ bQ (pv 12) ah (fun _ _=>rfl)) jw (jB _)) (@pw_or1 _ _ _ _ (@kr _ _ _ _ _ _ _ _ sJ (@jE _ _ _ _ _ _ _ bQ (pv 12) ah (fun _ _=>rfl)) jw (jB _))))) (@aw _ _ _ (@bI _ _ _ _ _ _ _ _ (@kr _ _ _ _ _ _ _ _ HA (@jE _ _ _ _ _ _ _ bQ (pv 12) ah (fun _ _=>rfl)) jw (jB _)) (@aw _ _ _ (@aR _ _ _ _ i4)) b8)) (@aw _ _ _ (@bI _ _ _ _ _ _ _ _ (@kr _ _ _ _ _ _ _ _ (zH (n:=1) rE) (@jE _ _ _ _ _ _ _ bQ (pv 12) ah (fun _ _=>rfl)) (gu M_ (hr.mono (by decide)) rfl T.vn T.kR.kp T.vm .nil ay (@aO _ _ _ _ _ (by rfl) (pv 3) (@aO _ _ _ _ _ (by rfl) (@jE _ _ _ _ _ _ _ bQ (pv 12) ah (fun _ _=>rfl)) (@aO _ _ _ _ _ (by rfl) (@jE _ _ _ _ _ _ _ bQ (pv 12) ah (fun _ _=>rfl)) af)))) (jB _)) (@aw _ _ _ (@aR _ _ _ _ i4)) b8))))))))))))))))
   (@aw _ _ _ (@aR _ _ _ _ i4)))),?_⟩
 refine ⟨_,rfl,by show 3≤sizeLine;decide,fun P0 nP=>?_⟩
 have p0:cS (upd H P0 (.lst [.ref a,.int 0,.int 0])) P0 a:=⟨0,0,av,by decide,by decide⟩
 have ye:bo K (er P0 (upd H P0 (.lst [.ref a,.int 0,.int 0]))) a (ns.map V.int):=by rw [Jj];exact ai.seq (fun b o e=>lR (fG e nP) e) hS
 generalize upd H P0 (.lst [.ref a,.int 0,.int 0])=H0 at p0 ye ⊢;refine ⟨3,rfl,by decide,by decide,?_⟩
 refine sG (fun i σ Hc=>∃(v2 v3 v4 v5 v6 v7 v8 v9 v10 v11 mB:Option V),σ=[some (.ref a),some (.ref P0),v2,v3,v4,v5,v6,v7,v8,v9,v10,v11,mB]∧aL P0 H0 Hc∧cS Hc P0 a) ⟨_,_,_,_,_,_,_,_,_,_,_,rfl,aL.refl _,p0⟩ ?_ ?_
 ·rintro i σ Hc hi ⟨v2,v3,v4,v5,v6,v7,v8,v9,v10,v11,mB,rfl,sT,pc⟩
  have fB:bo K (er P0 Hc) a (ns.map V.int):=ai.seq sT ye;refine iG (RV (fun Q hQ=>?_) ?_ ?_)
  ·obtain ⟨x,y,eP,_⟩:=id pc
   exact ⟨_,rfl,_,_,rfl,rfl,_,rfl,b5 (fun _=>⟨_,rfl,P0,_,_,_,rfl,rfl,.of eP,rfl,_,rfl,a,ns.map V.int,rfl,.inl (dZ.seq fB),_,_,rfl,rfl,_,rfl,hQ _⟩) (fun _=>hQ _)⟩
  ·exact kQ _
  dsimp only [iy];refine ⟨_,rfl,P0,a,ns,rfl,pc,fB,fun td q H1 hq s1 p1 iM=>?_⟩;refine ⟨_,rfl,fun z dz nz Na ne=>⟨z,dz,td,jN q,rfl,av,?_,fun _=>⟨rfl,?_⟩,fun hg=>absurd ((Q8 hq).symm.trans hg) (by decide)⟩⟩
  ·have e:=dZ _ _ iM
   rw [b7 (fG e nz),b7 (fG e Na)];exact e
  have sz:ai H1 (upd (upd (upd H1 dz (.own z)) z (.ins t.a_ dz [])) z (.ins t.a_ dz [("prime",(jN q).prime)])):=fun b o e=>by rw [b7 (fG e nz),b7 (fG e nz),b7 (fG e Na)];exact e
  have B5:dg t.a_ (upd (upd (upd H1 dz (.own z)) z (.ins t.a_ dz [])) z (.ins t.a_ dz [("prime",(jN q).prime)])) z q:=⟨dz,by rw [av,WJ]⟩
  generalize (upd (upd (upd H1 dz (.own z)) z (.ins t.a_ dz [])) z (.ins t.a_ dz [("prime",(jN q).prime)]))=H2 at sz B5 ⊢;have p2:=p1.mono sz;have WR:z≠P0:=fun e=>by obtain ⟨x,y,eP,_⟩:=p2;obtain ⟨d',ez⟩:=B5;rw [e,eP] at ez;cases ez
  have WS:∀{Hx:Hp},aL P0 H2 Hx→dg t.a_ Hx z q:=fun{Hx} s=>by obtain ⟨d',ez⟩:=B5;exact ⟨d',s.at WR ez⟩
  have ht:dE (er P0 H2) td q:=iM.mono (xh sz);have rF:bo K (er P0 H2) a (ns.map V.int):=ai.seq (s1.trans (aL.of sz)) fB;have sT:aL P0 H0 H2:=sT.trans (s1.trans (aL.of sz));dsimp only [bE];simp only [d5,d6];refine ⟨_,rfl,P0,a,ns,6,rfl,p2,rF,by decide,aP.of_lt (by decide) (by decide),fun m0 H3 m00 m01 s3 p3=>⟨_,_,rfl,rfl,?_⟩⟩
  dsimp only [bE];simp only [d5,d6];have gB:=ht.mono s3;have dO:bo K (er P0 H3) a (ns.map V.int):=ai.seq s3 rF;have WT:=sT.trans s3;have WU:∀{Hx:Hp},aL P0 H3 Hx→dg t.a_ Hx z q:=fun{Hx} s=>WS (s3.trans s);clear ht rF fB iM s1 B5;refine iG (xr fun R hR=>?_);have rest:∀(n F W1 W2:Nat) (Hx:Hp),xF q n F W1 W2→aL P0 H3 Hx→cS Hx P0 a→R [some (.ref a),some (.ref P0),some (.int (0+(i:Int))),some (.ref td),some (.ref z),some (.int (n:Int)),v6,v7,v8,v9,v10,v11,mB] Hx:=by
   intro n F W1 W2 Hx sz sx px;apply hR;dsimp only;refine ⟨_,rfl,_,rfl,_,rfl,P0,a,td,ns,q,n,F,W1,W2,rfl,px,ai.seq sx dO,gB.mono sx,hq,sz,fun r1 lZ H4 s4 p4 iS T1=>?_⟩;have FY:=sx.trans s4;dsimp only [bE];refine ⟨_,rfl,_,rfl,_,rfl,P0,a,td,ns,q,n,F,W1,W2,rfl,p4,ai.seq FY dO,gB.mono FY,hq,sz,fun r2 l_ H5 s5 p5 iP T2=>?_⟩;have FZ:=FY.trans s5;dsimp only [bE];simp only [d5,d6];have n1:=sz.n1;have n8:=sz.n8;refine iG (du (zR (P:=P0) (a:=a) (n:=n) (gh n8 (by decide)) (fun R h=>⟨_,rfl,(n:Int),rfl,by lia,by lia,by rw [dM];exact h H5 (aL.refl _) p5⟩) (fun D _ y Hx=>∃xm:Int×Int,a7 100 (er P0 Hx) q y xm.1 xm.2) (fun _ _ _ _ _ _ ⟨xm,h1⟩ e _ f=>⟨xm,h1.zO e f⟩) ?_ ?_))
   ·intro D i hi Hc R sc rO _ nD kc
    exact ⟨_,rfl,_,rfl,P0,a,td,ns,q,100,100,rfl,rO,ai.seq (FZ.trans sc) dO,gB.mono (FZ.trans sc),hq,by decide,by decide,by decide,by decide,fun v x m H' s' p' hv=>kc v H' s' p' ⟨(x,m),hv⟩⟩
   intro D6 ys H6 WV s6 p6 e_ hP WW;obtain ⟨ss,vF,lss⟩:=DK (lR WV WW) hP;have ls:ss.length=n:=by lia
   obtain ⟨SS,sf,RS⟩:=Ex (X:=10 ^ 20) hq vF ls (by decide) n1 (fun _=>ae (dr (by decide) n8) (by decide +kernel)) (by decide +kernel)
   have vF:aE B2 (er P0 H6) q D6 ss:=vF.weak (by decide +kernel)
   have Nb:=FZ.trans s6;have iS:=aE.mono (aE.mono iS s5) s6;have iP:=aE.mono iP s6;obtain ⟨D1,f1,R1⟩:=T1.row;obtain ⟨D2,f2,R2⟩:=T2.row;have l1:=T1.len;have l2:=T2.len;have hW1:=sz.s1.t.w;have bW:W1*W1≤10 ^ 220:=ae (d4 W1 (fX _ (by have:=jQ sz.s1.t 1;lia))) sz.z1
   have F0:W1*W1≤10 ^ 260:=ae bW (by decide +kernel)
   dsimp only [bE];simp only [d5,d6];have Nc:=gB.mono Nb;clear hP e_ dO;refine ⟨_,rfl,_,rfl,_,rfl,td,r1,r2,q,D1,D2,n,lZ,l_,f1,f2,W1,W1,W1,W1,rfl,Nc.mono dZ,hq,iS.mono dZ,iP.mono dZ,n1,by lia,l1,by lia,R1,R2,F0,F0,fun r3 H7 s7 oy oz=>?_⟩
   have ok:=R1.ok.mul R2.ok;have F4:=Eu (q:=q) (n:=n) ok (Am R1.out (M:=W1*W1) (fun i j=>by rw [a8];exact bH (R1.bf i) (R2.bf j))) (show (D1*D2).natAbs≤W1*W1 by rw [a8];exact bH R1.bD R2.bD)
   have T3:ji q n W2 (fc q n (cv f1 f2) (D1*D2)):=An hq sz.s2 (tP ..) oz.dJ fun z=>⟨_,_,F4.weak (sz.b2 z) (ae (ae (fX _ n1) (fX _ (by decide))) (sz.b2 z)) (aJ _)⟩
   have w3:fA q n (fc q n (cv f1 f2) (D1*D2)) (D1*D2) (wr n (cv f1 f2)):=F4.cj;generalize fc q n (cv f1 f2) (D1*D2)=B6 at oz T3 w3;clear F4 ok F0;have p7:=p6.mono s7;have yq:=aL.of (P:=P0) s7;have oz:=oz.er p7 (p6.ne oy);have iS:=aE.mono iS yq;have iP:=aE.mono iP yq;have vF:=aE.mono vF yq;have Nd:=Nc.mono yq;have Nf:=Nb.trans yq;have B7:∀{Hx:Hp},ai H7 Hx→dg t.a_ Hx z q:=fun s=>WU (Nf.trans (aL.of s));dsimp only [bE];simp only [d5,d6];have turn:∀(r:Addr) (m W:Nat) (ps:aK) (Hc:Hp) (D:Ends),ai H7 Hc→aE B2 (er P0 H7) q r ps→ji q n W ps→W*(Zt q n W 1*W)≤10 ^ 220→m≤5→(∀Hw,ai Hc Hw→D.nx [some (.ref a),some (.ref P0),some (.int (0+(i:Int))),some (.ref td),some (.ref z),some (.int (n:Int)),some (.ref r1),some (.ref r2),some (.ref D6),some (.ref r3),some (.ref r),some (.int (m:Int)),mB] Hw)→wt (G4 (tB (o6 (Kw t.a_) [] E0 (cX (gL 3) (cX (gL 4) (cX (gL 10) (cX (gL 8) (cX (gL 11) fH)))))))) (CD (tC (V.bl false))) iy D [some (.ref a),some (.ref P0),some (.int (0+(i:Int))),some (.ref td),some (.ref z),some (.int (n:Int)),some (.ref r1),some (.ref r2),some (.ref D6),some (.ref r3),some (.ref r),some (.int (m:Int)),mB] Hc:=by
    intro r m W ps Hc D sc hr T bz m5 kk;refine ⟨_,rfl,_,rfl,_,rfl,_,rfl,_,rfl,td,z,r,D6,q,SS,m,n,W,10 ^ 20,ps,ss,sf,rfl,(Nd.mono dZ).mono sc,B7 sc,hq,(hr.mono dZ).mono sc,(vF.mono dZ).mono sc,T,bz,ls,RS,by decide +kernel,by decide +kernel,m5,fun Hw sw=>⟨true,rfl,cQ ?_⟩⟩
    exact kk Hw sw
   refine iG ?_;refine ⟨_,rfl,by show 2≤sizeLine;decide,fun t1 WX=>?_⟩
   have yr:upd H7 t1 (.tup [.ref r1,.int 2]) t1=some (.tup [.ref r1,.int 2]):=av;have u1:ai H7 (upd H7 t1 (.tup [.ref r1,.int 2])):=aB WX;generalize upd H7 t1 (.tup [.ref r1,.int 2])=J1 at yr u1 ⊢;refine ⟨_,rfl,by show 2≤sizeLine;decide,fun t2 WY=>?_⟩
   have yt:upd J1 t2 (.tup [.ref r2,.int 1]) t2=some (.tup [.ref r2,.int 1]):=av;have u2:ai J1 (upd J1 t2 (.tup [.ref r2,.int 1])):=aB WY;generalize upd J1 t2 (.tup [.ref r2,.int 1])=J2 at yt u2 ⊢;refine ⟨_,rfl,by show 2≤sizeLine;decide,fun t3 WZ=>?_⟩
   have yu:upd J2 t3 (.tup [.ref r3,.int 1]) t3=some (.tup [.ref r3,.int 1]):=av;have u3:ai J2 (upd J2 t3 (.tup [.ref r3,.int 1])):=aB WZ;generalize upd J2 t3 (.tup [.ref r3,.int 1])=J3 at yu u3 ⊢;refine ⟨by show 3≤sizeLine;decide,fun l nl=>?_⟩
   have el:upd J3 l (.lst [.ref t1,.ref t2,.ref t3]) l=some (.lst [.ref t1,.ref t2,.ref t3]):=av;have u4:ai J3 (upd J3 l (.lst [.ref t1,.ref t2,.ref t3])):=aB nl;have yr:=u4 _ _ (u3 _ _ (u2 _ _ yr));have yt:=u4 _ _ (u3 _ _ yt);have yu:=u4 _ _ yu;have u:=u1.trans (u2.trans (u3.trans u4));generalize upd J3 l (.lst [.ref t1,.ref t2,.ref t3])=J4 at yr yt yu u el ⊢;refine ⟨l,rfl,⟨_,.of el⟩,?_⟩;refine Hq (K:=K) (a:=l) (xs:=[.ref t1,.ref t2,.ref t3]) (fun _ σ Hc=>ai J4 Hc∧∃v10 v11:Option V,σ=[some (.ref a),some (.ref P0),some (.int (0+(i:Int))),some (.ref td),some (.ref z),some (.int (n:Int)),some (.ref r1),some (.ref r2),some (.ref D6),some (.ref r3),v10,v11,mB]) ⟨ai.refl _,_,_,rfl⟩ (fun j σ Hc _ ⟨sc,_⟩=>.of (sc _ _ el)) ?_ ?_
   ·rintro j v σ Hc hj ⟨sc,v10,v11,rfl⟩
    match j,hj with
    | 0,hj=>cases hj;exact ⟨t1,_,rfl,.of (sc _ _ yr),rfl,_,_,rfl,_,_,rfl,rfl,turn r1 2 W1 lZ Hc _ (u.trans sc) iS T1 sz.z1 (by decide) fun Hw sw=>⟨sc.trans sw,_,_,rfl⟩⟩
    | 1,hj=>cases hj;exact ⟨t2,_,rfl,.of (sc _ _ yt),rfl,_,_,rfl,_,_,rfl,rfl,turn r2 1 W1 l_ Hc _ (u.trans sc) iP T2 sz.z1 (by decide) fun Hw sw=>⟨sc.trans sw,_,_,rfl⟩⟩
    | 2,hj=>cases hj;exact ⟨t3,_,rfl,.of (sc _ _ yu),rfl,_,_,rfl,_,_,rfl,rfl,turn r3 1 W2 B6 Hc _ (u.trans sc) oz T3 sz.z2 (by decide) fun Hw sw=>⟨sc.trans sw,_,_,rfl⟩⟩
    | j+3,hj=>simp at hj
   rintro σ Hc ⟨sc,v10,v11,rfl⟩;have F5:=u.trans sc;dsimp only;have bk:∀(r:Addr) (ps:aK) (W:Nat) {Hx:Hp},ai H7 Hx→aE B2 (er P0 H7) q r ps→∃xs:List V,Hx r=some (.lst xs)∧∀l,Hx l=none→aE (10 ^ 290) (upd Hx l (.lst xs)) q l ps:=fun r ps W {Hx} sx hr=>by obtain ⟨xs,ex,lx,fx⟩:=(hr.mono dZ).mono sx;exact ⟨xs,ex,fun l nl=>⟨xs,av,lx,fun i v p h1 h2=>(fx i v p h1 h2).mono (aB nl)⟩⟩
   obtain ⟨y1,Ng,g1⟩:=bk r1 lZ W1 F5 iS;refine ⟨_,rfl,_,rfl,r1,y1,rfl,.inl (.of Ng),fun k1 B8=>?_⟩;dsimp only [fH];refine Ez ⟨z,k1,q,n,W1,lZ,rfl,B7 (F5.trans (aB B8)),hq,g1 k1 B8,T1,fun v1 Ha sa vG=>?_⟩;have B9:=(F5.trans (aB B8)).trans sa;obtain ⟨y2,Nh,g2⟩:=bk r2 l_ W1 B9 iP;refine ⟨_,rfl,_,rfl,r2,y2,rfl,.inl (.of Nh),fun k2 B_=>?_⟩;dsimp only [fH];refine Ez ⟨z,k2,q,n,W1,l_,rfl,B7 (B9.trans (aB B_)),hq,g2 k2 B_,T2,fun Ca Hb sb oo=>?_⟩;have F6:=(aB (o:=.lst y2) B_).trans sb;have Cb:=B9.trans F6;obtain ⟨y3,Ni,g3⟩:=bk r3 B6 W2 Cb oz;refine ⟨_,rfl,_,rfl,r3,y3,rfl,.inl (.of Ni),fun k3 Cc=>?_⟩;dsimp only [fH];refine Ez ⟨z,k3,q,n,W2,B6,rfl,B7 (Cb.trans (aB Cc)),hq,g3 k3 Cc,T3,fun yv Hd sd yw=>?_⟩;have Cd:=(aB (o:=.lst y3) Cc).trans sd;have Nj:=Cb.trans Cd;have vG:=(vG.mono F6).mono Cd;have oo:=oo.mono Cd;refine ⟨by show 3≤sizeLine;decide,fun bl W0=>?_⟩
   have kY:upd Hd bl (.lst [v1,Ca,yv]) bl=some (.lst [v1,Ca,yv]):=av;have yx:ai Hd (upd Hd bl (.lst [v1,Ca,yv])):=aB W0;have Ce:=Nj.trans yx;have vG:=vG.mono yx;have oo:=oo.mono yx;have yw:=yw.mono yx;generalize upd Hd bl (.lst [v1,Ca,yv])=He at kY Ce vG oo yw ⊢;clear g1 g2 g3 Ng Nh Ni B8 B_ Cc sa sb sd F6 Cd yx B9 Cb Nj;have both:=Th (ps:=B6) hq R1.cj R2.cj;have pe:=p7.mono Ce;have F7:=WT.trans (Nf.trans (aL.of (P:=P0) Ce));have W3:=(Nd.mono dZ).mono Ce;have z3:=sz.z3;have sure:(¬Inv q n f1∨¬Inv q n f2)→yv=.aV:=fun h=>by
    rcases yw with ⟨e,_⟩ | ⟨c3,W4,F3,M3,_,_,B3⟩;·exact e
    ·have y:=both.mp (B3.inv _ _ w3)
     rcases h with h | h;·exact absurd y.1 h
     ·exact absurd y.2 h
   dsimp only [bE];simp only [d5,d6];rcases vG with ⟨rfl,W5⟩ | ⟨c1,Ao,F1,M1,rfl,W6,B1⟩
   ·have e3:=sure (.inl (W5 _ _ R1.cj))
    subst e3;refine ⟨_,rfl,bl,_,_,_,rfl,rfl,.of kY,rfl,rfl,true,by simp,dI (dI ?_)⟩
    exact ⟨_,rfl,bl,_,_,_,rfl,rfl,.of kY,rfl,rfl,false,by simp,cQ ⟨_,_,_,_,_,_,_,_,_,_,_,rfl,F7,pe⟩⟩
   ·have W7:decide (V.ref c1=V.aV)=false:=fS fun h=>nomatch h
    refine ⟨_,rfl,bl,_,_,_,rfl,rfl,.of kY,rfl,rfl,false,by rw [W7],cQ ?_⟩
    rcases oo with ⟨rfl,W8⟩ | ⟨c2,Ap,F2,M2,rfl,W9,mC⟩
    ·have e3:=sure (.inr (W8 _ _ R2.cj))
     subst e3;refine ⟨_,rfl,bl,_,_,_,rfl,rfl,.of kY,rfl,rfl,true,by simp,dI ?_⟩
     exact ⟨_,rfl,bl,_,_,_,rfl,rfl,.of kY,rfl,rfl,false,by simp,cQ ⟨_,_,_,_,_,_,_,_,_,_,_,rfl,F7,pe⟩⟩
    ·have W_:decide (V.ref c2=V.aV)=false:=fS fun h=>nomatch h
     refine ⟨_,rfl,bl,_,_,_,rfl,rfl,.of kY,rfl,rfl,false,by rw [W_],cQ ?_⟩
     rcases yw with ⟨_,Xa⟩ | ⟨c3,W4,F3,M3,rfl,Nk,B3⟩;·exact absurd (both.mpr ⟨B1.inv _ _ R1.cj,mC.inv _ _ R2.cj⟩) (Xa _ _ w3)
     have Xb:RowW q Ao M1 F1 (Zt q n W1 1*W1) (Zt q n W1 1*W1) n:=⟨B1.cj.ok,B1.dvd,B1.cj.w,B1.bF,B1.bM,B1.cj.low⟩;have Xc:RowW q Ap M2 F2 (Zt q n W1 1*W1) (Zt q n W1 1*W1) n:=⟨mC.cj.ok,mC.dvd,mC.cj.w,mC.bF,mC.bM,mC.cj.low⟩;refine ⟨_,rfl,bl,_,_,_,rfl,rfl,.of kY,rfl,_,rfl,_,rfl,bl,_,_,_,rfl,rfl,.of kY,rfl,_,rfl,bl,_,_,_,rfl,rfl,.of kY,rfl,td,c1,c2,q,M1,M2,n,Ao,Ap,F1,F2,_,_,_,_,rfl,W3,hq,W6,W9,n1,by lia,B1.len,by rw [mC.len];exact aJ _,Xb,Xc,z3,z3,fun c4 Hf F8 Fm FQ=>?_⟩
     rw [B1.both hq n1 mC B3 R1.cj R2.cj w3 Nk.dJ] at FQ;refine xi hq (Nk.mono F8) FQ ⟨false,rfl,cQ ?_⟩;exact ⟨_,_,_,_,_,_,_,_,_,_,_,rfl,F7.trans (aL.of F8),pe.mono F8⟩
  unfold dE at gB;by_cases z0:q=0
  ·subst z0
   obtain ⟨F,W1,W2,sz⟩:=Tb (n:=(1+m0).toNat) (by lia) (by lia)
   have en:(1:Int)+m0=(((1+m0).toNat:Nat):Int):=by lia
   generalize (1+m0).toNat=n at sz en;rw [pL] at gB;refine ⟨_,rfl,td,_,_,_,rfl,rfl,.of (dZ _ _ gB),rfl,rfl,false,by decide +kernel,cQ ?_⟩
   show R [some (.ref a),some (.ref P0),some (.int (0+(i:Int))),some (.ref td),some (.ref z),some (.int (1+m0)),v6,v7,v8,v9,v10,v11,mB] H3;rw [en];exact rest n F W1 W2 H3 sz (aL.refl _) p3
  ·rw [nH z0] at gB
   refine ⟨_,rfl,td,_,_,_,rfl,rfl,.of (dZ _ _ gB),rfl,rfl,true,by decide +kernel,dI ?_⟩
   refine ⟨_,rfl,P0,a,ns,8,rfl,p3,dO,by decide,aP.of_lt (by decide) (by decide),fun m1 H4 m10 m11 s4 p4=>⟨_,_,rfl,rfl,?_⟩⟩
   obtain ⟨F,W1,W2,sz⟩:=Te (q:=q) (n:=(1+m1).toNat) z0 (by lia) (by lia)
   have en:(1:Int)+m1=(((1+m1).toNat:Nat):Int):=by lia
   generalize (1+m1).toNat=n at sz en;show R [some (.ref a),some (.ref P0),some (.int (0+(i:Int))),some (.ref td),some (.ref z),some (.int (1+m1)),v6,v7,v8,v9,v10,v11,mB] H4;rw [en];exact rest n F W1 W2 H4 sz s4 p4
 ·rintro σ Hc ⟨v2,v3,v4,v5,v6,v7,v8,v9,v10,v11,mB,rfl,sT,pc⟩
  exact kQ _
theorem Xd{l:PySem.W.OpenLaw}(T:Txt K mg t):∃fd:FuncData,(∀(s:Shared) (v:Value),BindsTo s fd ⟨[v],[]⟩ [("script",v)])∧∀base:Heap,K.In base→base.Ns mainGlobals mg→aW l.prog w K mg base bR 13 t.nX fd ["script"] (zr K):=by obtain ⟨oc,od,kV,doc,pm,an,aU,ct,fj,e,lk,fe⟩:=T.vp.ex;refine ⟨t.qP,fun s v=>?_,fun base _ _=>WL T⟩;rw [e];exact .of_eq rfl
end
theorem walk{l:PySem.W.OpenLaw}{q:Program}{loose:List Str}{XP:(Str→Option Value)→Heap→Prop}{YP:World→Heap→Prop}{d:DefRec}{K:Params→PySem.W.Frag}(hn:l.most=some 63)(mZ:d.params.defaults=[])
  (hY:∀(w:World) (h:Heap),YP w h→(K w.params).In h)
  (F:∀(w:World) (mg:dn) (fa:Addr) (h:Heap),(K w.params).In h→h.Ns mainGlobals mg→mg d.name=some (.ref fa)→
   ∃fd:FuncData,(∀(s:Shared) (u:Value),BindsTo s fd ⟨[u],[]⟩ [("script",u)])∧∀base:Heap,(K w.params).In base→base.Ns mainGlobals mg→aW l.prog w (K w.params) mg base bR 13 fa fd ["script"] (zr (K w.params))) :
  PySem.W.WalkO q loose XP YP l.row.toRowW d [] (fun f vs=>PySem.call f vs):=
 L2.PK (n:=63) (k:=13) (x:="script") (CX:=fun _=>bR) (sp:=fun w=>zr (K w.params)) hn (by decide) mZ ⟨rfl,by decide,by decide⟩ hY F (fun _ _ a ns hl _ hS=>⟨a,ns,rfl,hS,hl,fun _=>rfl⟩) fun _ _ _ _ _ z=>z
theorem Xe{K:aF}{h:Heap}{mg:dn}(X:K.In h)(G:h.Ns mainGlobals mg)
  {a_:Addr}
  {qT:Addr}
  {kO:Addr}
  {nY:Addr}
  {ma:Addr} {Xf Nl:Option Addr} {Xg:Array (Option Value)} {Xh Nm Nn Np F9 Nq:Value}
  {F_:Addr} {Xi:Tok} {Xj:Value} {Xk:Option Addr} {Xl:Nat} {Xm:Array (Option Value)}
  {Xn:Tok}
  {Xo:Tok}
  {Xp:Tok}
  {pX pY pZ p9 p_ qa qb qc qd qe qf qg qh qi qj qk ql qm qo qp qr qs qt qu qv qw qx qy qz qA qB qC qD qE qF qG qH qI qJ qK qL qM qN qO nX qQ qR qS:Addr} {tR tS tV tW tX tY tZ t5 t6 t7 t8 t9 t_ uc ud ue uf ug uh ui uj uk um uo uq ur uu uv uw ux uy uz uA uB uC uD uE uF uH uI uJ uK uN uO qP uP uQ uR:FuncData}
  (Ga:PySem.W.nsIn K mainGlobals "World"=some (some (.ref a_)))
  (Gb:PySem.W.nsIn K mainGlobals "NoWorld"=some (some (.ref qT)))
  (Gd:PySem.W.nsIn K mainGlobals "NoOver"=some (some (.ref kO)))
  (Ge:PySem.W.nsIn K mainGlobals "NoFit"=some (some (.ref nY)))
  (Xq:mg "whole_trimmed"=some (.ref pX))
  (qU:aH K "whole_trimmed" Ar pX tR)
  (Xr:mg "whole_times"=some (.ref pY))
  (qV:aH K "whole_times" As pY tS)
  (Xs:mg "whole_less"=some (.ref pZ))
  (uS:aH K "whole_less" Au pZ tV)
  (Xt:mg "whole_parted"=some (.ref p9))
  (qW:aH K "whole_parted" Av p9 tW)
  (Xu:mg "power"=some (.ref p_))
  (nZ:aH K "power" Aw p_ tX)
  (Xv:mg "next_part"=some (.ref qa))
  (uT:aH K "next_part" Ax qa tY)
  (Xw:mg "whole_common"=some (.ref qb))
  (uU:aH K "whole_common" Ay qb tZ)
  (Xx:mg "trimmed"=some (.ref qc))
  (jT:aH K "trimmed" Az qc t5)
  (Xy:mg "padded"=some (.ref qd))
  (md:aH K "padded" AA qd t6)
  (Xz:mg "numbers_of"=some (.ref qe))
  (jU:aH K "numbers_of" AB qe t7)
  (XA:mg "poly_times"=some (.ref qf))
  (uV:aH K "poly_times" AD qf t8)
  (XB:mg "parted"=some (.ref qg))
  (q_:aH K "parted" AE qg t9)
  (XC:mg "common"=some (.ref qh))
  (rf:aH K "common" AF qh t_)
  (XD:mg "check_aim"=some (.ref qi))
  (uW:aH K "check_aim" AG qi uc)
  (XE:mg "turned_size"=some (.ref qj))
  (rg:aH K "turned_size" AH qj ud)
  (XF:mg "whole_turn"=some (.ref qk))
  (rh:aH K "whole_turn" AI qk ue)
  (XG:mg "turned_undone"=some (.ref ql))
  (uX:aH K "turned_undone" AJ ql uf)
  (XH:mg "turned_back"=some (.ref qm))
  (me:aH K "turned_back" AK qm ug)
  (XI:mg "is_whole"=some (.ref qo))
  (uY:aH K "is_whole" AL qo uh)
  (XJ:mg "common_divisor"=some (.ref qp))
  (rj:aH K "common_divisor" AM qp ui)
  (XM:mg "is_prime"=some (.ref qr))
  (uZ:aH K "is_prime" AN qr uj)
  (XN:mg "ratio"=some (.ref qs))
  (u5:aH K "ratio" AO qs uk)
  (XO:mg "one_bottom"=some (.ref qt))
  (u6:aH K "one_bottom" AQ qt um)
  (XQ:mg "remainder_back"=some (.ref qu))
  (u7:aH K "remainder_back" AR qu uo)
  (XR:mg "remainder_over"=some (.ref qv))
  (u9:aH K "remainder_over" AS qv uq)
  (XS:mg "is_fractions"=some (.ref qw))
  (u_:aH K "is_fractions" AU qw ur)
  (XT:mg "is_wheel"=some (.ref qx))
  (va:aH K "is_wheel" AV qx uu)
  (XU:mg "_law_e_fill"=some (.ref qy))
  (vb:aH K "_law_e_fill" AW qy uv)
  (XW:mg "_law_e_next"=some (.ref qz))
  (eO:aH K "_law_e_next" AX qz uw)
  (XX:mg "_law_e_low"=some (.ref qA))
  (kP:aH K "_law_e_low" AY qA ux)
  (XY:mg "_law_e_of"=some (.ref qB))
  (gW:aH K "_law_e_of" AZ qB uy)
  (XZ:mg "_law_e_plus"=some (.ref qC))
  (rk:aH K "_law_e_plus" A0 qC uz)
  (X0:mg "_law_e_times"=some (.ref qD))
  (vf:aH K "_law_e_times" A3 qD uA)
  (X3:mg "_law_e_is_number"=some (.ref qE))
  (vg:aH K "_law_e_is_number" A4 qE uB)
  (X4:mg "_law_e_is_row"=some (.ref qF))
  (vh:aH K "_law_e_is_row" A5 qF uC)
  (X5:mg "_law_e_world"=some (.ref qG))
  (vi:aH K "_law_e_world" A6 qG uD)
  (X6:mg "_law_e_number"=some (.ref qH))
  (rl:aH K "_law_e_number" A7 qH uE)
  (X7:mg "_law_e_cut"=some (.ref qI))
  (vj:aH K "_law_e_cut" A8 qI uF)
  (X9:mg "_law_e_product"=some (.ref qJ))
  (n_:aH K "_law_e_product" A9 qJ uH)
  (X_:mg "_law_e_turn"=some (.ref qK))
  (vk:aH K "_law_e_turn" A_ qK uI)
  (Ya:mg "_law_e_wrapped"=some (.ref qL))
  (mh:aH K "_law_e_wrapped" Ba qL uJ)
  (Yb:mg "_law_e_turned_row"=some (.ref qM))
  (rp:aH K "_law_e_turned_row" Bb qM uK)
  (Yc:mg "_law_e_turned_to"=some (.ref qN))
  (kR:aH K "_law_e_turned_to" Bc qN uN)
  (Yd:mg "_law_e_back_right"=some (.ref qO))
  (vo:aH K "_law_e_back_right" Bd qO uO)
  (Ye:mg "law"=some (.ref nX))
  (vp:aH K "law" Be nX qP)
  (Bm:Mk K a_ qQ)
  (xP:eZ K "__init__" "World.__init__" Bf qQ uP)
  (Gf:PySem.W.findIn K (.ref a_) "of"=some (some (.ref ma)))
  (Gg:PySem.W.isFn K (.ref ma)=true)
  (vH:K.lookup ma=some ⟨Xh,Xf,.func (PySem.W.fnOf "of" "World.of" (iC jk) (fK jk) (aM jk) (.ref F_) Nm Nn Np Nl F9 Nq),Xg⟩)
  (vI:PySem.W.codeIn K F9 "World.of"=true)
  (rP:PySem.W.keepIn K (.ref ma)=true)
  (vJ:K.lookup F_=some ⟨Xj,Xk,.seq #[.int 1 Xi] Xl,Xm⟩)
  (mi:Meth K a_ "as_wholes" qR)
  (xQ:eZ K "as_wholes" "World.as_wholes" Bg qR uQ)
  (mj:Meth K a_ "evenly" qS)
  (xR:eZ K "evenly" "World.evenly" Bh qS uR)
  (Gh:PySem.W.plainGet K a_ Str.empty=true)
  (Gi:PySem.W.hasDictIn K a_=true)
  (Gj:PySem.W.plainOver K a_=true)
  (Gk:PySem.W.findIn K (.ref a_) "__setattr__"=some (some (.builtin "object.__setattr__")))
  (Gm:PySem.W.findIn K (.ref a_) "prime"=some none)
  (Gn:PySem.W.nsIn K mainGlobals "ValueError"=some none)
  (Gp:PySem.W.nsIn K mainGlobals "abs"=some none)
  (Gq:PySem.W.nsIn K mainGlobals "all"=some none)
  (Gr:PySem.W.nsIn K mainGlobals "bool"=some none)
  (Gs:PySem.W.nsIn K mainGlobals "enumerate"=some none)
  (Gu:PySem.W.nsIn K mainGlobals "int"=some none)
  (Gv:PySem.W.nsIn K mainGlobals "isinstance"=some none)
  (Gw:PySem.W.nsIn K mainGlobals "len"=some none)
  (Gx:PySem.W.nsIn K mainGlobals "list"=some none)
  (Gy:PySem.W.nsIn K mainGlobals "max"=some none)
  (Gz:PySem.W.nsIn K mainGlobals "min"=some none)
  (GA:PySem.W.nsIn K mainGlobals "range"=some none)
  (GB:PySem.W.nsIn K mainGlobals "sum"=some none)
  (GC:PySem.W.nsIn K mainGlobals "tuple"=some none)
  (GD:PySem.W.nsIn K mainGlobals "zip"=some none)
  (GF:PySem.W.nsIn K mainGlobals "GREATEST_PRIME"=some (some (.int 997 Xn)))
  (GG:PySem.W.nsIn K mainGlobals "LONG"=some (some (.int 2048 Xo)))
  (GH:PySem.W.nsIn K mainGlobals "MOST"=some (some (.int 40 Xp)))
  (GI:PySem.W.excIn K qT [.type "ValueError",.type "Exception",.type "BaseException",.type "object"] "ValueError.__new__"=true)
  (GJ:PySem.W.excIn K kO [.type "ValueError",.type "Exception",.type "BaseException",.type "object"] "ValueError.__new__"=true)
  (GK:PySem.W.excIn K nY [.type "ValueError",.type "Exception",.type "BaseException",.type "object"] "ValueError.__new__"=true)
  : ∃t:EA,Txt K mg t:=by
 refine ⟨⟨pX,tR,pY,tS,pZ,tV,p9,tW,p_,tX,qa,tY,qb,tZ,qc,t5,qd,t6,qe,t7,qf,t8,qg,t9,qh,t_,qi,uc,qj,ud,qk,ue,ql,uf,qm,ug,qo,uh,qp,ui,qr,uj,qs,uk,qt,um,qu,uo,qv,uq,qw,ur,qx,uu,qy,uv,qz,uw,qA,ux,qB,uy,qC,uz,qD,uA,qE,uB,qF,uC,qG,uD,qH,uE,qI,uF,qJ,uH,qK,uI,qL,uJ,qM,uK,qN,uN,qO,uO,nX,qP,qQ,uP,ma,PySem.W.fnOf "of" "World.of" (iC jk) (fK jk) (aM jk) (.ref F_) Nm Nn Np Nl F9 Nq,qR,uQ,qS,uR,a_,qT,kO,nY⟩,?_⟩
 exact {
  qU:=qU
  EC:=qU.bO
  ED:=Xq
  qV:=qV
  EE:=qV.bO
  EF:=Xr
  uS:=uS
  Kx:=uS.bO
  Ky:=Xs
  qW:=qW
  EG:=qW.bO
  EH:=Xt
  nZ:=nZ
  Bi:=nZ.bO
  Bj:=Xu
  uT:=uT
  Kz:=uT.bO
  KA:=Xv
  uU:=uU
  KC:=uU.bO
  KD:=Xw
  jT:=jT
  qX:=jT.bO
  qY:=Xx
  md:=md
  xI:=md.bO
  xJ:=Xy
  jU:=jU
  qZ:=jU.bO
  q8:=Xz
  uV:=uV
  KG:=uV.bO
  KH:=XA
  q_:=q_
  EI:=q_.bO
  EJ:=XB
  rf:=rf
  EK:=rf.bO
  EL:=XC
  uW:=uW
  KI:=uW.bO
  KJ:=XD
  rg:=rg
  EM:=rg.bO
  EN:=XE
  rh:=rh
  EO:=rh.bO
  ER:=XF
  uX:=uX
  KL:=uX.bO
  KN:=XG
  me:=me
  xK:=me.bO
  xM:=XH
  uY:=uY
  KO:=uY.bO
  KP:=XI
  rj:=rj
  ES:=rj.bO
  ET:=XJ
  uZ:=uZ
  KQ:=uZ.bO
  KR:=XM
  u5:=u5
  KS:=u5.bO
  KU:=XN
  u6:=u6
  KW:=u6.bO
  KY:=XO
  u7:=u7
  KZ:=u7.bO
  K0:=XQ
  u9:=u9
  K1:=u9.bO
  K2:=XR
  u_:=u_
  K3:=u_.bO
  K4:=XS
  va:=va
  K5:=va.bO
  K6:=XT
  vb:=vb
  K7:=vb.bO
  K8:=XU
  eO:=eO
  gc:=eO.bO
  gf:=XW
  kP:=kP
  vc:=kP.bO
  vd:=XX
  gW:=gW
  jV:=gW.bO
  jW:=XY
  rk:=rk
  EU:=rk.bO
  EV:=XZ
  vf:=vf
  K9:=vf.bO
  K_:=X0
  vg:=vg
  La:=vg.bO
  Lb:=X3
  vh:=vh
  Lc:=vh.bO
  Ld:=X4
  vi:=vi
  Le:=vi.bO
  Lg:=X5
  rl:=rl
  EW:=rl.bO
  EX:=X6
  vj:=vj
  Lh:=vj.bO
  Li:=X7
  n_:=n_
  Bk:=n_.bO
  Bl:=X9
  vk:=vk
  Lj:=vk.bO
  Lk:=X_
  mh:=mh
  xN:=mh.bO
  xO:=Ya
  rp:=rp
  EY:=rp.bO
  EZ:=Yb
  kR:=kR
  vm:=kR.bO
  vn:=Yc
  vo:=vo
  Ll:=vo.bO
  Lm:=Yd
  vp:=vp
  Tj:=vp.bO
  Ln:=Ye
  xP:=xP
  Lo:=xP.bO
  Bm:=Bm
  Lp:=(zy (st:=jk) (i:=1) vH vI rP vJ)
  E3:=iE.binds (ps:=["self","top","bottom"]) (zy (st:=jk) (i:=1) vH vI rP vJ) fun s dT kV doc pm an aU ct tk o n us ho hd hl=>match us,hl with | [_,_,_],_=>.of_defaults rfl ho hd rfl rfl
  Bn:=iE.Qw (ps:=["self","top","bottom"]) (zy (st:=jk) (i:=1) vH vI rP vJ) fun s dT kV doc pm an aU ct tk o n us ho hd hl=>match us,hl with | [_,_],_=>.of_defaults rfl ho hd rfl rfl
  Tn:=iE.Qx (ps:=["self","top","bottom"]) (y:="bottom") (zy (st:=jk) (i:=1) vH vI rP vJ) fun s dT kV doc pm an aU ct tk o n us ws ho hd hw hl=>match ws,us,hw,hl with | [_],[_,_],_,_=>.of_defaults rfl ho hd rfl rfl
  rq:=⟨Gf,Gg,rP⟩
  xQ:=xQ
  rz:=xQ.bO
  mi:=mi
  xR:=xR
  rA:=xR.bO
  mj:=mj
  dq:=⟨Gh,Gi,Gj,Gk⟩
  Lq:=bw X G Ga
  kS:=Gm
  Lr:=bw X G Gb
  Bo:=bw X G Gd
  E4:=bw X G Ge
  To:=gJ X G Gn
  xS:=gJ X G Gp
  Ls:=gJ X G Gq
  Bp:=gJ X G Gr
  E5:=gJ X G Gs
  xT:=gJ X G Gu
  jX:=gJ X G Gv
  ck:=gJ X G Gw
  oa:=gJ X G Gx
  E6:=gJ X G Gy
  Lu:=gJ X G Gz
  gz:=gJ X G GA
  Tp:=gJ X G GB
  Bq:=gJ X G GC
  Br:=gJ X G GD
  Lv:=⟨_,bw X G GF,_,rfl⟩
  Lw:=⟨_,bw X G GG,_,rfl⟩
  Lx:=⟨_,bw X G GH,_,rfl⟩
  Ly:=GI
  Bs:=GJ
  E7:=GK
 }
end My
namespace PySem.W.Fast
def tw6877049399321760726:Unit:=()
def tw5946044770648903166:Unit:=()
def tw1559530675671550043:Unit:=()
def tw9269350605254979498:Unit:=()
def tw9166611300584164443:Unit:=()
def tw4384611527129133694:Unit:=()
def tw3467883683023621950:Unit:=()
def tw8583938565914969374:Unit:=()
def tw14548483632292087959:Unit:=()
def tw11671550341233361204:Unit:=()
def tw7888792931948937678:Unit:=()
def tw150053169479049437:Unit:=()
def tw3691938339286984187:Unit:=()
def tw12438246584026685163:Unit:=()
def tw5052221810618958831:Unit:=()
def tw63435156500792159:Unit:=()
def tw6873826770731753580:Unit:=()
def tw3600542413159371785:Unit:=()
def tw16168896011077985941:Unit:=()
def tw15863992596667236433:Unit:=()
def tw3339382842585482659:Unit:=()
def tw8807083411797838119:Unit:=()
def tw4550052195182986872:Unit:=()
def tw13050461772737245009:Unit:=()
def tw11910306948374626560:Unit:=()
def tw3153061228814706730:Unit:=()
def tw10825658655300480816:Unit:=()
def tw8142171725148296648:Unit:=()
def tw12327957098221124705:Unit:=()
def tw4294662874852417606:Unit:=()
def tw2880300960733885217:Unit:=()
def tw16200466975527922631:Unit:=()
def tw15380505975144939835:Unit:=()
def tw16283025414985460732:Unit:=()
def tw15147039957529704191:Unit:=()
def tw9813083043355220127:Unit:=()
def tw2448373520169050646:Unit:=()
def tw11597441189497185588:Unit:=()
def tw13169340580782006761:Unit:=()
def tw4580261521830709559:Unit:=()
def tw8268977197482161559:Unit:=()
def tw11499686978784432271:Unit:=()
def tw12413448012944627141:Unit:=()
def tw9237584062543217420:Unit:=()
def tw15560981051958567717:Unit:=()
def tw6368998307707401663:Unit:=()
def tw4769045325782453908:Unit:=()
def tw3649643284263254860:Unit:=()
def tw7279035406069919900:Unit:=()
def tw15493819389019441540:Unit:=()
def tw4339246961814180089:Unit:=()
def tw5121383727638053636:Unit:=()
def tw9449863482418165196:Unit:=()
def tw17828574823727941560:Unit:=()
def tw8949896327914652531:Unit:=()
def tw8643673900778172909:Unit:=()
def tw17240862068669538871:Unit:=()
def tw5908279597053588782:Unit:=()
def tw1383158372926283824:Unit:=()
def tw15836256198569506855:Unit:=()
def tw14919076697647065913:Unit:=()
def tw14640607382651589464:Unit:=()
def tw5845418823202151252:Unit:=()
def tw16382365561887061052:Unit:=()
def tw11781124335178427890:Unit:=()
def tw13256943134554073249:Unit:=()
def tw10133121175817426684:Unit:=()
def tw11797174726450319035:Unit:=()
def tw2047956277403873079:Unit:=()
def tw13575972766420374016:Unit:=()
def tw10842466021033697104:Unit:=()
def tw17043002121424940199:Unit:=()
def tw17333858497072017669:Unit:=()
def tw3939843850480227887:Unit:=()
def tw11315076769478418640:Unit:=()
def tw5871454290287284294:Unit:=()
def tw322706468615214068:Unit:=()
def tw6138647054200251314:Unit:=()
def tw9458746714897940178:Unit:=()
def tw9158072366577390848:Unit:=()
def tw9732746635492911001:Unit:=()
def tw1510642308730858045:Unit:=()
def tw6234667988239619923:Unit:=()
def tw17611320458962736998:Unit:=()
def tw16764508854503230773:Unit:=()
def tw13469647664123406210:Unit:=()
def tw5915075809564662143:Unit:=()
def tw2230834770035859635:Unit:=()
def tw7581033418097139943:Unit:=()
def tw13295253107863612378:Unit:=()
def tw16335438619442682555:Unit:=()
def tw7521874586885227632:Unit:=()
def tw8088156234999909118:Unit:=()
def tw14676146449791762401:Unit:=()
def tw13872905369665889033:Unit:=()
def tw12233618854859909958:Unit:=()
def tw8232890043873920033:Unit:=()
def tw13382833325249418250:Unit:=()
def tw15453329284404242746:Unit:=()
def tw10675729347941764370:Unit:=()
def tw10720441995446335970:Unit:=()
def tw18041544713866093662:Unit:=()
def tw14450988222823669486:Unit:=()
def tw1124922262363839859:Unit:=()
def tw2199090719772691795:Unit:=()
def tw1572557303722067390:Unit:=()
def tw7560990452505065185:Unit:=()
def tw10397940291691261157:Unit:=()
def tw12497142350869823964:Unit:=()
def tw4139926486126091362:Unit:=()
def tw7222331200176391086:Unit:=()
def tw13278951425307981634:Unit:=()
def tw2989429027235289449:Unit:=()
def tw5240789894861512695:Unit:=()
def tw11962701823737649178:Unit:=()
def tw3285082361403911548:Unit:=()
def tw8754865062649996230:Unit:=()
def tw13170815806319791096:Unit:=()
def tw7191500969873113086:Unit:=()
def tw1242615264994916102:Unit:=()
def tw18155881902842323976:Unit:=()
def tw452578458649873343:Unit:=()
def tw789106473608915058:Unit:=()
def tw3027144327711532418:Unit:=()
def tw11104313422519579250:Unit:=()
def tw11722822869073246710:Unit:=()
def tw9107601969815009554:Unit:=()
def tw2796136735534705073:Unit:=()
def tw9900629707383712288:Unit:=()
def tw1397747930315620147:Unit:=()
def tw4579767579667159365:Unit:=()
def tw1762595971841488196:Unit:=()
def tw152720429229011577:Unit:=()
def tw9683398094541716248:Unit:=()
def tw9109113497849807934:Unit:=()
def tw5858473854830260630:Unit:=()
def tw7974149308780283601:Unit:=()
def tw11476571075087180762:Unit:=()
def tw7934278996686410647:Unit:=()
def tw9969485378976826272:Unit:=()
def tw8975400636717797921:Unit:=()
def tw6667436934421235876:Unit:=()
def tw13008834757367617202:Unit:=()
def tw6839421409586925689:Unit:=()
def tw17049658752917528679:Unit:=()
def tw9625597254029239025:Unit:=()
def tw3994123419439454438:Unit:=()
def tw14186811368985038902:Unit:=()
def tw4337477847202792305:Unit:=()
def tw11900436130554427733:Unit:=()
def tw937510010385717823:Unit:=()
def tw252105604981676551:Unit:=()
def tw14834023257812503906:Unit:=()
def tw15885266600186727249:Unit:=()
def tw8207139224536673775:Unit:=()
def tw15399856663528061600:Unit:=()
def tw10417528503462997801:Unit:=()
def tw16844390968565335627:Unit:=()
def tw15893163982710536207:Unit:=()
def tw8676510013889481994:Unit:=()
def tw10281112717750582399:Unit:=()
def tw3550283414265951380:Unit:=()
def tw10585685529695217302:Unit:=()
def tw6112676371812910510:Unit:=()
def tw10242014297946428231:Unit:=()
def tw17677687156567645728:Unit:=()
def tw14613255341559725822:Unit:=()
def tw13537523289852076808:Unit:=()
def tw935713666767625941:Unit:=()
def tw12020907764821726609:Unit:=()
def tw13038024474369818847:Unit:=()
def tw9288968804498776732:Unit:=()
def tw9052640137836118502:Unit:=()
def tw14343735971603560180:Unit:=()
def tw12656176524390599323:Unit:=()
def tw3606810323101098349:Unit:=()
def tw17672617343934182075:Unit:=()
def tw6399569614691961884:Unit:=()
def tw15531911610679171168:Unit:=()
def tw7267165672890015227:Unit:=()
def tw7374702147577797819:Unit:=()
def tw18407515177356982603:Unit:=()
def tw15198052447421282422:Unit:=()
def tw9933137341248463448:Unit:=()
def tw184064288634030634:Unit:=()
def tw15590246128836763206:Unit:=()
def tw7808238386969026471:Unit:=()
def tw17595834700055000736:Unit:=()
def tw13928472265596910038:Unit:=()
def tw7862127510120016765:Unit:=()
def tw4521909111711371395:Unit:=()
def tw5597784857377165569:Unit:=()
def tw5931697526033844858:Unit:=()
def tw13558889263055104084:Unit:=()
def tw4540678251867456773:Unit:=()
def tw11944467836579938058:Unit:=()
def tw10663598344153889358:Unit:=()
def tw6125452982141640006:Unit:=()
def tw728404894606307841:Unit:=()
def tw1406487374387981627:Unit:=()
def tw3883101053574842521:Unit:=()
def tw7130193683673198250:Unit:=()
def tw10355583582446283736:Unit:=()
def tw12719884989434737479:Unit:=()
def tw163353335739104482:Unit:=()
def tw7696644794346293936:Unit:=()
def tw3711123810179684503:Unit:=()
def tw15201007302003739695:Unit:=()
def tw11044603210750489679:Unit:=()
def tw13673392975085141866:Unit:=()
def tw8054304888853619451:Unit:=()
def tw12149717115986822768:Unit:=()
def tw16958877946916079974:Unit:=()
def tw7151642380904376739:Unit:=()
def tw16594657130342291387:Unit:=()
def tw15289839848761180946:Unit:=()
def tw9005652763282846455:Unit:=()
def tw15664696068759714171:Unit:=()
def tw1985605696985356359:Unit:=()
def tw17158877482178987255:Unit:=()
def tw12026759282249771277:Unit:=()
def tw3730330040028792728:Unit:=()
def tw2875434056389909684:Unit:=()
def tw17802467234363486523:Unit:=()
def tw11796410629699569675:Unit:=()
def tw12919939771076230991:Unit:=()
def tw5030264829352648496:Unit:=()
def tw2138055338247342462:Unit:=()
def tw6302179350782944357:Unit:=()
def tw10181977199423373543:Unit:=()
def tw3676392931059525961:Unit:=()
def tw6102780308100281101:Unit:=()
def tw13427005639112061447:Unit:=()
def tw9317294289950527158:Unit:=()
def tw12413018055659468007:Unit:=()
def tw7988251678994790757:Unit:=()
def tw6413108198415474334:Unit:=()
def tw5694075087181233339:Unit:=()
def tw2882904807920813714:Unit:=()
def tw11909392183314675248:Unit:=()
def tw704069542434174865:Unit:=()
def tw15140396047900438454:Unit:=()
def tw801256404833722403:Unit:=()
def tw10860679297632979759:Unit:=()
def tw14116432134126875876:Unit:=()
def tw10416550046625265977:Unit:=()
def tw443106310707413786:Unit:=()
def tw7376139324180939377:Unit:=()
def tw13137272831121702816:Unit:=()
def tw9307018553698136471:Unit:=()
def tw14081962321912475410:Unit:=()
def tw5804908809559160227:Unit:=()
def tw12658059389112480338:Unit:=()
def tw95760186325159852:Unit:=()
def tw12823117556988641979:Unit:=()
def tw12751254200664434848:Unit:=()
def tw11711792076054508927:Unit:=()
def tw14447967575911023969:Unit:=()
def tw18163157609680186622:Unit:=()
def tw12690012495455590615:Unit:=()
def tw4799165147990565330:Unit:=()
def tw16577660947264480134:Unit:=()
def tw104565693486543904:Unit:=()
def tw370607808359859530:Unit:=()
def tw10833065825996357882:Unit:=()
def tw16720477754018548477:Unit:=()
def tw13782825328295411775:Unit:=()
def tw18418119863174009478:Unit:=()
def tw7677151935291974650:Unit:=()
def tw1263224236420361107:Unit:=()
def tw17247664583977105313:Unit:=()
def tw329894950206771077:Unit:=()
def tw14807562852183834514:Unit:=()
def tw5630202268391424477:Unit:=()
def tw5039020284683821298:Unit:=()
def tw10049145684201947207:Unit:=()
def tw9833127809149458159:Unit:=()
def tw2866197782643020429:Unit:=()
def tw11595537979414932702:Unit:=()
def tw5861160486034965680:Unit:=()
def tw3008256118472202772:Unit:=()
def tw15497183502722241018:Unit:=()
def tw9515244948514228958:Unit:=()
def tw8284982574409790381:Unit:=()
def tw8085975381412506774:Unit:=()
def tw12808779359720461869:Unit:=()
def tw18207295563932674064:Unit:=()
def tw13068956322033430166:Unit:=()
def tw6826655153436138569:Unit:=()
def tw16513419111551705352:Unit:=()
def tw14080224024347291302:Unit:=()
def tw12487498713880010190:Unit:=()
def tw17642006409753439608:Unit:=()
def tw10222194211091328325:Unit:=()
def tw13187615128262201029:Unit:=()
def tw3984569185946770727:Unit:=()
def tw13666569018217152329:Unit:=()
def tw5876884476142806951:Unit:=()
def tw13548920904560555708:Unit:=()
def tw7273493367325066948:Unit:=()
end PySem.W.Fast
open PySem PySem.W PyProof.Rows
set_option maxRecDepth 100000 in
set_option maxHeartbeats 0 in
theorem PySem.Challenge.cw_bandwright_k63_backs_of_turned_rows_holds : PySem.Challenge.rw_bandwright_k63_backs_of_turned_rows.Holds := by
 w_on;o_law;k_head;(case hw=>w_witness2)
 k_fill
 refine My.walk (l:=PySem.Challenge.rw_bandwright_k63_backs_of_turned_rows) rfl rfl (fun w h Y=>PySem.W.kIn_of Y) ?F
 case F=>
  intro w mg fa h KX G wR
  have T:∃t,My.Txt (L2.Im KX) mg t:=by
   dsimp only [L2.Im]
   refine' My.Xe KX G ?Ga ?Gb ?Gd ?Ge (bw KX G ?Yg) (L2.bP (st:=My.Ar) ?Yh ?Yi ?Yj) (bw KX G ?Yk) (L2.bP (st:=My.As) ?Yl ?Ym ?Yn) (bw KX G ?Yo) (L2.bP (st:=My.Au) ?Yp ?Yq ?Yr) (bw KX G ?Ys) (L2.bP (st:=My.Av) ?Yt ?Yu ?Yv) (bw KX G ?Yw) (L2.bP (st:=My.Aw) ?Yx ?Yy ?Yz) (bw KX G ?YA) (L2.bP (st:=My.Ax) ?YB ?YC ?YD) (bw KX G ?YE) (L2.bP (st:=My.Ay) ?YF ?YG ?YH) (bw KX G ?YI) (L2.bP (st:=My.Az) ?YJ ?YK ?YL) (bw KX G ?YM) (L2.bP (st:=My.AA) ?YN ?YO ?YQ) (bw KX G ?YR) (L2.bP (st:=My.AB) ?YS ?YT ?YU) (bw KX G ?YV) (L2.bP (st:=My.AD) ?YW ?YX ?YY) (bw KX G ?YZ) (L2.bP (st:=My.AE) ?Y0 ?Y3 ?Y4) (bw KX G ?Y5) (L2.bP (st:=My.AF) ?Y6 ?Y7 ?Y8) (bw KX G ?Y9) (L2.bP (st:=My.AG) ?Y_ ?Za ?Zb) (bw KX G ?Zc) (L2.bP (st:=My.AH) ?Zd ?Ze ?Zf) (bw KX G ?Zg) (L2.bP (st:=My.AI) ?Zh ?Zi ?Zj) (bw KX G ?Zk) (L2.bP (st:=My.AJ) ?Zl ?Zm ?Zn) (bw KX G ?Zo) (L2.bP (st:=My.AK) ?Zp ?Zq ?Zr) (bw KX G ?Zs) (L2.bP (st:=My.AL) ?Zu ?Zv ?Zw) (bw KX G ?Zx) (L2.bP (st:=My.AM) ?Zy ?Zz ?ZA) (bw KX G ?ZC) (L2.bP (st:=My.AN) ?ZD ?ZE ?ZF) (bw KX G ?ZG) (L2.bP (st:=My.AO) ?ZH ?ZI ?ZJ) (bw KX G ?ZK) (L2.bP (st:=My.AQ) ?ZL ?ZM ?ZN) (bw KX G ?ZO) (L2.bP (st:=My.AR) ?ZP ?ZQ ?ZR) (bw KX G ?ZS) (L2.bP (st:=My.AS) ?ZT ?ZU ?ZV) (bw KX G ?ZY) (L2.bP (st:=My.AU) ?ZZ ?Z0 ?Z1) (bw KX G ?Z2) (L2.bP (st:=My.AV) ?Z3 ?Z4 ?Z5) (bw KX G ?Z6) (L2.bP (st:=My.AW) ?Z7 ?Z8 ?Z9) (bw KX G ?Z_) (L2.bP (st:=My.AX) ?aaa ?aab ?aac) (bw KX G ?aad) (L2.bP (st:=My.AY) ?aae ?aaf ?aag) (bw KX G ?aah) (L2.bP (st:=My.AZ) ?aai ?aaj ?aak) (bw KX G ?aal) (L2.bP (st:=My.A0) ?aam ?aan ?aao) (bw KX G ?aap) (L2.bP (st:=My.A3) ?aaq ?aar ?aas) (bw KX G ?aat) (L2.bP (st:=My.A4) ?aau ?aav ?aaw) (bw KX G ?aax) (L2.bP (st:=My.A5) ?aay ?aaz ?aaA) (bw KX G ?aaB) (L2.bP (st:=My.A6) ?aaC ?aaD ?aaE) (bw KX G ?aaF) (L2.bP (st:=My.A7) ?aaG ?aaH ?aaI) (bw KX G ?aaJ) (L2.bP (st:=My.A8) ?aaK ?aaL ?aaM) (bw KX G ?aaN) (L2.bP (st:=My.A9) ?aaO ?aaP ?aaQ) (bw KX G ?aaR) (L2.bP (st:=My.A_) ?aaS ?aaT ?aaU) (bw KX G ?aaV) (L2.bP (st:=My.Ba) ?aaW ?aaX ?aaY) (bw KX G ?aaZ) (L2.bP (st:=My.Bb) ?aa0 ?aa1 ?aa2) (bw KX G ?aa3) (L2.bP (st:=My.Bc) ?aa4 ?aa5 ?aa6) (bw KX G ?aa7) (L2.bP (st:=My.Bd) ?aa8 ?aa9 ?aa_) (bw KX G ?aba) (L2.bP (st:=My.Be) ?abb ?abc ?abd) ⟨?abe,?abf,?abg,?abh⟩ (L2.bP (st:=My.Bf) ?abi ?abj ?abk) ?Gf ?Gg ?vH ?vI ?rP ?vJ ⟨?abl,?abm,?abn⟩ (L2.bP (st:=My.Bg) ?abo ?abp ?abq) ⟨?abr,?abt,?abu⟩ (L2.bP (st:=My.Bh) ?abv ?abw ?abx) ?Gh ?Gi ?Gj ?Gk ?Gm ?Gn ?Gp ?Gq ?Gr ?Gs ?Gu ?Gv ?Gw ?Gx ?Gy ?Gz ?GA ?GB ?GC ?GD ?GF ?GG ?GH ?GI ?GJ ?GK
   (case Ga|Gb|Gd|Ge|Yg|Yh|Yi|Yj|Yk|Yl|Ym|Yn|Yo|Yp|Yq|Yr|Ys|Yt|Yu|Yv|Yw|Yx|Yy|Yz|YA|YB|YC|YD|YE|YF|YG|YH|YI|YJ|YK|YL|YM|YN|YO|YQ|YR|YS|YT|YU|YV|YW|YX|YY|YZ|Y0|Y3|Y4|Y5|Y6|Y7|Y8|Y9|Y_|Za|Zb|Zc|Zd|Ze|Zf|Zg|Zh|Zi|Zj|Zk|Zl|Zm|Zn|Zo|Zp|Zq|Zr|Zs|Zu|Zv|Zw|Zx|Zy|Zz|ZA|ZC|ZD|ZE|ZF|ZG|ZH|ZI|ZJ|ZK|ZL|ZM|ZN|ZO|ZP|ZQ|ZR|ZS|ZT|ZU|ZV|ZY|ZZ|Z0|Z1|Z2|Z3|Z4|Z5|Z6|Z7|Z8|Z9|Z_|aaa|aab|aac|aad|aae|aaf|aag|aah|aai|aaj|aak|aal|aam|aan|aao|aap|aaq|aar|aas|aat|aau|aav|aaw|aax|aay|aaz|aaA|aaB|aaC|aaD|aaE|aaF|aaG|aaH|aaI|aaJ|aaK|aaL|aaM|aaN|aaO|aaP|aaQ|aaR|aaS|aaT|aaU|aaV|aaW|aaX|aaY|aaZ|aa0|aa1|aa2|aa3|aa4|aa5|aa6|aa7|aa8|aa9|aa_|aba|abb|abc|abd|abe|abf|abg|abh|abi|abj|abk|Gf|Gg|vH|vI|rP|vJ|abl|abm|abn|abo|abp|abq|abr|abt|abu|abv|abw|abx|Gh|Gi|Gj|Gk|Gm|Gn|Gp|Gq|Gr|Gs|Gu|Gv|Gw|Gx|Gy|Gz|GA|GB|GC|GD|GF|GG|GH=>k_is)
   (case GI|GJ|GK=>k_exc)
  obtain ⟨t,T⟩:=T
  have e0:=wR.symm.trans T.Ln
  cases e0
  exact My.Xd T
#print axioms PySem.Challenge.cw_bandwright_k63_backs_of_turned_rows_holds
